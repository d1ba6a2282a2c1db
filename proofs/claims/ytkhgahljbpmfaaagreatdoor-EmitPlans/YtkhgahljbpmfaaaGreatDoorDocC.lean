import Derived.Test.YtkhgahljbpmfaaaGreatDoorWlkM
import Derived.Maps.OwnSet
import Derived.DeepKeys4
import Derived.Laws.CopyOwn
import Derived.Laws.Bits64b
set_option maxRecDepth 100000
set_option maxHeartbeats 8000000
namespace Go.Proofs.YtkhgahljbpmfaaaGreatDoor
open Option renaming none->G0,some->G1
open Nat renaming le_refl->G4,lt_of_lt_of_le->Hh,not_lt_zero->Ir,add_zero->Is,zero_add->Ix,lt_or_ge->Kc,lt_of_succ_lt->Ky
open Go.Proofs.Tryz renaming prog->G5,results112->Ig,results183->Ij,underlying35->Iu,results186->IC,underlying3->Jk,results222->Km
open Go renaming World->G9,lt_of_block->Ha,bodyPost_ret->Hb,heap_alloc_new->Hc,Value->He,results->Hk,heap_setCell_other->Hl,Calls->Hn,maxLen->Hu,Addr->Hw,cell_of_row->If,TypeId->Il,frozen_of_row->IK,Ending->Ja,madeCells->Jb,MemPlace->JD,DataW->JO,Program->JT,splice->Kh
open List renaming getElem?_eq_getElem->Hd,getElem?_eq_none->Ie,replicate->Ik,getElem?_replicate->Iw,getElem?_append_right->IF,mem_of_getElem?->IT,getElem?_append_left->IV,eq_nil_of_length_eq_zero->Jt,ext_getElem?->JK
open Go.RowKit renaming Below->Hf,intOf->Ih,wrap64->Io
open Go.RowKit.Below renaming refl->Hi,heap_alloc->Hj
open Bool renaming eq_iff_iff->Hm
open Go.Value renaming int->Hp
open Go.Instr renaming lookup->Ku
open Int renaming toNat_natCast->IE,reduceEq->Kd
open Prod.mk renaming injEq->Jf
open Option.some renaming injEq->Ji
open Go.AllReadyH renaming cons->Js
open Go.Ending renaming returned->Jx
open Go.Addr renaming add->JA
open Go.Maps renaming size->Kb,has->Kr
open Go.WideAt renaming IsKeyLit->Kl
open Go.ChangeShapes Go.WideShapes Go.ChangeAt Go.RowKit
set_option linter.unusedVariables false
set_option linter.unusedSimpArgs false
theorem ej {nm:List UInt8}{b:Bool}(h:(nm==[])=b):((⟨nm.toArray⟩:ByteArray)==⟨#[]⟩)=b:=by
 rw[<-h];cases nm with
 | nil=>rfl
 | Js x r =>
  show (List.toArray (x::r)==#[])=((x::r)==[]);rw[Hm];simp
theorem Am (e:Ex)(ao:Option Hw)(cap:Nat)(w:G9)(t:e.nm.length<=Hu) :
  Hn G5 172 #[exN e ao cap] w λx w'=>x=.returned (.bool (eg e.k e.n e.nm e.kids.len))/\Hf w.heap.size w w':=by
 obtain⟨k0,n,nm,a,f⟩:=e;simp only at t;obtain⟨W,y⟩:=exq (eg k0 n nm f.len);simp only;rw[<-y];have g:Hid (W=eg k0 n nm f.len):=y;clear y;have m:Hf w.heap.size w (w.alloc (zNv k0 n nm ao f.len cap)):=(Hi _ w).alloc (G4 _) _;have v:(w.alloc (zNv k0 n nm ao f.len cap)).heap[w.heap.size]?=G1 (zNv k0 n nm ao f.len cap):=Hc w _;rw[dR];go_enter Tryz.func172,Tryz.ntmps172;go_upto_region 1 with fail;generalize w.alloc (zNv k0 n nm ao f.len cap)=w0 at *;obtain⟨bx,r⟩:=exq w.heap.size;rw[<-r] at v m ⊢;have o:Hid (bx=w.heap.size):=r;clear r;obtain⟨p0,p1,p2,p3,B⟩:=ep v;have U:∀ {b:Bool},W=b->Value.bool b=.bool W:=λh=>by rw[h]
 by_cases u:(1<=k0/\k0<=3)\/(5<=k0/\k0<=26)
 case neg =>
  have d:Hid (W=false):=by
   show W=_;rw[g.out];cases C:eg k0 n nm f.len with
   | false=>rfl
   | true=>have:=gX C;omega
  have b1:∀ c:Int,(1<=c/\c<=3)\/(5<=c/\c<=26)->(k0==c)=false:=λc z=>by simp;omega
  have c1:=b1 1 (by omega);have c2:=b1 2 (by omega);have c3:=b1 3 (by omega);have c5:=b1 5 (by omega);have c6:=b1 6 (by omega);have Z:=b1 7 (by omega);have Y:=b1 8 (by omega);have c9:=b1 9 (by omega);have T:=b1 10 (by omega);have S:=b1 11 (by omega);have R:=b1 12 (by omega);have Q:=b1 13 (by omega);have P:=b1 14 (by omega);have O:=b1 15 (by omega);have N:=b1 16 (by omega);have M:=b1 17 (by omega);have L:=b1 18 (by omega);have K:=b1 19 (by omega);have c20:=b1 20 (by omega);have c21:=b1 21 (by omega);have J:=b1 22 (by omega);have I:=b1 23 (by omega);have H:=b1 24 (by omega);have G:=b1 25 (by omega);have F:=b1 26 (by omega);clear g v p1 p2 p3 u b1;go_wp2;go_ret;rw[d.out];exact⟨rfl,by rw[<-o.out];exact m⟩
 case pos =>
 have z:k0=1\/k0=2\/k0=3\/k0=5\/k0=6\/k0=7\/k0=8\/k0=9\/k0=10\/k0=11\/k0=12\/k0=13\/k0=14\/k0=15\/k0=16\/k0=17\/k0=18\/k0=19\/k0=20\/k0=21\/k0=22\/k0=23\/k0=24\/k0=25\/k0=26:=by omega
 clear u v;rcases z with rfl|rfl|rfl|rfl|rfl|rfl|rfl|rfl|rfl|rfl|rfl|rfl|rfl|rfl|rfl|rfl|rfl|rfl|rfl|rfl|rfl|rfl|rfl|rfl|rfl
 ·cases l:(nm==[]) with
  | false =>
   have p:=ej l;have d:Hid (W=false):=by show W=_;rw[g.out];simp[eg,l]
   clear g;go_wp2;go_ret;rw[d.out];exact⟨rfl,by rw[<-o.out];exact m⟩
  | true =>
   have p:=ej l;cases g1:((f.len:Int)==0) with
   | false =>
    have j:(f.len==0)=false:=by have h:=g1;rw[Hm] at h ⊢;simp at h ⊢;omega
    have d:Hid (W=false):=by show W=_;rw[g.out];simp[eg,l,j]
    clear g;go_wp2;go_ret;rw[d.out];exact⟨rfl,by rw[<-o.out];exact m⟩
   | true =>
    have j:(f.len==0)=true:=by have h:=g1;rw[Hm] at h ⊢;simp at h ⊢;omega
    have d:Hid (W=true):=by show W=_;rw[g.out];simp[eg,l,j]
    clear g;go_wp2;go_ret;rw[d.out];exact⟨rfl,by rw[<-o.out];exact m⟩
 ·cases l:(n==0) with
  | true =>
   cases g1:(nm==[]) with
   | false =>
    have j:=ej g1;have d:Hid (W=false):=by show W=_;rw[g.out];simp[eg,l,g1]
    clear g;go_wp2;go_ret;rw[d.out];exact⟨rfl,by rw[<-o.out];exact m⟩
   | true =>
    have j:=ej g1;have d:Hid (W=((f.len:Int)==0)):=by show W=_;rw[g.out];rw[Hm];simp[eg,l,g1]
    clear g;go_wp2;go_ret;rw[d.out];exact⟨rfl,by rw[<-o.out];exact m⟩
  | false =>
   cases g2:(n==1) with
   | false =>
    have d:Hid (W=false):=by show W=_;rw[g.out];simp[eg,l,g2]
    clear g;go_wp2;go_ret;rw[d.out];exact⟨rfl,by rw[<-o.out];exact m⟩
   | true =>
    cases g1:(nm==[]) with
    | false =>
     have j:=ej g1;have d:Hid (W=false):=by show W=_;rw[g.out];simp[eg,l,g1]
     clear g;go_wp2;go_ret;rw[d.out];exact⟨rfl,by rw[<-o.out];exact m⟩
    | true =>
     have j:=ej g1;have d:Hid (W=((f.len:Int)==0)):=by show W=_;rw[g.out];rw[Hm];simp[eg,l,g1,g2]
     clear g;go_wp2;go_ret;rw[d.out];exact⟨rfl,by rw[<-o.out];exact m⟩
 ·cases l:decide (0<=n) with
  | false =>
   have p:=of_decide_eq_false l;have d:Hid (W=false):=by show W=_;rw[g.out];simp[eg,p]
   clear g;go_wp2;go_ret;rw[d.out];exact⟨rfl,by rw[<-o.out];exact m⟩
  | true =>
   have p:=of_decide_eq_true l;cases g1:(nm==[]) with
   | false =>
    have j:=ej g1;have d:Hid (W=false):=by show W=_;rw[g.out];simp[eg,p,g1]
    clear g;go_wp2;go_ret;rw[d.out];exact⟨rfl,by rw[<-o.out];exact m⟩
   | true =>
    have j:=ej g1;cases g2:((f.len:Int)==0) with
    | false =>
     have i:(f.len==0)=false:=by have h:=g2;rw[Hm] at h ⊢;simp at h ⊢;omega
     have d:Hid (W=false):=by show W=_;rw[g.out];simp[eg,p,g1,i]
     clear g;go_wp2;go_ret;rw[d.out];exact⟨rfl,by rw[<-o.out];exact m⟩
    | true =>
     have i:(f.len==0)=true:=by have h:=g2;rw[Hm] at h ⊢;simp at h ⊢;omega
     have d:Hid (W=true):=by show W=_;rw[g.out];simp[eg,p,g1,i]
     clear g;go_wp2;go_ret;rw[d.out];exact⟨rfl,by rw[<-o.out];exact m⟩
 ·cases l:decide (0<=n) with
  | false =>
   have p:=of_decide_eq_false l;have d:Hid (W=false):=by show W=_;rw[g.out];simp[eg,p]
   clear g;go_wp2;go_ret;rw[d.out];exact⟨rfl,by rw[<-o.out];exact m⟩
  | true =>
   have p:=of_decide_eq_true l;cases g1:(nm==[]) with
   | false =>
    have j:=ej g1;have d:Hid (W=false):=by show W=_;rw[g.out];simp[eg,p,g1]
    clear g;go_wp2;go_ret;rw[d.out];exact⟨rfl,by rw[<-o.out];exact m⟩
   | true =>
    have j:=ej g1;cases g2:((f.len:Int)==0) with
    | false =>
     have i:(f.len==0)=false:=by have h:=g2;rw[Hm] at h ⊢;simp at h ⊢;omega
     have d:Hid (W=false):=by show W=_;rw[g.out];simp[eg,p,g1,i]
     clear g;go_wp2;go_ret;rw[d.out];exact⟨rfl,by rw[<-o.out];exact m⟩
    | true =>
     have i:(f.len==0)=true:=by have h:=g2;rw[Hm] at h ⊢;simp at h ⊢;omega
     have d:Hid (W=true):=by show W=_;rw[g.out];simp[eg,p,g1,i]
     clear g;go_wp2;go_ret;rw[d.out];exact⟨rfl,by rw[<-o.out];exact m⟩
 ·cases l:(n==0) with
  | false =>
   have d:Hid (W=false):=by show W=_;rw[g.out];simp[eg,l]
   clear g;go_wp2;go_ret;rw[d.out];exact⟨rfl,by rw[<-o.out];exact m⟩
  | true =>
   cases g1:(nm==[]) with
   | false =>
    have j:=ej g1;have d:Hid (W=false):=by show W=_;rw[g.out];simp[eg,l,g1]
    clear g;go_wp2;go_ret;rw[d.out];exact⟨rfl,by rw[<-o.out];exact m⟩
   | true =>
    have j:=ej g1;cases g2:((f.len:Int)==1) with
    | false =>
     have i:(f.len==1)=false:=by have h:=g2;rw[Hm] at h ⊢;simp at h ⊢;omega
     have d:Hid (W=false):=by show W=_;rw[g.out];simp[eg,l,g1,i]
     clear g;go_wp2;go_ret;rw[d.out];exact⟨rfl,by rw[<-o.out];exact m⟩
    | true =>
     have i:(f.len==1)=true:=by have h:=g2;rw[Hm] at h ⊢;simp at h ⊢;omega
     have d:Hid (W=true):=by show W=_;rw[g.out];simp[eg,l,g1,i]
     clear g;go_wp2;go_ret;rw[d.out];exact⟨rfl,by rw[<-o.out];exact m⟩
 ·cases l:(n==0) with
  | false =>
   have d:Hid (W=false):=by show W=_;rw[g.out];simp[eg,l]
   clear g;go_wp2;go_ret;rw[d.out];exact⟨rfl,by rw[<-o.out];exact m⟩
  | true =>
   cases g1:(nm==[]) with
   | false =>
    have j:=ej g1;have d:Hid (W=false):=by show W=_;rw[g.out];simp[eg,l,g1]
    clear g;go_wp2;go_ret;rw[d.out];exact⟨rfl,by rw[<-o.out];exact m⟩
   | true =>
    have j:=ej g1;cases g2:((f.len:Int)==1) with
    | false =>
     have i:(f.len==1)=false:=by have h:=g2;rw[Hm] at h ⊢;simp at h ⊢;omega
     have d:Hid (W=false):=by show W=_;rw[g.out];simp[eg,l,g1,i]
     clear g;go_wp2;go_ret;rw[d.out];exact⟨rfl,by rw[<-o.out];exact m⟩
    | true =>
     have i:(f.len==1)=true:=by have h:=g2;rw[Hm] at h ⊢;simp at h ⊢;omega
     have d:Hid (W=true):=by show W=_;rw[g.out];simp[eg,l,g1,i]
     clear g;go_wp2;go_ret;rw[d.out];exact⟨rfl,by rw[<-o.out];exact m⟩
 ·cases l:(n==0) with
  | false =>
   have d:Hid (W=false):=by show W=_;rw[g.out];simp[eg,l]
   clear g;go_wp2;go_ret;rw[d.out];exact⟨rfl,by rw[<-o.out];exact m⟩
  | true =>
   cases g1:(nm==[]) with
   | false =>
    have j:=ej g1;have d:Hid (W=false):=by show W=_;rw[g.out];simp[eg,l,g1]
    clear g;go_wp2;go_ret;rw[d.out];exact⟨rfl,by rw[<-o.out];exact m⟩
   | true =>
    have j:=ej g1;cases g2:((f.len:Int)==2) with
    | false =>
     have i:(f.len==2)=false:=by have h:=g2;rw[Hm] at h ⊢;simp at h ⊢;omega
     have d:Hid (W=false):=by show W=_;rw[g.out];simp[eg,l,g1,i]
     clear g;go_wp2;go_ret;rw[d.out];exact⟨rfl,by rw[<-o.out];exact m⟩
    | true =>
     have i:(f.len==2)=true:=by have h:=g2;rw[Hm] at h ⊢;simp at h ⊢;omega
     have d:Hid (W=true):=by show W=_;rw[g.out];simp[eg,l,g1,i]
     clear g;go_wp2;go_ret;rw[d.out];exact⟨rfl,by rw[<-o.out];exact m⟩
 ·cases l:(n==0) with
  | false =>
   have d:Hid (W=false):=by show W=_;rw[g.out];simp[eg,l]
   clear g;go_wp2;go_ret;rw[d.out];exact⟨rfl,by rw[<-o.out];exact m⟩
  | true =>
   cases g1:(nm==[]) with
   | false =>
    have j:=ej g1;have d:Hid (W=false):=by show W=_;rw[g.out];simp[eg,l,g1]
    clear g;go_wp2;go_ret;rw[d.out];exact⟨rfl,by rw[<-o.out];exact m⟩
   | true =>
    have j:=ej g1;cases g2:((f.len:Int)==2) with
    | false =>
     have i:(f.len==2)=false:=by have h:=g2;rw[Hm] at h ⊢;simp at h ⊢;omega
     have d:Hid (W=false):=by show W=_;rw[g.out];simp[eg,l,g1,i]
     clear g;go_wp2;go_ret;rw[d.out];exact⟨rfl,by rw[<-o.out];exact m⟩
    | true =>
     have i:(f.len==2)=true:=by have h:=g2;rw[Hm] at h ⊢;simp at h ⊢;omega
     have d:Hid (W=true):=by show W=_;rw[g.out];simp[eg,l,g1,i]
     clear g;go_wp2;go_ret;rw[d.out];exact⟨rfl,by rw[<-o.out];exact m⟩
 ·cases l:(n==0) with
  | false =>
   have d:Hid (W=false):=by show W=_;rw[g.out];simp[eg,l]
   clear g;go_wp2;go_ret;rw[d.out];exact⟨rfl,by rw[<-o.out];exact m⟩
  | true =>
   cases g1:(nm==[]) with
   | false =>
    have j:=ej g1;have d:Hid (W=false):=by show W=_;rw[g.out];simp[eg,l,g1]
    clear g;go_wp2;go_ret;rw[d.out];exact⟨rfl,by rw[<-o.out];exact m⟩
   | true =>
    have j:=ej g1;cases g2:((f.len:Int)==2) with
    | false =>
     have i:(f.len==2)=false:=by have h:=g2;rw[Hm] at h ⊢;simp at h ⊢;omega
     have d:Hid (W=false):=by show W=_;rw[g.out];simp[eg,l,g1,i]
     clear g;go_wp2;go_ret;rw[d.out];exact⟨rfl,by rw[<-o.out];exact m⟩
    | true =>
     have i:(f.len==2)=true:=by have h:=g2;rw[Hm] at h ⊢;simp at h ⊢;omega
     have d:Hid (W=true):=by show W=_;rw[g.out];simp[eg,l,g1,i]
     clear g;go_wp2;go_ret;rw[d.out];exact⟨rfl,by rw[<-o.out];exact m⟩
 ·cases l:(n==0) with
  | false =>
   have d:Hid (W=false):=by show W=_;rw[g.out];simp[eg,l]
   clear g;go_wp2;go_ret;rw[d.out];exact⟨rfl,by rw[<-o.out];exact m⟩
  | true =>
   cases g1:(nm==[]) with
   | false =>
    have j:=ej g1;have d:Hid (W=false):=by show W=_;rw[g.out];simp[eg,l,g1]
    clear g;go_wp2;go_ret;rw[d.out];exact⟨rfl,by rw[<-o.out];exact m⟩
   | true =>
    have j:=ej g1;cases g2:((f.len:Int)==2) with
    | false =>
     have i:(f.len==2)=false:=by have h:=g2;rw[Hm] at h ⊢;simp at h ⊢;omega
     have d:Hid (W=false):=by show W=_;rw[g.out];simp[eg,l,g1,i]
     clear g;go_wp2;go_ret;rw[d.out];exact⟨rfl,by rw[<-o.out];exact m⟩
    | true =>
     have i:(f.len==2)=true:=by have h:=g2;rw[Hm] at h ⊢;simp at h ⊢;omega
     have d:Hid (W=true):=by show W=_;rw[g.out];simp[eg,l,g1,i]
     clear g;go_wp2;go_ret;rw[d.out];exact⟨rfl,by rw[<-o.out];exact m⟩
 ·cases l:(n==0) with
  | false =>
   have d:Hid (W=false):=by show W=_;rw[g.out];simp[eg,l]
   clear g;go_wp2;go_ret;rw[d.out];exact⟨rfl,by rw[<-o.out];exact m⟩
  | true =>
   cases g1:(nm==[]) with
   | false =>
    have j:=ej g1;have d:Hid (W=false):=by show W=_;rw[g.out];simp[eg,l,g1]
    clear g;go_wp2;go_ret;rw[d.out];exact⟨rfl,by rw[<-o.out];exact m⟩
   | true =>
    have j:=ej g1;cases g2:((f.len:Int)==2) with
    | false =>
     have i:(f.len==2)=false:=by have h:=g2;rw[Hm] at h ⊢;simp at h ⊢;omega
     have d:Hid (W=false):=by show W=_;rw[g.out];simp[eg,l,g1,i]
     clear g;go_wp2;go_ret;rw[d.out];exact⟨rfl,by rw[<-o.out];exact m⟩
    | true =>
     have i:(f.len==2)=true:=by have h:=g2;rw[Hm] at h ⊢;simp at h ⊢;omega
     have d:Hid (W=true):=by show W=_;rw[g.out];simp[eg,l,g1,i]
     clear g;go_wp2;go_ret;rw[d.out];exact⟨rfl,by rw[<-o.out];exact m⟩
 ·cases l:(n==0) with
  | false =>
   have d:Hid (W=false):=by show W=_;rw[g.out];simp[eg,l]
   clear g;go_wp2;go_ret;rw[d.out];exact⟨rfl,by rw[<-o.out];exact m⟩
  | true =>
   cases g1:(nm==[]) with
   | false =>
    have j:=ej g1;have d:Hid (W=false):=by show W=_;rw[g.out];simp[eg,l,g1]
    clear g;go_wp2;go_ret;rw[d.out];exact⟨rfl,by rw[<-o.out];exact m⟩
   | true =>
    have j:=ej g1;cases g2:((f.len:Int)==2) with
    | false =>
     have i:(f.len==2)=false:=by have h:=g2;rw[Hm] at h ⊢;simp at h ⊢;omega
     have d:Hid (W=false):=by show W=_;rw[g.out];simp[eg,l,g1,i]
     clear g;go_wp2;go_ret;rw[d.out];exact⟨rfl,by rw[<-o.out];exact m⟩
    | true =>
     have i:(f.len==2)=true:=by have h:=g2;rw[Hm] at h ⊢;simp at h ⊢;omega
     have d:Hid (W=true):=by show W=_;rw[g.out];simp[eg,l,g1,i]
     clear g;go_wp2;go_ret;rw[d.out];exact⟨rfl,by rw[<-o.out];exact m⟩
 ·cases l:(n==0) with
  | false =>
   have d:Hid (W=false):=by show W=_;rw[g.out];simp[eg,l]
   clear g;go_wp2;go_ret;rw[d.out];exact⟨rfl,by rw[<-o.out];exact m⟩
  | true =>
   cases g1:(nm==[]) with
   | false =>
    have j:=ej g1;have d:Hid (W=false):=by show W=_;rw[g.out];simp[eg,l,g1]
    clear g;go_wp2;go_ret;rw[d.out];exact⟨rfl,by rw[<-o.out];exact m⟩
   | true =>
    have j:=ej g1;cases g2:((f.len:Int)==2) with
    | false =>
     have i:(f.len==2)=false:=by have h:=g2;rw[Hm] at h ⊢;simp at h ⊢;omega
     have d:Hid (W=false):=by show W=_;rw[g.out];simp[eg,l,g1,i]
     clear g;go_wp2;go_ret;rw[d.out];exact⟨rfl,by rw[<-o.out];exact m⟩
    | true =>
     have i:(f.len==2)=true:=by have h:=g2;rw[Hm] at h ⊢;simp at h ⊢;omega
     have d:Hid (W=true):=by show W=_;rw[g.out];simp[eg,l,g1,i]
     clear g;go_wp2;go_ret;rw[d.out];exact⟨rfl,by rw[<-o.out];exact m⟩
 ·cases l:(n==0) with
  | false =>
   have d:Hid (W=false):=by show W=_;rw[g.out];simp[eg,l]
   clear g;go_wp2;go_ret;rw[d.out];exact⟨rfl,by rw[<-o.out];exact m⟩
  | true =>
   cases g1:(nm==[]) with
   | false =>
    have j:=ej g1;have d:Hid (W=false):=by show W=_;rw[g.out];simp[eg,l,g1]
    clear g;go_wp2;go_ret;rw[d.out];exact⟨rfl,by rw[<-o.out];exact m⟩
   | true =>
    have j:=ej g1;cases g2:((f.len:Int)==2) with
    | false =>
     have i:(f.len==2)=false:=by have h:=g2;rw[Hm] at h ⊢;simp at h ⊢;omega
     have d:Hid (W=false):=by show W=_;rw[g.out];simp[eg,l,g1,i]
     clear g;go_wp2;go_ret;rw[d.out];exact⟨rfl,by rw[<-o.out];exact m⟩
    | true =>
     have i:(f.len==2)=true:=by have h:=g2;rw[Hm] at h ⊢;simp at h ⊢;omega
     have d:Hid (W=true):=by show W=_;rw[g.out];simp[eg,l,g1,i]
     clear g;go_wp2;go_ret;rw[d.out];exact⟨rfl,by rw[<-o.out];exact m⟩
 ·cases l:(n==0) with
  | false =>
   have d:Hid (W=false):=by show W=_;rw[g.out];simp[eg,l]
   clear g;go_wp2;go_ret;rw[d.out];exact⟨rfl,by rw[<-o.out];exact m⟩
  | true =>
   cases g1:(nm==[]) with
   | false =>
    have j:=ej g1;have d:Hid (W=false):=by show W=_;rw[g.out];simp[eg,l,g1]
    clear g;go_wp2;go_ret;rw[d.out];exact⟨rfl,by rw[<-o.out];exact m⟩
   | true =>
    have j:=ej g1;cases g2:((f.len:Int)==2) with
    | false =>
     have i:(f.len==2)=false:=by have h:=g2;rw[Hm] at h ⊢;simp at h ⊢;omega
     have d:Hid (W=false):=by show W=_;rw[g.out];simp[eg,l,g1,i]
     clear g;go_wp2;go_ret;rw[d.out];exact⟨rfl,by rw[<-o.out];exact m⟩
    | true =>
     have i:(f.len==2)=true:=by have h:=g2;rw[Hm] at h ⊢;simp at h ⊢;omega
     have d:Hid (W=true):=by show W=_;rw[g.out];simp[eg,l,g1,i]
     clear g;go_wp2;go_ret;rw[d.out];exact⟨rfl,by rw[<-o.out];exact m⟩
 ·cases l:(n==0) with
  | false =>
   have d:Hid (W=false):=by show W=_;rw[g.out];simp[eg,l]
   clear g;go_wp2;go_ret;rw[d.out];exact⟨rfl,by rw[<-o.out];exact m⟩
  | true =>
   cases g1:(nm==[]) with
   | false =>
    have j:=ej g1;have d:Hid (W=false):=by show W=_;rw[g.out];simp[eg,l,g1]
    clear g;go_wp2;go_ret;rw[d.out];exact⟨rfl,by rw[<-o.out];exact m⟩
   | true =>
    have j:=ej g1;cases g2:((f.len:Int)==2) with
    | false =>
     have i:(f.len==2)=false:=by have h:=g2;rw[Hm] at h ⊢;simp at h ⊢;omega
     have d:Hid (W=false):=by show W=_;rw[g.out];simp[eg,l,g1,i]
     clear g;go_wp2;go_ret;rw[d.out];exact⟨rfl,by rw[<-o.out];exact m⟩
    | true =>
     have i:(f.len==2)=true:=by have h:=g2;rw[Hm] at h ⊢;simp at h ⊢;omega
     have d:Hid (W=true):=by show W=_;rw[g.out];simp[eg,l,g1,i]
     clear g;go_wp2;go_ret;rw[d.out];exact⟨rfl,by rw[<-o.out];exact m⟩
 ·cases l:(n==0) with
  | false =>
   have d:Hid (W=false):=by show W=_;rw[g.out];simp[eg,l]
   clear g;go_wp2;go_ret;rw[d.out];exact⟨rfl,by rw[<-o.out];exact m⟩
  | true =>
   cases g1:(nm==[]) with
   | false =>
    have j:=ej g1;have d:Hid (W=false):=by show W=_;rw[g.out];simp[eg,l,g1]
    clear g;go_wp2;go_ret;rw[d.out];exact⟨rfl,by rw[<-o.out];exact m⟩
   | true =>
    have j:=ej g1;cases g2:((f.len:Int)==2) with
    | false =>
     have i:(f.len==2)=false:=by have h:=g2;rw[Hm] at h ⊢;simp at h ⊢;omega
     have d:Hid (W=false):=by show W=_;rw[g.out];simp[eg,l,g1,i]
     clear g;go_wp2;go_ret;rw[d.out];exact⟨rfl,by rw[<-o.out];exact m⟩
    | true =>
     have i:(f.len==2)=true:=by have h:=g2;rw[Hm] at h ⊢;simp at h ⊢;omega
     have d:Hid (W=true):=by show W=_;rw[g.out];simp[eg,l,g1,i]
     clear g;go_wp2;go_ret;rw[d.out];exact⟨rfl,by rw[<-o.out];exact m⟩
 ·cases l:(n==0) with
  | false =>
   have d:Hid (W=false):=by show W=_;rw[g.out];simp[eg,l]
   clear g;go_wp2;go_ret;rw[d.out];exact⟨rfl,by rw[<-o.out];exact m⟩
  | true =>
   cases g1:(nm==[]) with
   | false =>
    have j:=ej g1;have d:Hid (W=false):=by show W=_;rw[g.out];simp[eg,l,g1]
    clear g;go_wp2;go_ret;rw[d.out];exact⟨rfl,by rw[<-o.out];exact m⟩
   | true =>
    have j:=ej g1;cases g2:((f.len:Int)==3) with
    | false =>
     have i:(f.len==3)=false:=by have h:=g2;rw[Hm] at h ⊢;simp at h ⊢;omega
     have d:Hid (W=false):=by show W=_;rw[g.out];simp[eg,l,g1,i]
     clear g;go_wp2;go_ret;rw[d.out];exact⟨rfl,by rw[<-o.out];exact m⟩
    | true =>
     have i:(f.len==3)=true:=by have h:=g2;rw[Hm] at h ⊢;simp at h ⊢;omega
     have d:Hid (W=true):=by show W=_;rw[g.out];simp[eg,l,g1,i]
     clear g;go_wp2;go_ret;rw[d.out];exact⟨rfl,by rw[<-o.out];exact m⟩
 ·cases l:(nm==[]) with
  | false =>
   have p:=ej l;have d:Hid (W=false):=by show W=_;rw[g.out];simp[eg,l]
   clear g;go_wp2;go_ret;rw[d.out];exact⟨rfl,by rw[<-o.out];exact m⟩
  | true =>
   have p:=ej l;have q:Hid (W=((decide (1<=n)&&decide (n<=3)&&f.len==2)||(decide (4<=n)&&decide (n<=10)&&f.len==1))):=by show W=_;rw[g.out];simp[eg,l]
   clear g;by_cases h1:1<=n/\n<=3
   ·obtain⟨h1,E⟩:=h1;cases g1:((f.len:Int)==2) with
    | true =>
     have d:Hid (W=true):=by show W=_;rw[q.out];simp at g1 ⊢;omega
     clear q;go_wp2;go_ret;rw[d.out];exact⟨rfl,by rw[<-o.out];exact m⟩
    | false =>
     have A:¬(4:Int)<=n:=by omega
     have d:Hid (W=false):=by show W=_;rw[q.out];simp at g1 ⊢;omega
     clear q;go_wp2;go_ret;rw[d.out];exact⟨rfl,by rw[<-o.out];exact m⟩
   ·by_cases h2:4<=n/\n<=10
    ·obtain⟨A,h5⟩:=h2;have D:¬n<=3:=by omega
     have X:(1:Int)<=n:=by omega
     have d:Hid (W=((f.len:Int)==1)):=by show W=_;rw[q.out,Hm];simp;omega
     clear q h1;go_wp2;go_ret;rw[d.out];exact⟨rfl,by rw[<-o.out];exact m⟩
    ·have d:Hid (W=false):=by show W=_;rw[q.out];simp;omega
     clear q;by_cases E:1<=n
     ·have A:¬n<=3:=by omega
      have h5:(4:Int)<=n:=by omega
      have D:¬n<=10:=by omega
      clear h1 h2;go_wp2;go_ret;rw[d.out];exact⟨rfl,by rw[<-o.out];exact m⟩
     ·have h5:¬(4:Int)<=n:=by omega
      clear h1 h2;go_wp2;go_ret;rw[d.out];exact⟨rfl,by rw[<-o.out];exact m⟩
 ·cases l:decide (1<=n) with
  | false =>
   have p:=of_decide_eq_false l;have d:Hid (W=false):=by show W=_;rw[g.out];simp[eg,p]
   clear g;go_wp2;go_ret;rw[d.out];exact⟨rfl,by rw[<-o.out];exact m⟩
  | true =>
   have p:=of_decide_eq_true l;cases g1:decide (n<=6) with
   | false =>
    have j:=of_decide_eq_false g1;have d:Hid (W=false):=by show W=_;rw[g.out];simp[eg,p,j]
    clear g;go_wp2;go_ret;rw[d.out];exact⟨rfl,by rw[<-o.out];exact m⟩
   | true =>
    have j:=of_decide_eq_true g1;cases g2:(nm==[]) with
    | false =>
     have i:=ej g2;have d:Hid (W=false):=by show W=_;rw[g.out];simp[eg,p,j,g2]
     clear g;go_wp2;go_ret;rw[d.out];exact⟨rfl,by rw[<-o.out];exact m⟩
    | true =>
     have i:=ej g2;cases g3:((f.len:Int)==2) with
     | false =>
      have s:(f.len==2)=false:=by have h:=g3;rw[Hm] at h ⊢;simp at h ⊢;omega
      have d:Hid (W=false):=by show W=_;rw[g.out];simp[eg,p,j,g2,s]
      clear g;go_wp2;go_ret;rw[d.out];exact⟨rfl,by rw[<-o.out];exact m⟩
     | true =>
      have s:(f.len==2)=true:=by have h:=g3;rw[Hm] at h ⊢;simp at h ⊢;omega
      have d:Hid (W=true):=by show W=_;rw[g.out];simp[eg,p,j,g2,s]
      clear g;go_wp2;go_ret;rw[d.out];exact⟨rfl,by rw[<-o.out];exact m⟩
 ·cases l:(n==0) with
  | false =>
   have d:Hid (W=false):=by show W=_;rw[g.out];simp[eg,l]
   clear g;go_wp2;go_ret;rw[d.out];exact⟨rfl,by rw[<-o.out];exact m⟩
  | true =>
   cases g1:(nm==[]) with
   | false =>
    have j:=ej g1;have d:Hid (W=false):=by show W=_;rw[g.out];simp[eg,l,g1]
    clear g;go_wp2;go_ret;rw[d.out];exact⟨rfl,by rw[<-o.out];exact m⟩
   | true =>
    have j:=ej g1;cases g2:((f.len:Int)==0) with
    | false =>
     have i:(f.len==0)=false:=by have h:=g2;rw[Hm] at h ⊢;simp at h ⊢;omega
     have d:Hid (W=false):=by show W=_;rw[g.out];simp[eg,l,g1,i]
     clear g;go_wp2;go_ret;rw[d.out];exact⟨rfl,by rw[<-o.out];exact m⟩
    | true =>
     have i:(f.len==0)=true:=by have h:=g2;rw[Hm] at h ⊢;simp at h ⊢;omega
     have d:Hid (W=true):=by show W=_;rw[g.out];simp[eg,l,g1,i]
     clear g;go_wp2;go_ret;rw[d.out];exact⟨rfl,by rw[<-o.out];exact m⟩
 ·cases l:(n==0) with
  | false =>
   have d:Hid (W=false):=by show W=_;rw[g.out];simp[eg,l]
   clear g;go_wp2;go_ret;rw[d.out];exact⟨rfl,by rw[<-o.out];exact m⟩
  | true =>
   cases g1:((f.len:Int)==0) with
   | false =>
    have j:(f.len==0)=false:=by have h:=g1;rw[Hm] at h ⊢;simp at h ⊢;omega
    have d:Hid (W=false):=by show W=_;rw[g.out];simp[eg,l,j]
    clear g;go_wp2;go_ret;rw[d.out];exact⟨rfl,by rw[<-o.out];exact m⟩
   | true =>
    have j:(f.len==0)=true:=by have h:=g1;rw[Hm] at h ⊢;simp at h ⊢;omega
    have d:Hid (W=eH nm):=by show W=_;rw[g.out];simp[eg,l,j]
    have c1:=λw=>q9 ⟨nm.toArray⟩ w (by show nm.toArray.size<=Hu;simpa using t);clear g;go_wp2_with (go_at_call 101;refine(c1 _).mono ?_;rintro x w1 ⟨rfl,b1⟩);have V:=m.trans (b1.mono (by have:=o.out;have:=m.size;omega));clear c1 p0 p1 p2 p3 B;go_wp2;go_ret;rw[d.out];exact⟨rfl,by rw[<-o.out];exact V⟩
 ·cases l:(n==0) with
  | false =>
   have d:Hid (W=false):=by show W=_;rw[g.out];simp[eg,l]
   clear g;go_wp2;go_ret;rw[d.out];exact⟨rfl,by rw[<-o.out];exact m⟩
  | true =>
   cases g1:(nm==[]) with
   | false =>
    have j:=ej g1;have d:Hid (W=false):=by show W=_;rw[g.out];simp[eg,l,g1]
    clear g;go_wp2;go_ret;rw[d.out];exact⟨rfl,by rw[<-o.out];exact m⟩
   | true =>
    have j:=ej g1;cases g2:((f.len:Int)==1) with
    | false =>
     have i:(f.len==1)=false:=by have h:=g2;rw[Hm] at h ⊢;simp at h ⊢;omega
     have d:Hid (W=false):=by show W=_;rw[g.out];simp[eg,l,g1,i]
     clear g;go_wp2;go_ret;rw[d.out];exact⟨rfl,by rw[<-o.out];exact m⟩
    | true =>
     have i:(f.len==1)=true:=by have h:=g2;rw[Hm] at h ⊢;simp at h ⊢;omega
     have d:Hid (W=true):=by show W=_;rw[g.out];simp[eg,l,g1,i]
     clear g;go_wp2;go_ret;rw[d.out];exact⟨rfl,by rw[<-o.out];exact m⟩
 ·cases l:(n==0) with
  | false =>
   have d:Hid (W=false):=by show W=_;rw[g.out];simp[eg,l]
   clear g;go_wp2;go_ret;rw[d.out];exact⟨rfl,by rw[<-o.out];exact m⟩
  | true =>
   cases g1:(nm==[]) with
   | false =>
    have j:=ej g1;have d:Hid (W=false):=by show W=_;rw[g.out];simp[eg,l,g1]
    clear g;go_wp2;go_ret;rw[d.out];exact⟨rfl,by rw[<-o.out];exact m⟩
   | true =>
    have j:=ej g1;have d:Hid (W=true):=by show W=_;rw[g.out];simp[eg,l,g1]
    clear g;go_wp2;go_ret;rw[d.out];exact⟨rfl,by rw[<-o.out];exact m⟩
 ·cases l:(nm==[]) with
  | false =>
   have p:=ej l;have d:Hid (W=false):=by show W=_;rw[g.out];simp[eg,l]
   clear g;go_wp2;go_ret;rw[d.out];exact⟨rfl,by rw[<-o.out];exact m⟩
  | true =>
   have p:=ej l;cases g1:((f.len:Int)==1) with
   | false =>
    have j:(f.len==1)=false:=by have h:=g1;rw[Hm] at h ⊢;simp at h ⊢;omega
    have d:Hid (W=false):=by show W=_;rw[g.out];simp[eg,l,j]
    clear g;go_wp2;go_ret;rw[d.out];exact⟨rfl,by rw[<-o.out];exact m⟩
   | true =>
    have j:(f.len==1)=true:=by have h:=g1;rw[Hm] at h ⊢;simp at h ⊢;omega
    have d:Hid (W=true):=by show W=_;rw[g.out];simp[eg,l,j]
    clear g;go_wp2;go_ret;rw[d.out];exact⟨rfl,by rw[<-o.out];exact m⟩
open Go.ChangeShapes Go.WideShapes Go.ChangeAt Go.RowKit Go.Maps
theorem yE {P:JT}{K:Il}{R:He->Option (JO Unit × List JD)}{w:G9}{b n:Nat}{D:JO Unit}(h:w.ownsMap P K R b n D):w.ownsMap P K R b (Kb D) D:=by
 obtain⟨es,clock,hb,F,hs,rfl⟩:=h;exact⟨es,clock,hb,F,by simp[Kb,length_sorted],rfl⟩
theorem wO {P:JT}{K:Il}{R:He->Option (JO Unit × List JD)}{w w':G9}{b n:Nat}{D:JO Unit}(h:w.ownsMap P K R b n D)(e:w'.heap[b]?=w.heap[b]?):w'.ownsMap P K R b n D:=by
 obtain⟨es,clock,hb,F,hs,hD⟩:=h;exact⟨es,clock,e.trans hb,F,hs,hD⟩
theorem qL:Keyed G5 3:=int_keyed Jk
theorem AE (k:Int):Kl (.int .i64 k):=trivial
def mU:List He->Option (JO Unit × List JD)
 | [.int .i64 a,.int .i64 b,.string s,.slice _ 0 _]=>G1 (.agg [.lit (.int .i64 a),.lit (.int .i64 b),.lit (.string s.data.toList),.lit (.int .i64 0)],[])
 | [.int .i64 a,.int .i64 b,.string s,.slice (G1 ⟨g,off,G0⟩) (l+1) c]=>G1 (.agg [.lit (.int .i64 a),.lit (.int .i64 b),.lit (.string s.data.toList),.lit (.int .i64 1),.lit (.int .i64 g),.lit (.int .i64 off),.lit (.int .i64 l),.lit (.int .i64 c)],[])
 | _=>G0
def kM (v:He):Option (JO Unit × List JD) :=
 match v with
 | .agg cs=>mU cs.toList
 | _=>G0
theorem kJ {u:List He}{d:JO Unit}{p:List JD}(h:mU u=G1 (d,p)):∃a b s ao l c,u=[.int .i64 a,.int .i64 b,.string s,.slice ao l c]/\(l=0\/∃g off m,l=m+1/\ao=G1 ⟨g,off,G0⟩):=by
 unfold mU at h;split at h
 ·exact⟨_,_,_,_,_,_,rfl,.inl rfl⟩
 ·exact⟨_,_,_,_,_,_,rfl,.inr ⟨_,_,_,rfl,rfl⟩⟩
 ·cases h
theorem uS {u v:List He}{d:JO Unit}{p q:List JD}(h:mU u=G1 (d,p))(k:mU v=G1 (d,q)):∃a b s ao ao' l c c',u=[.int .i64 a,.int .i64 b,.string s,.slice ao l c]/\v=[.int .i64 a,.int .i64 b,.string s,.slice ao' l c']/\(l=0\/ao=ao'):=by
 obtain⟨a,b,⟨⟨s⟩⟩,ao,l,c,rfl,hao⟩:=kJ h;obtain⟨a',b',⟨⟨s'⟩⟩,ao',l',c',rfl,hao'⟩:=kJ k;rcases hao with rfl|⟨g,off,m,rfl,rfl⟩<;>rcases hao' with rfl|⟨g',off',m',rfl,rfl⟩<;>simp only[mU,Ji,Jf] at h k
 all_goals (
  have e:=h.1.trans k.1.symm;simp at e)
 ·obtain⟨rfl,rfl,rfl⟩:=e;exact⟨_,_,_,_,_,_,_,_,rfl,rfl,.inl rfl⟩
 ·obtain⟨rfl,rfl,rfl,h1,h2,h3,h4⟩:=e;obtain rfl:g=g':=Int.ofNat.inj h1;obtain rfl:off=off':=Int.ofNat.inj h2;obtain rfl:m=m':=Int.ofNat.inj h3;exact⟨_,_,_,_,_,_,_,_,rfl,rfl,.inr rfl⟩
theorem uJ {y:Ex}{ao:Option Hw}{cap:Nat}{v:He}{d:JO Unit}{p q:List JD}(h:kM (exN y ao cap)=G1 (d,p))(k:kM v=G1 (d,q)):∃ao' cap',v=exN y ao' cap'/\(y.kids.len=0\/ao'=ao):=by
 unfold kM at h k;rw[dR] at h;simp only at h;split at k
 ·rename_i cs
  obtain⟨a,b,s,a1,a2,l,c,c',e1,e2,e3⟩:=uS h k;have e2':cs=#[.int .i64 a,.int .i64 b,.string s,.slice a2 l c']:=Array.toList_inj.1 e2;simp at e1;obtain⟨rfl,rfl,rfl,rfl,rfl,rfl⟩:=e1;exact⟨a2,c',by rw[e2'];rfl,e3.imp id Eq.symm⟩
 ·cases k
theorem Aa (w:G9):(zeroValue 34).run G5 w=.ok (.agg #[.int .i64 0,.int .i64 0,.string ⟨#[]⟩,.slice G0 0 0]) w:=by kernel_rfl
def ndZ:JO Unit:=.agg [.lit (.int .i64 0),.lit (.int .i64 0),.lit (.string []),.lit (.int .i64 0)]
theorem nl:kM (.agg #[.int .i64 0,.int .i64 0,.string ⟨#[]⟩,.slice G0 0 0])=G1 (ndZ,[]):=rfl
theorem yC {w:G9}{P:Nat->Prop}(e:Ex){ao:Option Hw}(cap:Nat)(h:SlN w P e.kids ao):∃d,kM (exN e ao cap)=G1 (d,[]):=by
 rcases h with h|⟨b,off,zs,rfl,-⟩
 ·rw[dR,h];exact⟨_,rfl⟩
 ·rw[dR];cases hl:e.kids.len with
  | zero=>exact⟨_,rfl⟩
  | succ m=>exact⟨_,rfl⟩
theorem uF:∀ {f:Fs},f.len=0->f=.nil
 | ⟨G0⟩,_=>rfl
 | ⟨G1 ⟨k,n,nm,a,ks,r⟩⟩,h=>by simp[Fs.len] at h
def MpN (w:G9)(P:Nat->Prop)(b m:Nat)(t:Nat->Option Ex):Prop :=
 ∃D:JO Unit,w.ownsMap G5 3 kM b m D/\Kb D=m /\
  (∀ k y,t k=G1 y->Kr D (.int .i64 (k:Nat))=true/\∃ao cap,kM (exN y ao cap)=G1 (D.atKey (.int .i64 (k:Nat)) ndZ,[])/\SlN w P y.kids ao) /\
  (∀ k:Int,Kr D (.int .i64 k)=true->∃j y,k=(j:Nat)/\t j=G1 y)
theorem MpN.mono {w w':G9}{P:Nat->Prop}{b m:Nat}{t:Nat->Option Ex}(h:MpN w P b m t)(e:w'.heap[b]?=w.heap[b]?)(hb:∀ k,P k->k<w.heap.size->w'.heap[k]?=w.heap[k]?)(hs:w.heap.size<=w'.heap.size):MpN w' P b m t:=by
 obtain⟨D,h1,h2,h3,h4⟩:=h;refine⟨D,wO h1 e,h2,λk y hy=>?_,h4⟩;obtain⟨q1,ao,cap,q2,q3⟩:=h3 k y hy;exact⟨q1,ao,cap,q2,q3.mono hb hs (λ_ h _=>h)⟩
theorem MpN.monoQ {w w':G9}{P Q:Nat->Prop}{b m:Nat}{t:Nat->Option Ex}(h:MpN w P b m t)(e:w'.heap[b]?=w.heap[b]?)(hb:∀ k,P k->k<w.heap.size->w'.heap[k]?=w.heap[k]?)(hs:w.heap.size<=w'.heap.size)(hq:∀ k,P k->k<w.heap.size->Q k):MpN w' Q b m t:=by
 obtain⟨D,h1,h2,h3,h4⟩:=h;refine⟨D,wO h1 e,h2,λk y hy=>?_,h4⟩;obtain⟨q1,ao,cap,q2,q3⟩:=h3 k y hy;exact⟨q1,ao,cap,q2,q3.mono hb hs hq⟩
theorem MpN.made (w:G9)(P:Nat->Prop):MpN (w.alloc (.map #[] 0)) P w.heap.size 0 (λ_=>G0) :=
 ⟨.map [],World.ownsMap_made _ _ _ _,rfl,λk y h=>by simp at h,λk h=>by simp[Kr] at h⟩
theorem MpN.lt {w:G9}{P:Nat->Prop}{b m:Nat}{t:Nat->Option Ex}(h:MpN w P b m t):b<w.heap.size:=by
 obtain⟨D,h1,-⟩:=h;exact h1.lt
theorem MpN.gone {t:Nat->Option Ex}{D:JO Unit}(h5:∀ k:Int,Kr D (.int .i64 k)=true->∃j y,k=(j:Nat)/\t j=G1 y){k:Nat}(hn:t k=G0):Kr D (.int .i64 (k:Nat))=false:=by
 cases hh:Kr D (.int .i64 (k:Nat)) with
 | false=>rfl
 | true =>
  obtain⟨j,y,e,hf⟩:=h5 _ hh;obtain rfl:k=j:=Int.ofNat.inj e;rw[hn] at hf;cases hf
theorem MpN.look {w:G9}{P:Nat->Prop}{b m:Nat}{t:Nat->Option Ex}(h:MpN w P b m t){k:Nat}(hk:(Lit.int .i64 (k:Nat)).wf=true){y:Ex}(hf:t k=G1 y) :
  ∃ao cap,(Ku 168 (.map (G1 b)) (.int .i64 (k:Nat)) true).run G5 w=.ok (.tuple #[exN y ao cap,.bool true]) w/\SlN w P y.kids ao:=by
 obtain⟨D,h1,h2,h4,h5⟩:=h;obtain⟨c,ps,hr,hc⟩:=h1.look_ok qL Tryz.underlying168 (Aa w) nl (keyOf_int_mk Jk hk);obtain⟨q1,ao,cap,q2,q3⟩:=h4 k y hf;obtain⟨ao',cap',e1,e2⟩:=uJ q2 hc;rw[q1,e1] at hr;refine⟨ao',cap',hr,?_⟩;rcases e2 with e2|rfl
 ·rw[uF e2];exact SlN.nil _ _ _
 ·exact q3
theorem MpN.miss {w:G9}{P:Nat->Prop}{b m:Nat}{t:Nat->Option Ex}(h:MpN w P b m t){k:Nat}(hk:(Lit.int .i64 (k:Nat)).wf=true)(hf:t k=G0) :
  ∃x y s ao l cap,(Ku 168 (.map (G1 b)) (.int .i64 (k:Nat)) true).run G5 w=.ok (.tuple #[.agg #[.int .i64 x,.int .i64 y,.string s,.slice ao l cap],.bool false]) w:=by
 obtain⟨D,h1,h2,h4,h5⟩:=h;obtain⟨c,ps,hr,hc⟩:=h1.look_ok qL Tryz.underlying168 (Aa w) nl (keyOf_int_mk Jk hk);rw[MpN.gone h5 hf] at hr;unfold kM at hc;split at hc
 ·rename_i cs
  obtain⟨x,y,s,ao,l,cap,e,-⟩:=kJ hc;have e2:cs=#[.int .i64 x,.int .i64 y,.string s,.slice ao l cap]:=Array.toList_inj.1 e;subst e2;exact⟨x,y,s,ao,l,cap,hr⟩
 ·cases hc
theorem MpN.put {w:G9}{P:Nat->Prop}{b m:Nat}{t:Nat->Option Ex}(h:MpN w P b m t)(hP:¬P b)(k:Nat)(y:Ex)(ao:Option Hw)(cap:Nat)(hk:(Lit.int .i64 (k:Nat)).wf=true)(hm:m<=100000)(hf:t k=G0)(S:SlN w P y.kids ao) :
  ∃w',(Instr.mapUpdate 168 (.map (G1 b)) (.int .i64 (k:Nat)) (exN y ao cap)).run G5 w=.ok () w'/\MpN w' P b (m+1) (λi=>if i=k then G1 y else t i)/\w.mapTurned w' b:=by
 obtain⟨D,h1,h2,h4,h5⟩:=h;obtain⟨d,hd⟩:=yC y cap S;obtain⟨w',hr,ho,ht⟩:=h1.store (val:=exN y ao cap) (d:=d) (ps:=[]) qL Tryz.underlying168 (by unfold Hu;omega) (keyOf_int_mk Jk hk) hd;have hg:=ht.grown;have hsz:Kb (D.put (.int .i64 (k:Nat)) d)=m+1:=by
  rw[size_put (h1.tidy qL),h2,MpN.gone h5 hf];simp
 have ho':=yE ho;rw[hsz] at ho';have hSl:∀ {f:Fs}{ao:Option Hw},SlN w P f ao->SlN w' P f ao:=λS=>S.mono (λi hp hl=>hg.block i hl (λe=>hP (by cases e;exact hp))) hg.size (λ_ h _=>h);refine⟨w',hr,⟨_,ho',hsz,λj z hj=>?_,λj hj=>?_⟩,ht⟩
 ·by_cases e:j=k
  ·subst e;simp only[if_true] at hj;injection hj with hj
   subst hj;rw[has_put_same h1.isMap (AE _),atKey_put_same h1.isMap (AE _)];exact⟨rfl,ao,cap,hd,hSl S⟩
  ·have hne:Lit.int .i64 (j:Nat)≠Lit.int .i64 (k:Nat):=λh=>e (by simp at h;omega);simp only[e,if_false] at hj;rw[has_put_other hne,atKey_put_other hne];obtain⟨q1,ao',cap',q2,q3⟩:=h4 j z hj;exact⟨q1,ao',cap',q2,hSl q3⟩
 ·by_cases e:j=(k:Nat)
  ·exact⟨k,y,e,if_pos rfl⟩
  ·have hne:Lit.int .i64 j≠Lit.int .i64 (k:Nat):=λh=>e (by simp at h;exact h);rw[has_put_other hne] at hj;obtain⟨j',z,rfl,hf'⟩:=h5 j hj;exact⟨j',z,rfl,(if_neg (λh=>e (by rw[h]))).trans hf'⟩
theorem jf {w:G9}{b:Nat}{a0 a1:He}{t:Il}(h:w.heap[b]?=G1 (.cells #[a0,a1] t (0,0))):w.cell? ⟨b,0,G0⟩=G1 a0/\w.cell? ⟨b,1,G0⟩=G1 a1/\∀ j,w.frozen? ⟨b,j,G0⟩=false:=by
 refine⟨?_,?_,λj=>IK w b j _ t h⟩<;>simp[If w b _ _ t (0,0) h]
theorem tF (e:Ex)(ao:Option Hw)(cap:Nat)(w:G9)(hW:Wd w)(hnm:e.nm.length<=Hu):Hn G5 180 #[exN e ao cap] w λx w'=>x=.returned (.bool (nmP e.k e.nm))/\Hf w.heap.size w w':=by
 have B0:Hf w.heap.size w (w.alloc (.cells #[.int .i64 e.k,.int .i64 e.n,stv e.nm,.slice ao e.kids.len cap] 34)):=(Hi _ w).alloc (G4 _) _;have E0:(w.alloc (.cells #[.int .i64 e.k,.int .i64 e.n,stv e.nm,.slice ao e.kids.len cap] 34)).heap[w.heap.size]?=G1 (.cells #[.int .i64 e.k,.int .i64 e.n,stv e.nm,.slice ao e.kids.len cap] 34):=Hc w _;have hW0:=hW.below B0;obtain⟨W,hZ⟩:∃W,W=nmP e.k e.nm:=⟨_,rfl⟩;rw[<-hZ];have HW:Hid (W=nmP e.k e.nm):=hZ;clear hZ;rw[dR];go_enter Tryz.func180,Tryz.ntmps180;go_upto_region 1 with fail;generalize w.alloc (.cells #[.int .i64 e.k,.int .i64 e.n,stv e.nm,.slice ao e.kids.len cap] 34)=w0 at *;obtain⟨bx,hbx⟩:∃bx,bx=w.heap.size:=⟨_,rfl⟩;rw[<-hbx] at E0 B0 ⊢;have HB:Hid (bx=w.heap.size):=hbx;clear hbx;obtain⟨p0,p1,p2,p3,pf⟩:=ep E0;cases hk:(e.k==23) with
 | true =>
  have HZ:Hid (W=eH e.nm):=by show W=_;rw[HW.out];simp[nmP,hk]
  have c1:=Es ⟨e.nm.toArray⟩ w0 hW0 (by show e.nm.toArray.size<=Hu;simpa using hnm);clear HW;go_wp2_with (go_at_call 89;refine c1.mono ?_;rintro x w1 ⟨rfl,b1⟩);have B1:=B0.trans (b1.mono (by have:=HB.out;have:=B0.size;omega));clear c1 p0 p1 p2 p3 pf;go_wp2;go_ret;rw[HZ.out];exact⟨rfl,by rw[<-HB.out];exact B1⟩
 | false =>
  cases hE:(e.nm==[]) with
  | true =>
   have hE2:=ej hE;have HZ:Hid (W=true):=by show W=_;rw[HW.out];simp[nmP,hk,hE]
   clear HW;go_wp2;go_ret;rw[HZ.out];exact⟨rfl,by rw[<-HB.out];exact B0⟩
  | false =>
   have hE2:=ej hE;have HZ:Hid (W=false):=by show W=_;rw[HW.out];simp[nmP,hk,hE]
   clear HW;go_wp2;go_ret;rw[HZ.out];exact⟨rfl,by rw[<-HB.out];exact B0⟩
theorem nB (w:G9)(P:Nat->Prop)(v:He)(ks:List Int)(i:Nat)(hi:i<10)(hl:ks.length<=1000000000)(h:Inw w P v ks):Hn G5 221 #[v,.int .i64 (i:Nat)] w λx w'=>x=.returned (.int .i64 (wkP ks i))/\w'=w:=by
 obtain⟨ao,cap,rfl,h⟩:=h;obtain⟨W,hZ⟩:∃W,W=wkP ks i:=⟨_,rfl⟩;rw[<-hZ];have HW:Hid (W=wkP ks i):=hZ;clear hZ;by_cases hil:i<ks.length
 ·have hx:ks[i]?=G1 ks[i]:=Hd hil;rcases h with rfl|⟨b,off,rfl,-,hb,hc⟩
  ·simp at hil
  have c1:=hc i _ hx;have HZ:Hid (W=if ks[i]=4 then 0 else ks[i]):=by show W=_;rw[HW.out];unfold wkP;rw[hx]
  generalize ks[i]=y at *;have hI:¬(ks.length:Int)<=(i:Int):=by omega
  have hI2:(i:Int)<(ks.length:Int):=by omega
  clear HW hx hc;by_cases h4:y=4
  ·have hb4:(y==4)=true:=by simpa using h4
   have HZ:Hid (W=0):=by show W=_;rw[HZ.out,if_pos h4]
   clear h4;go_enter Tryz.func221,Tryz.ntmps221;go_wp2;go_ret;rw[HZ.out];exact⟨rfl,rfl⟩
  ·have hb4:(y==4)=false:=by simpa using h4
   have HZ:Hid (W=y):=by show W=_;rw[HZ.out,if_neg h4]
   clear h4;go_enter Tryz.func221,Tryz.ntmps221;go_wp2;go_ret;rw[HZ.out];exact⟨rfl,rfl⟩
 ·have hI:(ks.length:Int)<=(i:Int):=by omega
  have HZ:Hid (W=0):=by show W=_;rw[HW.out];unfold wkP;rw[Ie (by omega)]
  clear HW h;go_enter Tryz.func221,Tryz.ntmps221;go_wp2;go_ret;rw[HZ.out];exact⟨rfl,rfl⟩
theorem DI (e:Ex)(ao:Option Hw)(cap ar wi i:Nat)(w:G9)(ha:ar<=1000)(hw:wi<=1000)(hi:i<=1000000000):Hn G5 182 #[.agg #[.int .i64 (ar:Nat),.int .i64 (wi:Nat)],exN e ao cap,.int .i64 (i:Nat)] w λx w'=>x=.returned (.agg #[.int .i64 ((eu e.k i ar wi).1:Nat),.int .i64 ((eu e.k i ar wi).2:Nat)])/\Hf w.heap.size w w':=by
 have BB:∀ o1 o2 o3:Obj,Hf w.heap.size w (((w.alloc o1).alloc o2).alloc o3):=λo1 o2 o3=>(((Hi _ w).alloc (G4 _) _).alloc (by simp) _).alloc (by simp;omega) _;obtain⟨A,hA⟩:∃A,A=(eu e.k i ar wi).1:=⟨_,rfl⟩;obtain⟨B,hB⟩:∃B,B=(eu e.k i ar wi).2:=⟨_,rfl⟩;rw[<-hA,<-hB,dR];have HA:Hid (A=(eu e.k i ar wi).1/\B=(eu e.k i ar wi).2):=⟨hA,hB⟩;clear hA hB;go_enter Tryz.func182,Tryz.ntmps182;cases hk:(e.k != 21) with
 | true =>
  have h21:e.k≠21:=by simpa using hk
  have HR:Hid ((A:Int)=ar/\(B:Int)=wi):=by
   obtain⟨h1,h2⟩:=HA.out;unfold eu at h1 h2;rw[if_neg h21] at h1 h2;exact⟨by rw[h1],by rw[h2]⟩
  clear HA h21;go_wp2;exact Hb (v:=.agg #[.int .i64 (ar:Nat),.int .i64 (wi:Nat)]) (by simp[Hk,Tryz.results182,go_sem]) rfl ⟨by rw[HR.out.1,HR.out.2],BB _ _ _⟩
 | false =>
  have h21:e.k=21:=by simpa using hk
  by_cases h0:i=0
  ·subst h0;have HR:Hid ((A:Int)=ar/\(B:Int)=(wi:Int)+1):=by
    obtain⟨h1,h2⟩:=HA.out;unfold eu at h1 h2;rw[if_pos h21] at h1 h2;exact⟨by rw[h1];rfl,by rw[h2];rfl⟩
   clear HA h21;go_wp2;exact Hb (v:=.agg #[.int .i64 (ar:Nat),.int .i64 ((wi:Int)+1)]) (by simp[Hk,Tryz.results182,go_sem]) rfl ⟨by rw[HR.out.1,HR.out.2],BB _ _ _⟩
  ·have hI:(0:Int)<(i:Int):=by omega
   have HR:Hid ((A:Int)=(ar:Int)+1/\(B:Int)=(wi:Int)+1):=by
    obtain⟨h1,h2⟩:=HA.out;unfold eu at h1 h2;rw[if_pos h21] at h1 h2;simp only[if_neg h0] at h1 h2;exact⟨by rw[h1];rfl,by rw[h2];rfl⟩
   clear HA h21;go_wp2;exact Hb (v:=.agg #[.int .i64 ((ar:Int)+1),.int .i64 ((wi:Int)+1)]) (by simp[Hk,Tryz.results182,go_sem]) rfl ⟨by rw[HR.out.1,HR.out.2],BB _ _ _⟩
theorem pH (e:Ex)(ao:Option Hw)(cap ar wi rb nc:Nat)(w:G9)(aoc:Option Hw)(capc:Nat)(a1 a2:He)(hR:w.heap[rb]?=G1 (.cells #[.slice aoc nc capc,a1,a2] 170 (0,0))) :
  Hn G5 181 #[.pointer (G1 ⟨rb,0,G0⟩),exN e ao cap,.agg #[.int .i64 (ar:Nat),.int .i64 (wi:Nat)]] w λx w'=>x=.returned (.bool (nuP nc e.k e.n ar))/\Hf w.heap.size w w':=by
 obtain⟨W,hZ⟩:∃W,W=nuP nc e.k e.n ar:=⟨_,rfl⟩;rw[<-hZ];have HW:Hid (W=nuP nc e.k e.n ar):=hZ;clear hZ;obtain⟨w0,hw0⟩:∃w0,w0=(w.alloc (.cells #[.int .i64 e.k,.int .i64 e.n,stv e.nm,.slice ao e.kids.len cap] 34)).alloc (.cells #[.int .i64 (ar:Nat),.int .i64 (wi:Nat)] 173):=⟨_,rfl⟩;have B0:Hf w.heap.size w w0:=by rw[hw0];exact((Hi _ w).alloc (G4 _) _).alloc (by simp) _
 have E0:w0.heap[w.heap.size]?=G1 (.cells #[.int .i64 e.k,.int .i64 e.n,stv e.nm,.slice ao e.kids.len cap] 34):=by
  rw[hw0];exact(Hj _ _ _ (by simp)).trans (Hc w _)
 have S0:w0.heap[w.heap.size+1]?=G1 (.cells #[.int .i64 (ar:Nat),.int .i64 (wi:Nat)] 173):=by
  rw[hw0]
  have:=Hc (w.alloc (.cells #[.int .i64 e.k,.int .i64 e.n,stv e.nm,.slice ao e.kids.len cap] 34)) (.cells #[.int .i64 (ar:Nat),.int .i64 (wi:Nat)] 173)
  simpa using this
 have R0:=(B0.block _ (Ha hR)).trans hR;rw[dR];go_enter Tryz.func181,Tryz.ntmps181;go_upto_region 1 with fail;rw[<-hw0];obtain⟨bx,hbx⟩:∃bx,bx=w.heap.size:=⟨_,rfl⟩;rw[<-hbx] at E0 S0 B0 ⊢;have HB:Hid (bx=w.heap.size):=hbx;clear hbx hw0;obtain⟨p0,p1,p2,p3,pf⟩:=ep E0;obtain⟨s0,s1,sf⟩:=jf S0;obtain⟨r0,r1,r2,rf⟩:=lu R0;clear E0 S0 R0 hR;by_cases h1:e.k=1
 ·have b1:(e.k==1)=true:=by simpa using h1
  have HZ:Hid (W=true):=by show W=_;rw[HW.out];simp[nuP,h1]
  clear HW h1;go_wp2;go_ret;rw[HZ.out];exact⟨rfl,by rw[<-HB.out];exact B0⟩
 have b1:(e.k==1)=false:=by simpa using h1
 by_cases h2:e.k=2
 ·have b2:(e.k==2)=true:=by simpa using h2
  cases g0:(e.n==0) with
  | true =>
   have HZ:Hid (W=true):=by show W=_;rw[HW.out];simp[nuP,h2,g0]
   clear HW h1 h2;go_wp2;go_ret;rw[HZ.out];exact⟨rfl,by rw[<-HB.out];exact B0⟩
  | false =>
   have HZ:Hid (W=(e.n==1)):=by show W=_;rw[HW.out];simp[nuP,h2,g0]
   clear HW h1 h2;go_wp2;go_ret;rw[HZ.out];exact⟨rfl,by rw[<-HB.out];exact B0⟩
 have b2:(e.k==2)=false:=by simpa using h2
 by_cases h3:e.k=3
 ·have b3:(e.k==3)=true:=by simpa using h3
  have HZ:Hid (W=decide (0<=e.n)):=by show W=_;rw[HW.out];simp[nuP,h3]
  clear HW h1 h2 h3;go_wp2;go_ret;rw[HZ.out];exact⟨rfl,by rw[<-HB.out];exact B0⟩
 have b3:(e.k==3)=false:=by simpa using h3
 by_cases h5:e.k=5
 ·have b5:(e.k==5)=true:=by simpa using h5
  by_cases g0:0<=e.n
  ·have HZ:Hid (W=decide (e.n<(ar:Int))):=by show W=_;rw[HW.out];simp[nuP,h5,g0]
   clear HW h1 h2 h3 h5;go_wp2;go_ret;rw[HZ.out];exact⟨rfl,by rw[<-HB.out];exact B0⟩
  ·have HZ:Hid (W=false):=by show W=_;rw[HW.out];simp[nuP,h5];omega
   clear HW h1 h2 h3 h5;go_wp2;go_ret;rw[HZ.out];exact⟨rfl,by rw[<-HB.out];exact B0⟩
 have b5:(e.k==5)=false:=by simpa using h5
 by_cases h20:e.k=20
 ·have b20:(e.k==20)=true:=by simpa using h20
  by_cases g0:1<=e.n
  ·have HZ:Hid (W=decide (e.n<=10)):=by show W=_;rw[HW.out];simp[nuP,h20,g0]
   clear HW h1 h2 h3 h5 h20;go_wp2;go_ret;rw[HZ.out];exact⟨rfl,by rw[<-HB.out];exact B0⟩
  ·have HZ:Hid (W=false):=by show W=_;rw[HW.out];simp[nuP,h20];omega
   clear HW h1 h2 h3 h5 h20;go_wp2;go_ret;rw[HZ.out];exact⟨rfl,by rw[<-HB.out];exact B0⟩
 have b20:(e.k==20)=false:=by simpa using h20
 by_cases h21:e.k=21
 ·have b21:(e.k==21)=true:=by simpa using h21
  by_cases g0:1<=e.n
  ·have HZ:Hid (W=decide (e.n<=6)):=by show W=_;rw[HW.out];simp[nuP,h21,g0]
   clear HW h1 h2 h3 h5 h20 h21;go_wp2;go_ret;rw[HZ.out];exact⟨rfl,by rw[<-HB.out];exact B0⟩
  ·have HZ:Hid (W=false):=by show W=_;rw[HW.out];simp[nuP,h21];omega
   clear HW h1 h2 h3 h5 h20 h21;go_wp2;go_ret;rw[HZ.out];exact⟨rfl,by rw[<-HB.out];exact B0⟩
 have b21:(e.k==21)=false:=by simpa using h21
 by_cases h26:e.k=26
 ·have b26:(e.k==26)=true:=by simpa using h26
  have bdr:∀ m,Hf w0.heap.size w0 (w0.drewN m):=λm=>⟨rfl,rfl,rfl,G4 _,λ_ _=>rfl⟩;have hsz:Hid (bx<=w0.heap.size):=by have:=B0.size;show bx<=_;rw[HB.out];exact B0.size
  by_cases g0:0<=e.n
  ·have HZ:Hid (W=decide (e.n<(nc:Int))):=by show W=_;rw[HW.out];simp[nuP,h26,g0]
   clear HW h1 h2 h3 h5 h20 h21 h26;go_wp2_with fail
   go_quiet (fail)
   have B1:=B0.trans ((bdr nq).mono hsz.out);go_wp2;go_ret;rw[HZ.out];exact⟨rfl,by rw[<-HB.out];exact B1⟩
  ·have HZ:Hid (W=false):=by show W=_;rw[HW.out];simp[nuP,h26];omega
   have hd:decide (0<=e.n)=false:=decide_eq_false g0;clear HW h1 h2 h3 h5 h20 h21 h26;go_wp2_with fail
   go_quiet (fail)
   have B1:=B0.trans ((bdr nq).mono hsz.out);go_wp2;go_ret;rw[HZ.out];exact⟨rfl,by rw[<-HB.out];exact B1⟩
 have b26:(e.k==26)=false:=by simpa using h26
 have HZ:Hid (W=(e.n==0)):=by show W=_;rw[HW.out];simp[nuP,h1,h2,h3,h5,h20,h21,h26]
 clear HW h1 h2 h3 h5 h20 h21 h26;go_wp2;go_ret;rw[HZ.out];exact⟨rfl,by rw[<-HB.out];exact B0⟩
abbrev InA (w:G9)(v:He)(xs:List Int):Prop:=Inw w (λ_=>True) v xs
theorem eC {P:Nat->Prop}(w:G9)(xs:List Int)(t:Il)(g c:Nat)(hg:g=w.heap.size)(n:Nat)(hn:n=xs.length)(hP:P g):Inw (w.alloc (.cells (xs.map (Hp .i64)).toArray t)) P (.slice (G1 ⟨g,0,G0⟩) n c) xs:=by
 subst hg;subst hn;refine⟨_,c,rfl,?_⟩;refine .inr ⟨w.heap.size,0,rfl,hP,by simp,λj x hx=>?_⟩;rw[If _ _ _ _ _ _ (Hc w _)];simp[hx]
def tW (w:G9)(p:List Int × Int)(x:Ja)(w':G9):Prop:=∃v,x=.returned (.agg #[v,.int .i64 p.2])/\Inw w' (Nw w.heap.size) v p.1/\Hf w.heap.size w w'
def clP (n:Int):List Int × Int:=if n=1\/n=2 then ([3,3],2) else if n=3 then ([3,3],1) else if n=10 then ([3],3) else ([3],1)
def qfP (n:Int):List Int × Int:=if n=1\/n=2 then ([4,2],2) else if n=3 then ([4,2],1) else ([4,1],1)
theorem vq (n:Int)(w:G9):Hn G5 222 #[.int .i64 n] w (tW w (clP n)):=by
 have BB:∀ o1 o2:Obj,Hf w.heap.size w ((w.alloc o1).alloc o2):=λo1 o2=>((Hi _ w).alloc (G4 _) _).alloc (by simp) _;unfold clP;by_cases h1:n=1
 ·subst h1;simp only[Kd,or_false,false_or,or_true,true_or,if_true,if_false,or_self];go_enter Tryz.func222,Tryz.ntmps222;go_wp2;exact Hb (v:=.agg #[.slice (G1 ⟨w.heap.size+1,0,G0⟩) 2 2,.int .i64 2]) (by simp[Hk,Km,go_sem]) rfl ⟨_,rfl,eC _ [3,3] _ _ _ (by simp) _ rfl (by show w.heap.size<=_;omega),BB _ _⟩
 have b1:(n==1)=false:=by simpa using h1
 by_cases h2:n=2
 ·subst h2;simp only[Kd,or_false,false_or,or_true,true_or,if_true,if_false,or_self];go_enter Tryz.func222,Tryz.ntmps222;go_wp2;exact Hb (v:=.agg #[.slice (G1 ⟨w.heap.size+1,0,G0⟩) 2 2,.int .i64 2]) (by simp[Hk,Km,go_sem]) rfl ⟨_,rfl,eC _ [3,3] _ _ _ (by simp) _ rfl (by show w.heap.size<=_;omega),BB _ _⟩
 have b2:(n==2)=false:=by simpa using h2
 by_cases h3:n=3
 ·subst h3;simp only[Kd,or_false,false_or,or_true,true_or,if_true,if_false,or_self];go_enter Tryz.func222,Tryz.ntmps222;go_wp2;exact Hb (v:=.agg #[.slice (G1 ⟨w.heap.size+1,0,G0⟩) 2 2,.int .i64 1]) (by simp[Hk,Km,go_sem]) rfl ⟨_,rfl,eC _ [3,3] _ _ _ (by simp) _ rfl (by show w.heap.size<=_;omega),BB _ _⟩
 have b3:(n==3)=false:=by simpa using h3
 by_cases h10:n=10
 ·subst h10;simp only[Kd,or_false,false_or,or_true,true_or,if_true,if_false,or_self];go_enter Tryz.func222,Tryz.ntmps222;go_wp2;exact Hb (v:=.agg #[.slice (G1 ⟨w.heap.size+1,0,G0⟩) 1 1,.int .i64 3]) (by simp[Hk,Km,go_sem]) rfl ⟨_,rfl,eC _ [3] _ _ _ (by simp) _ rfl (by show w.heap.size<=_;omega),BB _ _⟩
 have b10:(n==10)=false:=by simpa using h10
 simp only[h1,h2,h3,h10,or_self,if_false];clear h1 h2 h3 h10;go_enter Tryz.func222,Tryz.ntmps222;go_wp2;exact Hb (v:=.agg #[.slice (G1 ⟨w.heap.size+1,0,G0⟩) 1 1,.int .i64 1]) (by simp[Hk,Km,go_sem]) rfl ⟨_,rfl,eC _ [3] _ _ _ (by simp) _ rfl (by show w.heap.size<=_;omega),BB _ _⟩
theorem sK (n:Int)(w:G9):Hn G5 223 #[.int .i64 n] w (tW w (qfP n)):=by
 have BB:∀ o1 o2:Obj,Hf w.heap.size w ((w.alloc o1).alloc o2):=λo1 o2=>((Hi _ w).alloc (G4 _) _).alloc (by simp) _;unfold qfP;by_cases h1:n=1
 ·subst h1;simp only[Kd,or_false,false_or,or_true,true_or,if_true,if_false,or_self];go_enter Tryz.func223,Tryz.ntmps223;go_wp2;exact Hb (v:=.agg #[.slice (G1 ⟨w.heap.size+1,0,G0⟩) 2 2,.int .i64 2]) (by simp[Hk,Tryz.results223,go_sem]) rfl ⟨_,rfl,eC _ [4,2] _ _ _ (by simp) _ rfl (by show w.heap.size<=_;omega),BB _ _⟩
 have b1:(n==1)=false:=by simpa using h1
 by_cases h2:n=2
 ·subst h2;simp only[Kd,or_false,false_or,or_true,true_or,if_true,if_false,or_self];go_enter Tryz.func223,Tryz.ntmps223;go_wp2;exact Hb (v:=.agg #[.slice (G1 ⟨w.heap.size+1,0,G0⟩) 2 2,.int .i64 2]) (by simp[Hk,Tryz.results223,go_sem]) rfl ⟨_,rfl,eC _ [4,2] _ _ _ (by simp) _ rfl (by show w.heap.size<=_;omega),BB _ _⟩
 have b2:(n==2)=false:=by simpa using h2
 by_cases h3:n=3
 ·subst h3;simp only[Kd,or_false,false_or,or_true,true_or,if_true,if_false,or_self];go_enter Tryz.func223,Tryz.ntmps223;go_wp2;exact Hb (v:=.agg #[.slice (G1 ⟨w.heap.size+1,0,G0⟩) 2 2,.int .i64 1]) (by simp[Hk,Tryz.results223,go_sem]) rfl ⟨_,rfl,eC _ [4,2] _ _ _ (by simp) _ rfl (by show w.heap.size<=_;omega),BB _ _⟩
 have b3:(n==3)=false:=by simpa using h3
 simp only[h1,h2,h3,or_self,if_false];clear h1 h2 h3;go_enter Tryz.func223,Tryz.ntmps223;go_wp2;exact Hb (v:=.agg #[.slice (G1 ⟨w.heap.size+1,0,G0⟩) 2 2,.int .i64 1]) (by simp[Hk,Tryz.results223,go_sem]) rfl ⟨_,rfl,eC _ [4,1] _ _ _ (by simp) _ rfl (by show w.heap.size<=_;omega),BB _ _⟩
theorem zU (w:G9)(v1 v2:He)(xs ys:List Int)(h1:InA w v1 xs)(h2:InA w v2 ys)(hl:xs.length<=1000000000) :
  Hn G5 184 #[v1,v2] w λx w'=>x=.returned (.bool (decide (xs=ys)))/\Hf w.heap.size w w':=by
 obtain⟨W,hW⟩:∃W,W=decide (xs=ys):=⟨_,rfl⟩;rw[<-hW];have HW:Hid (W=decide (xs=ys)):=hW;clear hW;obtain⟨a1,c1,rfl,h1⟩:=h1;obtain⟨a2,c2,rfl,h2⟩:=h2;go_enter Tryz.func184,Tryz.ntmps184;by_cases hll:xs.length=ys.length
 ·have hI:((xs.length:Int) != (ys.length:Int))=false:=by rw[hll];simp
  have HL:Hid (xs.length=ys.length):=hll;clear hll;go_wp2;go_loopw [13] (λv wr=>∃k:Nat,k<=xs.length/\v=.int .i64 (k:Nat)/\Hid (∀ j,j<k->xs[j]?=ys[j]?)/\Hf w.heap.size w wr) (λv _=>xs.length-(Ih v).toNat)
  case atStart=>exact⟨0,by omega,by go_num,λj hj=>absurd hj (Ir _),Hi _ _⟩
  case round =>
   obtain⟨k,hk,rfl,hno,B1⟩:=hrel;by_cases hlt:k<xs.length
   ·have hy:k<ys.length:=by have:=HL.out;omega
    have hx1:xs[k]?=G1 xs[k]:=Hd hlt;have hy1:ys[k]?=G1 ys[k]:=Hd hy;rcases h1 with rfl|⟨g1,o1,rfl,-,hg1,hc1⟩
    ·simp at hlt
    rcases h2 with rfl|⟨g2,o2,rfl,-,hg2,hc2⟩
    ·simp at hy
    have x1:=(B1.cell (p:=⟨g1,o1+k,G0⟩) hg1).trans (hc1 k _ hx1);have y1:=(B1.cell (p:=⟨g2,o2+k,G0⟩) hg2).trans (hc2 k _ hy1);generalize xs[k]=x at x1 hx1;generalize ys[k]=y at y1 hy1;have hkI:(k:Int)<(xs.length:Int):=by omega
    have hkJ:(k:Int)<(ys.length:Int):=by omega
    have HX:Hid (xs[k]?=G1 x/\ys[k]?=G1 y):=⟨hx1,hy1⟩;clear hx1 hy1 hc1 hc2 hI;by_cases he:x=y
    ·have hbe:(x != y)=false:=by simpa using he
     have hn2:Hid (∀ j,j<k+1->xs[j]?=ys[j]?):=by
      intro j hj;rcases Nat.lt_succ_iff_lt_or_eq.1 hj with h3|rfl
      ·exact hno.out j h3
      ·rw[HX.out.1,HX.out.2,he]
     clear hno HX he HW;go_wp2_with fail
     go_quiet (fail)
     have B2:=B1.trans (show Hf w.heap.size wr (wr.drewN nq) from ⟨rfl,rfl,rfl,G4 _,λ_ _=>rfl⟩);go_wp2;go_roundw
     case rel=>exact⟨k+1,by omega,by go_num,hn2,B2⟩
     case measure=>simp[Ih];omega
    ·have hbe:(x != y)=true:=by simpa using he
     have FIN:Hid (W=false):=by
      show W=_;rw[HW.out];apply decide_eq_false;intro h3;rw[h3,HX.out.2] at HX
      have:=HX.out.1
      injection this with this
      exact he this.symm
     clear hno HX he HW;go_wp2_with fail
     go_quiet (fail)
     have B2:=B1.trans (show Hf w.heap.size wr (wr.drewN nq) from ⟨rfl,rfl,rfl,G4 _,λ_ _=>rfl⟩);go_wp2;go_ret;rw[FIN.out];exact⟨rfl,B2⟩
   ·have hkI:¬(k:Int)<(xs.length:Int):=by omega
    have FIN:Hid (W=true):=by
     show W=_;rw[HW.out];apply decide_eq_true;apply JK;intro j;rcases Kc j k with h3|h3
     ·exact hno.out j h3
     ·rw[Ie (by omega),Ie (by have:=HL.out;omega)]
    clear hno HW h1 h2 hI;go_wp2;go_ret;rw[FIN.out];exact⟨rfl,B1⟩
 ·have hI:((xs.length:Int) != (ys.length:Int))=true:=by simp;omega
  have FIN:Hid (W=false):=by
   show W=_;rw[HW.out];exact decide_eq_false (λh3=>hll (by rw[h3]))
  clear HW hll h1 h2;go_wp2;go_ret;rw[FIN.out];exact⟨rfl,Hi _ _⟩
def nlB (c:Int):Bool:=decide (c<0)||decide (4<c)
theorem xP (c:Int)(w:G9):Hn G5 119 #[.int .i64 c] w λx w'=>x=.returned (.bool (nlB c))/\w'=w:=by
 unfold nlB;by_cases h0:c<0
 ·have hd:decide (c<0)=true:=decide_eq_true h0;rw[hd];go_enter Tryz.func119,Tryz.ntmps119;go_wp2;go_ret;exact⟨rfl,rfl⟩
 ·have hd:decide (c<0)=false:=decide_eq_false h0;rw[hd];simp only[Bool.false_or];go_enter Tryz.func119,Tryz.ntmps119;go_wp2;go_ret;exact⟨rfl,rfl⟩
theorem rZ (w:G9)(v:He)(xs:List Int)(h:InA w v xs)(hl:xs.length<=1000000000) :
  Hn G5 179 #[v,.func (.func 119) #[] #[]] w λx w'=>(∃k:Int,x=.returned (.int .i64 k)/\decide (0<=k)=xs.any nlB)/\w'=w:=by
 obtain⟨W,hW⟩:∃W,W=xs.any nlB:=⟨_,rfl⟩;rw[<-hW];have HW:Hid (W=xs.any nlB):=hW;clear hW;obtain⟨a1,c1,rfl,h⟩:=h;go_enter Tryz.func179,Tryz.ntmps179;go_wp2;go_loopw [8] (λv wr=>∃k:Nat,k<=xs.length/\v=.int .i64 (k:Nat)/\Hid (∀ j c,j<k->xs[j]?=G1 c->nlB c=false)/\wr=w) (λv _=>xs.length-(Ih v).toNat)
 case atStart=>exact⟨0,by omega,by go_num,λj c hj=>absurd hj (Ir _),rfl⟩
 case round =>
  obtain⟨k,hk,rfl,hno,rfl⟩:=hrel;by_cases hlt:k<xs.length
  ·have hx1:xs[k]?=G1 xs[k]:=Hd hlt;rcases h with rfl|⟨g1,o1,rfl,-,hg1,hc1⟩
   ·simp at hlt
   have x1:=hc1 k _ hx1;generalize xs[k]=x at x1 hx1;have hkI:(k:Int)<(xs.length:Int):=by omega
   have HX:Hid (xs[k]?=G1 x):=hx1;have hc:=λw=>xP x w;clear hx1 hc1;cases hb:nlB x with
   | false =>
    rw[hb] at hc;have hn2:Hid (∀ j c,j<k+1->xs[j]?=G1 c->nlB c=false):=by
     intro j c hj hc;rcases Nat.lt_succ_iff_lt_or_eq.1 hj with h3|rfl
     ·exact hno.out j c h3 hc
     ·rw[HX.out] at hc;injection hc with hc
      rw[<-hc,hb]
    clear hno HX HW;go_wp2_with (go_at_call 119;refine(hc _).mono ?_;rintro z w2 ⟨rfl,rfl⟩);go_wp2;go_roundw
    case rel=>exact⟨k+1,by omega,by go_num,hn2,trivial⟩
    case measure=>simp[Ih];omega
   | true =>
    rw[hb] at hc;have FIN:Hid (W=true):=by
     show W=_;rw[HW.out];exact List.any_eq_true.2 ⟨x,IT HX.out,hb⟩
    clear hno HX HW;go_wp2_with (go_at_call 119;refine(hc _).mono ?_;rintro z w2 ⟨rfl,rfl⟩);go_wp2;go_ret;rw[FIN.out];exact⟨⟨_,rfl,by simp⟩,rfl⟩
  ·have hkI:¬(k:Int)<(xs.length:Int):=by omega
   have FIN:Hid (W=false):=by
    show W=_;rw[HW.out,List.any_eq_false];intro c hc;obtain⟨j,hj,h2⟩:=List.mem_iff_getElem.1 hc
    have:=hno.out j c (by omega) (by rw[Hd hj,h2])
    simp[this]
   clear hno HW h;go_wp2;go_ret;rw[FIN.out];exact⟨⟨_,rfl,by decide⟩,rfl⟩
theorem om (w:G9)(v:He)(xs:List Int)(h:InA w v xs)(hl:xs.length<=1000000000) :
  Hn G5 118 #[v,.func (.func 119) #[] #[]] w λx w'=>x=.returned (.bool (xs.any nlB))/\w'=w:=by
 have c1:=rZ w v xs h hl;generalize xs.any nlB=W at *;go_enter Tryz.func118,Tryz.ntmps118;go_wp2_with fail;refine c1.mono ?_;rintro z w2 ⟨⟨k,rfl,hk⟩,rfl⟩;subst hk;go_wp2;go_ret;exact⟨rfl,rfl⟩
theorem BS (n:Nat)(hn:n<=100000):bits BinOp.and IntKind.u64 (n:Int) 4294967295=n:=by
 have h:=bits_and_u64_nat n 4294967295 (by omega) (by omega);have h2:n &&& 4294967295=n:=by
  have:=Nat.and_two_pow_sub_one_eq_mod n 32
  rw[show (2 ^ 32-1:Nat)=4294967295 from rfl] at this;rw[this];exact Nat.mod_eq_of_lt (by omega)
 rw[h2] at h;exact h
theorem Ce (n:Nat)(hn:n<=100000)(w:G9):Hn G5 188 #[.int .u64 1,.int .u64 (n:Nat)] w λx w'=>x=.returned (.tuple #[.int .u64 0,.int .u64 (n:Nat)])/\w'=w:=by
 have a1:bits BinOp.and IntKind.u64 1 4294967295=1:=BS 1 (by omega);have a0:bits BinOp.and IntKind.u64 0 4294967295=0:=BS 0 (by omega);have an:=BS n hn;have d0:(n:Int) / 4294967296=0:=by omega
 go_enter Tryz.func188,Tryz.ntmps188;go_wp2;exact Hb (v:=.tuple #[.int .u64 0,.int .u64 (n:Nat)]) (by simp[Hk,Tryz.results188,go_sem]) rfl ⟨rfl,rfl⟩
theorem Ea (n:Nat)(hn:n<=100000)(w:G9):Hn G5 121 #[.int .u64 1,.int .u64 (n:Nat)] w λx w'=>x=.returned (.tuple #[.int .u64 0,.int .u64 (n:Nat)])/\w'=w:=by
 have m1:=λw=>Ce n hn w;go_enter Tryz.func121,Tryz.ntmps121;go_wp2_with fail;refine(m1 _).mono ?_;rintro z w1 ⟨rfl,rfl⟩;go_wp2;exact Hb (v:=.tuple #[.int .u64 0,.int .u64 (n:Nat)]) (by simp[Hk,Tryz.results121,go_sem]) rfl ⟨rfl,rfl⟩
theorem pA:(Tryz.prog.info? 3).map (λi=>(i.zero,i.size,i.bytes))=G1 (G1 (.int .i64 0),1,8):=by kernel_rfl
theorem rI {cur cs:List He}{k:Nat}{v:He}(hc:∀ j,j<k->cur[j]?=G1 v)(hs:∀ j,j<cs.length->cs[j]?=G1 v)(hk:k+cs.length<=cur.length):∀ j,j<k+cs.length->(Kh cur k cs)[j]?=G1 v:=by
 intro j hj;unfold Kh;rcases Kc j k with h1|h1
 ·rw[IV (by simp;omega),List.getElem?_take_of_lt h1];exact hc j h1
 ·have hl:(cur.take k).length=k:=by simp;omega
  rw[IF (by omega),hl,IV (by omega)];exact hs (j-k) (by omega)
theorem jH {P:JT}{w:G9}(dT sT ty elem:Il)(hu:P.underlying dT=G1 (.slice elem))(hsz:(P.info? elem).map (·.size)=G1 1)
  (dp sp:Option Hw) (dLen dCap sLen sCap:Nat) (g off:Nat) (cur:List He) (t:Il) (hg:w.heap[g]?=G1 (.cells cur.toArray t (0,0))) (cs:List He) (hn:cs.length=Nat.min sLen dLen)
  (hpos:0<cs.length->dp=G1 ⟨g,off,G0⟩/\∃ad,sp=G1 ad/\∀ j v,cs[j]?=G1 v->w.cell? (ad.add j)=G1 v)
  (hfit:off+cs.length<=cur.length) (h1:∀ v ∈ cs,v.oneCell'=true) :
  ∃w',(Builtin.copy_ #[dT,sT] ty #[.slice dp dLen dCap,.slice sp sLen sCap]).run P w=.ok (goInt cs.length) w'/\w'.heap[g]?=G1 (.cells (Kh cur off cs).toArray t (0,0))/\Hf g w w':=by
 by_cases h0:cs.length=0
 ·obtain rfl:cs=[]:=Jt h0;have hrun:=run_copy_none (P:=P) w dT sT ty elem dp sp dLen dCap sLen sCap hu hsz (by simpa using hn.symm);exact⟨w,hrun,by simpa [Kh] using hg,Hi _ _⟩
 ·obtain⟨rfl,ad,rfl,hsrc⟩:=hpos (by omega);have hrun:=run_copy_row (P:=P) w dT sT ty elem g off dLen dCap ad sLen sCap cur.toArray t cs hu hsz hg hn hsrc (by simpa using hfit) h1;exact⟨_,hrun,by simpa [Kh] using setRow_heap w g _ _ t _ hg,below_setRow (Hi _ _) (G4 _) _⟩
theorem zX (w:G9)(b off c n:Nat)(hn:n<=100000)(hb:b<w.heap.size)(hc:w.cell? ⟨b,off,G0⟩=G1 (.int .i64 3)) :
  Hn G5 73 #[.slice (G1 ⟨b,off,G0⟩) 1 c,.int .i64 (n:Nat)] w λx w'=>∃v,x=.returned v/\Inw w' (Nw w.heap.size) v (Ik n 3)/\Hf w.heap.size w w':=by
 obtain⟨ii,hii,hzi0,hzi1,hzi2⟩:=eo pA;have mk:∀ w:G9,(Instr.makeSlice 35 (.int .i64 (n:Nat)) (.int .i64 (n:Nat))).run G5 w=.ok (.slice (G1 ⟨w.heap.size,0,G0⟩) n n) (w.alloc (.cells (Jb (Hp .i64 0).cells (n*1)) 3)):=λw=>by
  have:=run_make (P:=G5) w 35 3 ii _ Iu hii hzi0 .i64 .i64 n n (by omega) (Int.le_refl _) (by rw[hzi2];omega) (by omega)
  rw[hzi1] at this;simpa only[IE] using this
 obtain⟨X,hX,hXl⟩:∃X:List He,Jb (Hp .i64 0).cells (n*1)=X.toArray/\X.length=n:=⟨(Jb (Hp .i64 0).cells (n*1)).toList,by simp,by simp[Jb,Value.cells]⟩;rw[hX] at mk;have B0:Hf w.heap.size w (w.alloc (.cells X.toArray 3)):=(Hi _ w).alloc (G4 _) _;have E0:(w.alloc (.cells X.toArray 3)).heap[w.heap.size]?=G1 (.cells X.toArray 3 (0,0)):=Hc w _;have c0:=(B0.cell (p:=⟨b,off,G0⟩) hb).trans hc;have m1:=λw=>Ea n hn w;clear hX hc;go_enter Tryz.func73,Tryz.ntmps73;go_wp2_with fail;refine(m1 _).mono ?_;rintro z w1 ⟨rfl,rfl⟩;go_upto_region 7 with fail;generalize w1.alloc (.cells X.toArray 3)=w0 at *;obtain⟨g,hg⟩:∃g,g=w1.heap.size:=⟨_,rfl⟩;rw[<-hg] at E0 ⊢;have HG:Hid (g=w1.heap.size):=hg;have hgs:(Tryz.prog.info? 3).map (·.size)=G1 1:=by rw[hii];simp[hzi1]
 obtain⟨cs,hcs⟩:∃cs,cs=Ik (min 1 n) (Hp .i64 3):=⟨_,rfl⟩;have hcl:cs.length=min 1 n:=by rw[hcs];simp
 have hcv:∀ j v,cs[j]?=G1 v->j=0/\v=Hp .i64 3:=by
  intro j v hv;rw[hcs,Iw] at hv;split at hv
  ·injection hv with hv
   exact⟨by omega,hv.symm⟩
  ·cases hv
 have hca:∀ j,j<cs.length->cs[j]?=G1 (Hp .i64 3):=by
  intro j hj;rw[hcs,Iw];rw[hcl] at hj;rw[if_pos hj]
 clear hcs hg;obtain⟨w2,hr2,hg2,hb2⟩:=jH (P:=G5) (w:=w0) 35 35 3 3 Iu hgs (G1 ⟨g,0,G0⟩) (G1 ⟨b,off,G0⟩) n n 1 c g 0 X 3 E0 cs (by rw[hcl]) (λ_=>⟨rfl,_,rfl,λj v hv=>by obtain⟨rfl,rfl⟩:=hcv j v hv;exact c0⟩) (by omega) (λv hv=>by obtain⟨j,hj,h2⟩:=List.mem_iff_getElem.1 hv;rw[(hcv j v (by rw[Hd hj,h2])).2];rfl);have hlen2:(Kh X 0 cs).length=n:=by rw[length_splice _ _ _ (by omega)];exact hXl
 have hat2:Hid (∀ j,j<0+cs.length->(Kh X 0 cs)[j]?=G1 (Hp .i64 3)):=rI (λj hj=>absurd hj (Ir _)) hca (by omega);generalize Kh X 0 cs=Y at *;have hgl:Hid (g=w1.heap.size):=HG;have B2:Hf w1.heap.size w1 w2:=B0.trans (by rw[<-HG.out];exact hb2);have hk1:Hid (min 1 n<=n/\(0<n->0<min 1 n)):=⟨by omega,by omega⟩;rw[hcl,Ix] at hat2;have hgi:goInt cs.length=.int .i64 (min 1 n:Nat):=by rw[hcl];rfl
 rw[hgi] at hr2;generalize min 1 n=k1 at *;have h2:=Ha hg2;clear E0 c0 hca hcv B0 hb2 hgi;go_wp2;go_loopw [8] (λv wr=>∃(k:Nat) (Y:List He),k<=n/\v=.int .i64 (k:Nat)/\(0<n->0<k)/\Y.length=n/\Hid (∀ j,j<k->Y[j]?=G1 (Hp .i64 3))/\wr.heap[g]?=G1 (.cells Y.toArray 3 (0,0))/\Hf w1.heap.size w1 wr) (λv _=>n-(Ih v).toNat)
 case atStart=>exact⟨k1,Y,hk1.out.1,rfl,hk1.out.2,hlen2,hat2,hg2,B2⟩
 case round =>
  clear hk1 hlen2 hat2 hg2 B2 hr2 hcl h2;obtain⟨k,Y,hk,rfl,hk0,hyl,hat,E1,B1⟩:=hrel;by_cases hlt:k<n
  ·have hkI:(k:Int)<(n:Int):=by omega
   have bdT:Hf wr.heap.size wr wr.drew:=⟨rfl,rfl,rfl,G4 _,λ_ _=>rfl⟩;have Ed:wr.drew.heap[g]?=G1 (.cells Y.toArray 3 (0,0)):=E1;obtain⟨ds,hds⟩:∃ds,ds=Ik (min k (n-k)) (Hp .i64 3):=⟨_,rfl⟩;have hdl:ds.length=min k (n-k):=by rw[hds];simp
   have hda:∀ j,j<ds.length->ds[j]?=G1 (Hp .i64 3):=by
    intro j hj;rw[hds,Iw];rw[hdl] at hj;rw[if_pos hj]
   have hdv:∀ j v,ds[j]?=G1 v->j<k/\v=Hp .i64 3:=by
    intro j v hv;rw[hds,Iw] at hv;split at hv
    ·injection hv with hv
     exact⟨by omega,hv.symm⟩
    ·cases hv
   clear hds;obtain⟨w3,hr3,hg3,hb3⟩:=jH (P:=G5) (w:=wr.drew) 35 35 3 3 Iu hgs (G1 ⟨g,k,G0⟩) (G1 ⟨g,0,G0⟩) (n-k) (n-k) k n g k Y 3 Ed ds (by rw[hdl]) (λ_=>⟨rfl,_,rfl,λj v hv=>by
    obtain⟨hj,rfl⟩:=hdv j v hv;have ea:(JA ⟨g,0,G0⟩ j)=⟨g,j,G0⟩:=by simp[JA];exact λh=>h.symm
    rw[ea,If _ _ _ _ _ _ Ed];simpa using hat.out j hj⟩) (by omega) (λv hv=>by obtain⟨j,hj,h2⟩:=List.mem_iff_getElem.1 hv;rw[(hdv j v (by rw[Hd hj,h2])).2];rfl)
   have hlen3:(Kh Y k ds).length=n:=by rw[length_splice _ _ _ (by omega)];exact hyl
   have hat3:Hid (∀ j,j<k+ds.length->(Kh Y k ds)[j]?=G1 (Hp .i64 3)):=rI hat.out hda (by omega);generalize Kh Y k ds=Y3 at *;have B3:Hf w1.heap.size w1 w3:=(B1.trans (bdT.mono B1.size)).trans (by rw[<-HG.out];exact hb3);rw[hdl] at hat3;have hgi:goInt ds.length=.int .i64 (min k (n-k):Nat):=by rw[hdl];rfl
   rw[hgi] at hr3;have hpos:0<min k (n-k):=by have:=hk0 (by omega);omega
   have hle:k+min k (n-k)<=n:=by omega
   generalize min k (n-k)=d at *;clear hat hda hdv hdl hgi E1 hyl Ed;go_wp2_with fail;go_region;go_wp2;go_roundw
   case rel=>exact⟨k+d,Y3,hle,by simp,λ_=>by omega,hlen3,hat3,hg3,B3⟩
   case measure=>simp[Ih];omega
  ·have hkI:¬(k:Int)<(n:Int):=by omega
   have HR:Hid (∃v,Jx (.slice (G1 ⟨g,0,G0⟩) n n)=Jx v/\Inw wr (Nw w1.heap.size) v (Ik n 3)/\Hf w1.heap.size w1 wr):=by
    refine⟨_,rfl,⟨_,n,by simp,.inr ⟨g,0,rfl,by show w1.heap.size<=g;rw[HG.out];exact G4 _,Ha E1,λj x hx=>?_⟩⟩,B1⟩;rw[Ix,If _ _ _ _ _ _ E1];rw[Iw] at hx;split at hx
    ·injection hx with hx
     subst hx;simpa using hat.out j (by omega)
    ·cases hx
   clear hat E1 hyl B1;go_wp2;go_ret;exact HR.out
theorem Ej {w:G9}{b:Nat}{a0 a1:He}{t:Il}(h:w.heap[b]?=G1 (.cells #[a0,a1] t (0,0)))(v0 v1:He):((w.setCell ⟨b,0,G0⟩ v0).setCell ⟨b,1,G0⟩ v1).heap[b]?=G1 (.cells #[v0,v1] t (0,0)) :=
 (Blk.set (o:=λ_=>0) (i:=0) (Blk.set (o:=λ_=>0) (i:=0) ⟨h,rfl⟩ 0 v0) 1 v1).1
theorem Inw.nil {w:G9}{P:Nat->Prop}:Inw w P (.slice G0 0 0) []:=⟨G0,0,rfl,.inl rfl⟩
theorem xS (n:Int)(ks:List Int):eK 20 n ks=clP n:=rfl
theorem oq (n:Int)(ks:List Int):eK 21 n ks=qfP n:=rfl
theorem zR (k0 n:Int)(nm:List UInt8)(a:Int)(f:Fs)(ao:Option Hw)(cap:Nat)(w:G9)(v:He)(ks:List Int)(h:InA w v ks)(Q:ks.length<=4096) :
  Hn G5 183 #[exN ⟨k0,n,nm,a,f⟩ ao cap,v] w (tW w (eK k0 n ks)):=by
 have j:∀ y x:Obj,Hf w.heap.size w ((w.alloc y).alloc x):=λy x=>((Hi _ w).alloc (G4 _) _).alloc (by simp) _;have g:∀ y x V:Obj,Hf w.heap.size w (((w.alloc y).alloc x).alloc V):=λy x V=>(j y x).alloc (by simp;omega) _;have R:=λy x=>h.below (j y x);have d:=λy x=>nB ((w.alloc y).alloc x) _ v ks 0 (by omega) (by omega) (R y x);have e:=λy x=>nB ((w.alloc y).alloc x) _ v ks 1 (by omega) (by omega) (R y x);obtain⟨av,cv,rfl,-⟩:=h;clear R;rw[dR];simp only;obtain⟨p,P⟩:=exq (eK k0 n ks);rw[<-P];have b:Hid (p=eK k0 n ks):=P;clear P;by_cases I:(1<=k0/\k0<=3)\/(5<=k0/\k0<=26)
 case neg =>
  have J:eK k0 n ks=([],0):=by
   unfold eK
   repeat rw[if_neg (by omega)]
  have i:Hid (p=([],0)):=b.out.trans J;have b1:∀ c:Int,(1<=c/\c<=3)\/(5<=c/\c<=26)->(k0==c)=false:=λc W=>by simp;omega
  have c1:=b1 1 (by omega);have c2:=b1 2 (by omega);have c3:=b1 3 (by omega);have c5:=b1 5 (by omega);have c6:=b1 6 (by omega);have c7:=b1 7 (by omega);have c8:=b1 8 (by omega);have c9:=b1 9 (by omega);have am:=b1 10 (by omega);have ak:=b1 11 (by omega);have aj:=b1 12 (by omega);have ai:=b1 13 (by omega);have ah:=b1 14 (by omega);have ag:=b1 15 (by omega);have af:=b1 16 (by omega);have ae:=b1 17 (by omega);have ad:=b1 18 (by omega);have ac:=b1 19 (by omega);have c20:=b1 20 (by omega);have c21:=b1 21 (by omega);have ab:=b1 22 (by omega);have aa:=b1 23 (by omega);have Z:=b1 24 (by omega);have Y:=b1 25 (by omega);have X:=b1 26 (by omega);clear I b1 d e g J;go_enter Tryz.func183,Tryz.ntmps183;go_wp2;exact Hb (v:=.agg #[.slice G0 0 0,.int .i64 0]) (by simp[Hk,Ij,go_sem]) rfl (by rw[i.out];exact⟨_,rfl,Inw.nil,j _ _⟩)
 case pos =>
 have W:k0=1\/k0=2\/k0=3\/k0=5\/k0=6\/k0=7\/k0=8\/k0=9\/k0=10\/k0=11\/k0=12\/k0=13\/k0=14\/k0=15\/k0=16\/k0=17\/k0=18\/k0=19\/k0=20\/k0=21\/k0=22\/k0=23\/k0=24\/k0=25\/k0=26:=by omega
 clear I;go_enter Tryz.func183,Tryz.ntmps183;rcases W with rfl|rfl|rfl|rfl|rfl|rfl|rfl|rfl|rfl|rfl|rfl|rfl|rfl|rfl|rfl|rfl|rfl|rfl|rfl|rfl|rfl|rfl|rfl|rfl|rfl
 ·clear d e g;have i:Hid (p=([],1)):=b.out.trans rfl;clear b;go_wp2;exact Hb (v:=.agg #[.slice G0 0 0,.int .i64 1]) (by simp[Hk,Ij,go_sem]) rfl (by rw[i.out];exact⟨_,rfl,Inw.nil,j _ _⟩)
 ·clear d e g;have i:Hid (p=([],2)):=b.out.trans rfl;clear b;go_wp2;exact Hb (v:=.agg #[.slice G0 0 0,.int .i64 2]) (by simp[Hk,Ij,go_sem]) rfl (by rw[i.out];exact⟨_,rfl,Inw.nil,j _ _⟩)
 ·clear d e g;have i:Hid (p=([],3)):=b.out.trans rfl;clear b;go_wp2;exact Hb (v:=.agg #[.slice G0 0 0,.int .i64 3]) (by simp[Hk,Ij,go_sem]) rfl (by rw[i.out];exact⟨_,rfl,Inw.nil,j _ _⟩)
 ·clear d e g;have i:Hid (p=([],3)):=b.out.trans rfl;clear b;go_wp2;exact Hb (v:=.agg #[.slice G0 0 0,.int .i64 3]) (by simp[Hk,Ij,go_sem]) rfl (by rw[i.out];exact⟨_,rfl,Inw.nil,j _ _⟩)
 ·clear d e;have i:Hid (p=([1],1)):=b.out.trans rfl;clear b;go_wp2;exact Hb (v:=.agg #[.slice (G1 ⟨w.heap.size+1+1,0,G0⟩) 1 1,.int .i64 1]) (by simp[Hk,Ij,go_sem]) rfl (by rw[i.out];exact⟨_,rfl,eC _ [1] _ _ _ (by simp) _ rfl (by show w.heap.size<=_;omega),g _ _ _⟩)
 ·clear d e;have i:Hid (p=([2],2)):=b.out.trans rfl;clear b;go_wp2;exact Hb (v:=.agg #[.slice (G1 ⟨w.heap.size+1+1,0,G0⟩) 1 1,.int .i64 2]) (by simp[Hk,Ij,go_sem]) rfl (by rw[i.out];exact⟨_,rfl,eC _ [2] _ _ _ (by simp) _ rfl (by show w.heap.size<=_;omega),g _ _ _⟩)
 ·clear d e;have i:Hid (p=([1,1],1)):=b.out.trans rfl;clear b;go_wp2;exact Hb (v:=.agg #[.slice (G1 ⟨w.heap.size+1+1,0,G0⟩) 2 2,.int .i64 1]) (by simp[Hk,Ij,go_sem]) rfl (by rw[i.out];exact⟨_,rfl,eC _ [1,1] _ _ _ (by simp) _ rfl (by show w.heap.size<=_;omega),g _ _ _⟩)
 ·clear d e;have i:Hid (p=([1,1],1)):=b.out.trans rfl;clear b;go_wp2;exact Hb (v:=.agg #[.slice (G1 ⟨w.heap.size+1+1,0,G0⟩) 2 2,.int .i64 1]) (by simp[Hk,Ij,go_sem]) rfl (by rw[i.out];exact⟨_,rfl,eC _ [1,1] _ _ _ (by simp) _ rfl (by show w.heap.size<=_;omega),g _ _ _⟩)
 ·clear d e;have i:Hid (p=([1,1],1)):=b.out.trans rfl;clear b;go_wp2;exact Hb (v:=.agg #[.slice (G1 ⟨w.heap.size+1+1,0,G0⟩) 2 2,.int .i64 1]) (by simp[Hk,Ij,go_sem]) rfl (by rw[i.out];exact⟨_,rfl,eC _ [1,1] _ _ _ (by simp) _ rfl (by show w.heap.size<=_;omega),g _ _ _⟩)
 ·clear d e;have i:Hid (p=([1,1],1)):=b.out.trans rfl;clear b;go_wp2;exact Hb (v:=.agg #[.slice (G1 ⟨w.heap.size+1+1,0,G0⟩) 2 2,.int .i64 1]) (by simp[Hk,Ij,go_sem]) rfl (by rw[i.out];exact⟨_,rfl,eC _ [1,1] _ _ _ (by simp) _ rfl (by show w.heap.size<=_;omega),g _ _ _⟩)
 ·clear d e;have i:Hid (p=([1,1],1)):=b.out.trans rfl;clear b;go_wp2;exact Hb (v:=.agg #[.slice (G1 ⟨w.heap.size+1+1,0,G0⟩) 2 2,.int .i64 1]) (by simp[Hk,Ij,go_sem]) rfl (by rw[i.out];exact⟨_,rfl,eC _ [1,1] _ _ _ (by simp) _ rfl (by show w.heap.size<=_;omega),g _ _ _⟩)
 ·clear e;go_wp2_with fail;refine(d _ _).mono ?_;rintro z w1 ⟨rfl,rfl⟩;clear d;have i:Hid (p=([wkP ks 0,wkP ks 0],2)):=b.out.trans rfl;clear b;generalize wkP ks 0=B at *;go_wp2;exact Hb (v:=.agg #[.slice (G1 ⟨w.heap.size+1+1,0,G0⟩) 2 2,.int .i64 2]) (by simp[Hk,Ij,go_sem]) rfl (by rw[i.out];exact⟨_,rfl,eC _ [B,B] _ _ _ (by simp) _ rfl (by show w.heap.size<=_;omega),g _ _ _⟩)
 ·clear e;go_wp2_with fail;refine(d _ _).mono ?_;rintro z w1 ⟨rfl,rfl⟩;clear d;have i:Hid (p=([wkP ks 0,wkP ks 0],2)):=b.out.trans rfl;clear b;generalize wkP ks 0=B at *;go_wp2;exact Hb (v:=.agg #[.slice (G1 ⟨w.heap.size+1+1,0,G0⟩) 2 2,.int .i64 2]) (by simp[Hk,Ij,go_sem]) rfl (by rw[i.out];exact⟨_,rfl,eC _ [B,B] _ _ _ (by simp) _ rfl (by show w.heap.size<=_;omega),g _ _ _⟩)
 ·clear d e;have i:Hid (p=([1,1],2)):=b.out.trans rfl;clear b;go_wp2;exact Hb (v:=.agg #[.slice (G1 ⟨w.heap.size+1+1,0,G0⟩) 2 2,.int .i64 2]) (by simp[Hk,Ij,go_sem]) rfl (by rw[i.out];exact⟨_,rfl,eC _ [1,1] _ _ _ (by simp) _ rfl (by show w.heap.size<=_;omega),g _ _ _⟩)
 ·clear d e;have i:Hid (p=([1,1],2)):=b.out.trans rfl;clear b;go_wp2;exact Hb (v:=.agg #[.slice (G1 ⟨w.heap.size+1+1,0,G0⟩) 2 2,.int .i64 2]) (by simp[Hk,Ij,go_sem]) rfl (by rw[i.out];exact⟨_,rfl,eC _ [1,1] _ _ _ (by simp) _ rfl (by show w.heap.size<=_;omega),g _ _ _⟩)
 ·clear d e;have i:Hid (p=([2,2],2)):=b.out.trans rfl;clear b;go_wp2;exact Hb (v:=.agg #[.slice (G1 ⟨w.heap.size+1+1,0,G0⟩) 2 2,.int .i64 2]) (by simp[Hk,Ij,go_sem]) rfl (by rw[i.out];exact⟨_,rfl,eC _ [2,2] _ _ _ (by simp) _ rfl (by show w.heap.size<=_;omega),g _ _ _⟩)
 ·clear d e;have i:Hid (p=([2,2],2)):=b.out.trans rfl;clear b;go_wp2;exact Hb (v:=.agg #[.slice (G1 ⟨w.heap.size+1+1,0,G0⟩) 2 2,.int .i64 2]) (by simp[Hk,Ij,go_sem]) rfl (by rw[i.out];exact⟨_,rfl,eC _ [2,2] _ _ _ (by simp) _ rfl (by show w.heap.size<=_;omega),g _ _ _⟩)
 ·clear d;go_wp2_with fail;refine(e _ _).mono ?_;rintro z w1 ⟨rfl,rfl⟩;clear e;have i:Hid (p=([2,wkP ks 1,wkP ks 1],wkP ks 1)):=b.out.trans rfl;clear b;generalize wkP ks 1=B at *;go_wp2;exact Hb (v:=.agg #[.slice (G1 ⟨w.heap.size+1+1,0,G0⟩) 3 3,.int .i64 B]) (by simp[Hk,Ij,go_sem]) rfl (by rw[i.out];exact⟨_,rfl,eC _ [2,B,B] _ _ _ (by simp) _ rfl (by show w.heap.size<=_;omega),g _ _ _⟩)
 ·clear d e g;have c1:=λw=>vq n w;have E:Hid (p=clP n):=b.out.trans (xS n ks);clear b;have l:((w.alloc (zNv 20 n nm ao f.len cap)).alloc (.cells #[.slice G0 0 0,.int .i64 0] 211)).heap[w.heap.size+1]?=G1 (.cells #[.slice G0 0 0,.int .i64 0] 211):=by
   have:=Hc (w.alloc (zNv 20 n nm ao f.len cap)) (.cells #[.slice G0 0 0,.int .i64 0] 211)
   simpa using this
  have G:=j (zNv 20 n nm ao f.len cap) (.cells #[.slice G0 0 0,.int .i64 0] 211);go_wp2_with fail;refine(c1 _).mono ?_;rintro z w1 ⟨lv,rfl,o,A⟩;have D:=(A.block _ (Ha l)).trans l;have r:((w.alloc (zNv 20 n nm ao f.len cap)).alloc (.cells #[.slice G0 0 0,.int .i64 0] 211)).heap.size=w.heap.size+2:=by simp
  rw[r] at o A;have F:Hf w.heap.size w w1:=G.trans (A.mono (by omega));clear c1 G A l r j;generalize clP n=O at *;obtain⟨xs,kp⟩:=O;simp only at o ⊢;obtain⟨u,cl,t,s⟩:=o;have o:Inw w1 (Nw (w.heap.size+2)) lv xs:=⟨u,cl,t,s⟩;subst t;clear s;obtain⟨U,T,S⟩:=jf D;have L:Hid (∃q,q=(w1.setCell ⟨w.heap.size+1,0,G0⟩ (.slice u xs.length cl)).setCell ⟨w.heap.size+1,1,G0⟩ (.int .i64 kp)/\q.heap[w.heap.size+1]?=G1 (.cells #[.slice u xs.length cl,.int .i64 kp] 211 (0,0))/\Inw q (Nw w.heap.size) (.slice u xs.length cl) xs/\Hf w.heap.size w q) :=
   ⟨_,rfl,Ej D _ _,o.mono (λk m Q=>(Hl _ _ k _ (by have m:w.heap.size+2<=k:=m;show k≠w.heap.size+1;omega)).trans (Hl _ _ k _ (by have m:w.heap.size+2<=k:=m;show k≠w.heap.size+1;omega))) (by simp) (λk m _=>by have m:w.heap.size+2<=k:=m;show w.heap.size<=k;omega),(F.setCell (p:=⟨w.heap.size+1,0,G0⟩) (by show w.heap.size<=w.heap.size+1;omega) _).setCell (p:=⟨w.heap.size+1,1,G0⟩) (by show w.heap.size<=w.heap.size+1;omega) _⟩
  clear o F D;go_wp2;obtain⟨q,C,M,K,N⟩:=L.out;rw[<-C];obtain⟨v0,v1,-⟩:=jf M;exact Hb (v:=.agg #[.slice u xs.length cl,.int .i64 kp]) (by simp[Hk,Ij,go_sem,v0,v1]) rfl (by rw[E.out];exact⟨_,rfl,K,N⟩)
 ·clear d e g;have c1:=λw=>sK n w;have E:Hid (p=qfP n):=b.out.trans (oq n ks);clear b;have l:((w.alloc (zNv 21 n nm ao f.len cap)).alloc (.cells #[.slice G0 0 0,.int .i64 0] 211)).heap[w.heap.size+1]?=G1 (.cells #[.slice G0 0 0,.int .i64 0] 211):=by
   have:=Hc (w.alloc (zNv 21 n nm ao f.len cap)) (.cells #[.slice G0 0 0,.int .i64 0] 211)
   simpa using this
  have G:=j (zNv 21 n nm ao f.len cap) (.cells #[.slice G0 0 0,.int .i64 0] 211);go_wp2_with fail;refine(c1 _).mono ?_;rintro z w1 ⟨lv,rfl,o,A⟩;have D:=(A.block _ (Ha l)).trans l;have r:((w.alloc (zNv 21 n nm ao f.len cap)).alloc (.cells #[.slice G0 0 0,.int .i64 0] 211)).heap.size=w.heap.size+2:=by simp
  rw[r] at o A;have F:Hf w.heap.size w w1:=G.trans (A.mono (by omega));clear c1 G A l r j;generalize qfP n=O at *;obtain⟨xs,kp⟩:=O;simp only at o ⊢;obtain⟨u,cl,t,s⟩:=o;have o:Inw w1 (Nw (w.heap.size+2)) lv xs:=⟨u,cl,t,s⟩;subst t;clear s;obtain⟨U,T,S⟩:=jf D;have L:Hid (∃q,q=(w1.setCell ⟨w.heap.size+1,0,G0⟩ (.slice u xs.length cl)).setCell ⟨w.heap.size+1,1,G0⟩ (.int .i64 kp)/\q.heap[w.heap.size+1]?=G1 (.cells #[.slice u xs.length cl,.int .i64 kp] 211 (0,0))/\Inw q (Nw w.heap.size) (.slice u xs.length cl) xs/\Hf w.heap.size w q) :=
   ⟨_,rfl,Ej D _ _,o.mono (λk m Q=>(Hl _ _ k _ (by have m:w.heap.size+2<=k:=m;show k≠w.heap.size+1;omega)).trans (Hl _ _ k _ (by have m:w.heap.size+2<=k:=m;show k≠w.heap.size+1;omega))) (by simp) (λk m _=>by have m:w.heap.size+2<=k:=m;show w.heap.size<=k;omega),(F.setCell (p:=⟨w.heap.size+1,0,G0⟩) (by show w.heap.size<=w.heap.size+1;omega) _).setCell (p:=⟨w.heap.size+1,1,G0⟩) (by show w.heap.size<=w.heap.size+1;omega) _⟩
  clear o F D;go_wp2;obtain⟨q,C,M,K,N⟩:=L.out;rw[<-C];obtain⟨v0,v1,-⟩:=jf M;exact Hb (v:=.agg #[.slice u xs.length cl,.int .i64 kp]) (by simp[Hk,Ij,go_sem,v0,v1]) rfl (by rw[E.out];exact⟨_,rfl,K,N⟩)
 ·clear d e g;have i:Hid (p=([],4)):=b.out.trans rfl;clear b;go_wp2;exact Hb (v:=.agg #[.slice G0 0 0,.int .i64 4]) (by simp[Hk,Ij,go_sem]) rfl (by rw[i.out];exact⟨_,rfl,Inw.nil,j _ _⟩)
 ·clear d e g;have i:Hid (p=([],4)):=b.out.trans rfl;clear b;go_wp2;exact Hb (v:=.agg #[.slice G0 0 0,.int .i64 4]) (by simp[Hk,Ij,go_sem]) rfl (by rw[i.out];exact⟨_,rfl,Inw.nil,j _ _⟩)
 ·clear d e;have i:Hid (p=([3],4)):=b.out.trans rfl;clear b;go_wp2;exact Hb (v:=.agg #[.slice (G1 ⟨w.heap.size+1+1,0,G0⟩) 1 1,.int .i64 4]) (by simp[Hk,Ij,go_sem]) rfl (by rw[i.out];exact⟨_,rfl,eC _ [3] _ _ _ (by simp) _ rfl (by show w.heap.size<=_;omega),g _ _ _⟩)
 ·clear d e;have E:Hid (p=(Ik ks.length 3,4)):=b.out.trans rfl;clear b;have l:(((w.alloc (zNv 25 n nm ao f.len cap)).alloc (.cells #[.slice G0 0 0,.int .i64 0] 211)).alloc (.cells #[.int .i64 3] 3)).heap[w.heap.size+1]?=G1 (.cells #[.slice G0 0 0,.int .i64 0] 211):=by
   refine(Hj _ _ _ (by simp)).trans ?_
   have:=Hc (w.alloc (zNv 25 n nm ao f.len cap)) (.cells #[.slice G0 0 0,.int .i64 0] 211)
   simpa using this
  have H:(((w.alloc (zNv 25 n nm ao f.len cap)).alloc (.cells #[.slice G0 0 0,.int .i64 0] 211)).alloc (.cells #[.int .i64 3] 3)).heap[w.heap.size+1+1]?=G1 (.cells #[.int .i64 3] 3):=by
   have:=Hc ((w.alloc (zNv 25 n nm ao f.len cap)).alloc (.cells #[.slice G0 0 0,.int .i64 0] 211)) (.cells #[.int .i64 3] 3)
   simpa using this
  have c1:=zX (((w.alloc (zNv 25 n nm ao f.len cap)).alloc (.cells #[.slice G0 0 0,.int .i64 0] 211)).alloc (.cells #[.int .i64 3] 3)) (w.heap.size+1+1) 0 1 ks.length (by omega) (Ha H) (by rw[If _ _ _ _ _ _ H];rfl);have G:=g (zNv 25 n nm ao f.len cap) (.cells #[.slice G0 0 0,.int .i64 0] 211) (.cells #[.int .i64 3] 3);clear g j H;go_wp2_with fail;refine c1.mono ?_;rintro z w1 ⟨lv,rfl,o,A⟩;have D:=(A.block _ (Ha l)).trans l;have r:(((w.alloc (zNv 25 n nm ao f.len cap)).alloc (.cells #[.slice G0 0 0,.int .i64 0] 211)).alloc (.cells #[.int .i64 3] 3)).heap.size=w.heap.size+3:=by simp
  rw[r] at o A;have F:Hf w.heap.size w w1:=G.trans (A.mono (by omega));clear c1 G A l r;generalize Ik ks.length (3:Int)=xs at *;obtain⟨u,cl,t,s⟩:=o;have o:Inw w1 (Nw (w.heap.size+3)) lv xs:=⟨u,cl,t,s⟩;subst t;clear s;obtain⟨U,T,S⟩:=jf D;have L:Hid (∃q,q=(w1.setCell ⟨w.heap.size+1,0,G0⟩ (.slice u xs.length cl)).setCell ⟨w.heap.size+1,1,G0⟩ (.int .i64 4)/\q.heap[w.heap.size+1]?=G1 (.cells #[.slice u xs.length cl,.int .i64 4] 211 (0,0))/\Inw q (Nw w.heap.size) (.slice u xs.length cl) xs/\Hf w.heap.size w q) :=
   ⟨_,rfl,Ej D _ _,o.mono (λk m Q=>(Hl _ _ k _ (by have m:w.heap.size+3<=k:=m;show k≠w.heap.size+1;omega)).trans (Hl _ _ k _ (by have m:w.heap.size+3<=k:=m;show k≠w.heap.size+1;omega))) (by simp) (λk m _=>by have m:w.heap.size+3<=k:=m;show w.heap.size<=k;omega),(F.setCell (p:=⟨w.heap.size+1,0,G0⟩) (by show w.heap.size<=w.heap.size+1;omega) _).setCell (p:=⟨w.heap.size+1,1,G0⟩) (by show w.heap.size<=w.heap.size+1;omega) _⟩
  clear o F D;go_wp2;obtain⟨q,C,M,K,N⟩:=L.out;rw[<-C];obtain⟨v0,v1,-⟩:=jf M;exact Hb (v:=.agg #[.slice u xs.length cl,.int .i64 4]) (by simp[Hk,Ij,go_sem,v0,v1]) rfl (by rw[E.out];exact⟨_,rfl,K,N⟩)
 ·clear e;go_wp2_with fail;refine(d _ _).mono ?_;rintro z w1 ⟨rfl,rfl⟩;clear d;have i:Hid (p=([wkP ks 0],wkP ks 0)):=b.out.trans rfl;clear b;generalize wkP ks 0=B at *;go_wp2;exact Hb (v:=.agg #[.slice (G1 ⟨w.heap.size+1+1,0,G0⟩) 1 1,.int .i64 B]) (by simp[Hk,Ij,go_sem]) rfl (by rw[i.out];exact⟨_,rfl,eC _ [B] _ _ _ (by simp) _ rfl (by show w.heap.size<=_;omega),g _ _ _⟩)
def kO (x : He) (k : Int) : Prop := ∃ a v, x = .iface a v ∧ ∀ (d : Nat) (w : G9), d = Tryz.prog.types.size + Made.depth → (method d a v "isthmus/plan.kind").run G5 w = .ok (281, .agg #[.int .i64 k]) w
theorem sM (k:Int)(w:G9):Hn G5 281 #[.agg #[.int .i64 k]] w λx w'=>x=.returned (.int .i64 k)/\Hf w.heap.size w w':=by
 have a:∀ o:Obj,Hf w.heap.size w (w.alloc o):=λo=>(Hi _ w).alloc (G4 _) _;go_enter Tryz.func281,Tryz.ntmps281;go_wp2;go_ret;exact⟨rfl,a _⟩
def PKs (w:G9)(v:He)(n:Nat):Prop:=∃ak ck,v=.slice ak n ck/\(n=0\/∃b off,ak=G1 ⟨b,off,G0⟩/\b<w.heap.size/\∀ j,j<n->∃c u,w.cell? ⟨b,off+j,G0⟩=G1 (.iface c u))
theorem ms (k:Int)(n:Int):kO (.iface 254 (.agg #[.int .i64 k,.int .i64 n])) k:=⟨_,_,rfl,λd w h=>by subst h;kernel_rfl⟩
theorem vp (k:Int)(n:Int):kO (.iface 256 (.agg #[.int .i64 k,.int .i64 n])) k:=⟨_,_,rfl,λd w h=>by subst h;kernel_rfl⟩
theorem rG (k:Int)(n:Int):kO (.iface 258 (.agg #[.int .i64 k,.int .i64 n])) k:=⟨_,_,rfl,λd w h=>by subst h;kernel_rfl⟩
theorem pO (k:Int)(n:Int)(a:Option Hw)(l c:Nat):kO (.iface 277 (.agg #[.int .i64 k,.int .i64 n,.slice a l c])) k:=⟨_,_,rfl,λd w h=>by subst h;kernel_rfl⟩
theorem kg (k:Int)(n:Int)(t1 t2:Il)(b a:He):kO (.iface 260 (.agg #[.int .i64 k,.int .i64 n,.iface t1 b,.iface t2 a])) k:=⟨_,_,rfl,λd w h=>by subst h;kernel_rfl⟩
theorem tY (k:Int)(t1 t2 t3:Il)(b a u3:He):kO (.iface 262 (.agg #[.int .i64 k,.iface t1 b,.iface t2 a,.iface t3 u3])) k:=⟨_,_,rfl,λd w h=>by subst h;kernel_rfl⟩
theorem zo (k:Int)(n:Int)(a:Option Hw)(l c:Nat):kO (.iface 264 (.agg #[.int .i64 k,.int .i64 n,.slice a l c])) k:=⟨_,_,rfl,λd w h=>by subst h;kernel_rfl⟩
theorem oH (k:Int)(n m:Int)(t1 t2:Il)(b a:He):kO (.iface 266 (.agg #[.int .i64 k,.int .i64 n,.int .i64 m,.iface t1 b,.iface t2 a])) k:=⟨_,_,rfl,λd w h=>by subst h;kernel_rfl⟩
theorem za (k:Int)(n:Int)(t1:Il)(a:He):kO (.iface 268 (.agg #[.int .i64 k,.int .i64 n,.iface t1 a])) k:=⟨_,_,rfl,λd w h=>by subst h;kernel_rfl⟩
theorem ut (k:Int) :kO (.iface 270 (.agg #[.int .i64 k])) k:=⟨_,_,rfl,λd w h=>by subst h;kernel_rfl⟩
theorem qN (k:Int)(s:ByteArray):kO (.iface 272 (.agg #[.int .i64 k,.string s])) k:=⟨_,_,rfl,λd w h=>by subst h;kernel_rfl⟩
theorem pG (k:Int)(t1:Il)(a:He):kO (.iface 274 (.agg #[.int .i64 k,.iface t1 a])) k:=⟨_,_,rfl,λd w h=>by subst h;kernel_rfl⟩
theorem tv (k:Int)(a:Option Hw)(l c:Nat):kO (.iface 276 (.agg #[.int .i64 k,.slice a l c])) k:=⟨_,_,rfl,λd w h=>by subst h;kernel_rfl⟩
theorem EE (k0 n:Int)(nm:List UInt8)(f:Fs)(ao:Option Hw)(cap:Nat)(t:Int)(U:He)(k:Nat)(ar:Int)(w:G9)(C:PKs w U k)(h2:k0=17\/k0=18\/k0=21->k=2)(h:k0=19->k=3)(h1:k0=24\/k0=26->k=1) :
  Hn G5 186 #[.agg #[.int .i64 k0,.int .i64 n,stv nm,.slice ao f.len cap],.agg #[.int .i64 t],U,.int .i64 ar] w λx w'=>(∃v,x=.returned v/\kO v t)/\Hf w.heap.size w w':=by
 obtain⟨w0,s⟩:=exq ((w.alloc (zNv k0 n nm ao f.len cap)).alloc (.cells #[.int .i64 t] 215));have l:Hf w.heap.size w w0:=by rw[s];exact((Hi _ w).alloc (G4 _) _).alloc (by simp) _
 have S:w0.heap[w.heap.size]?=G1 (zNv k0 n nm ao f.len cap):=by
  rw[s];exact(Hj _ _ _ (by simp)).trans (Hc w _)
 have P:w0.heap[w.heap.size+1]?=G1 (.cells #[.int .i64 t] 215):=by
  rw[s]
  have:=Hc (w.alloc (zNv k0 n nm ao f.len cap)) (.cells #[.int .i64 t] 215)
  simpa using this
 obtain⟨ak,ck,rfl,C⟩:=C;go_enter Tryz.func186,Tryz.ntmps186;go_upto_region 1 with fail;rw[<-s];obtain⟨bx,z⟩:=exq w.heap.size;rw[<-z] at S P l ⊢;have i:Hid (bx=w.heap.size):=z;clear s;obtain⟨p0,p1,p2,p3,pf⟩:=ep S;have t0:w0.cell? ⟨bx+1,0,G0⟩=G1 (.int .i64 t):=by rw[If _ _ _ _ _ _ P];rfl
 have tf:∀ j,w0.frozen? ⟨bx+1,j,G0⟩=false:=λj=>IK w0 (bx+1) j _ _ P;have bdr:∀ m,Hf bx w (w0.drewN m):=λm=>l.trans ⟨rfl,rfl,rfl,G4 _,λ_ _=>rfl⟩;have a:Hid (∀ j,j<k->∃b off R u,ak=G1 ⟨b,off,G0⟩/\w0.cell? ⟨b,off+j,G0⟩=G1 (.iface R u)):=by
  intro j hj;rcases C with C|⟨b,off,rfl,hb,hc⟩
  ·omega
  ·obtain⟨R,u,Z⟩:=hc j hj;exact⟨b,off,R,u,rfl,(l.cell (p:=⟨b,off+j,G0⟩) (by rw[z];exact hb)).trans Z⟩
 clear C z S P;by_cases Y:k0=1
 ·subst Y;clear a h1 h2 h;go_wp2;refine Hb (v:=.iface 254 (.agg #[.int .i64 t,.int .i64 n])) (by simp[Hk,IC,go_sem]) rfl ⟨⟨_,rfl,ms _ _⟩,?_⟩;rw[<-i.out];exact l
 have b1:(k0==1)=false:=by simpa using Y
 by_cases X:k0=2
 ·subst X;clear a h1 h2 h;go_wp2;refine Hb (v:=.iface 254 (.agg #[.int .i64 t,.int .i64 n])) (by simp[Hk,IC,go_sem]) rfl ⟨⟨_,rfl,ms _ _⟩,?_⟩;rw[<-i.out];exact l
 have b2:(k0==2)=false:=by simpa using X
 by_cases W:k0=3
 ·subst W;clear a h1 h2 h;go_wp2;refine Hb (v:=.iface 256 (.agg #[.int .i64 t,.int .i64 n])) (by simp[Hk,IC,go_sem]) rfl ⟨⟨_,rfl,vp _ _⟩,?_⟩;rw[<-i.out];exact l
 have b3:(k0==3)=false:=by simpa using W
 by_cases V:k0=5
 ·subst V;clear a h1 h2 h;go_wp2;refine Hb (v:=.iface 258 (.agg #[.int .i64 t,.int .i64 n])) (by simp[Hk,IC,go_sem]) rfl ⟨⟨_,rfl,rG _ _⟩,?_⟩;rw[<-i.out];exact l
 have b5:(k0==5)=false:=by simpa using V
 by_cases O:k0=17
 ·subst O;have d:k=2:=h2 (.inl rfl);subst d;obtain⟨b,off,t1,q,rfl,o⟩:=a.out 0 (by omega);obtain⟨b1,r,t2,A,c,Q⟩:=a.out 1 (by omega);injection c with c
  injection c with g e
  subst g;subst e;simp only[Is] at o;clear a h1 h2 h;go_wp2_with fail
  go_quiet (fail)
  have y:=bdr nq;go_wp2;refine Hb (v:=.iface 260 (.agg #[.int .i64 t,.int .i64 0,.iface t1 q,.iface t2 A])) (by simp[Hk,IC,go_sem]) rfl ⟨⟨_,rfl,kg _ _ _ _ _ _⟩,?_⟩;rw[<-i.out];exact y
 have aj:(k0==17)=false:=by simpa using O
 by_cases N:k0=18
 ·subst N;have d:k=2:=h2 (.inr (.inl rfl));subst d;obtain⟨b,off,t1,q,rfl,o⟩:=a.out 0 (by omega);obtain⟨b1,r,t2,A,c,Q⟩:=a.out 1 (by omega);injection c with c
  injection c with g e
  subst g;subst e;simp only[Is] at o;clear a h1 h2 h;go_wp2_with fail
  go_quiet (fail)
  have y:=bdr nq;go_wp2;refine Hb (v:=.iface 260 (.agg #[.int .i64 t,.int .i64 1,.iface t1 q,.iface t2 A])) (by simp[Hk,IC,go_sem]) rfl ⟨⟨_,rfl,kg _ _ _ _ _ _⟩,?_⟩;rw[<-i.out];exact y
 have ai:(k0==18)=false:=by simpa using N
 by_cases M:k0=19
 ·subst M;have d:k=3:=h rfl;subst d;obtain⟨b,off,t1,q,rfl,o⟩:=a.out 0 (by omega);obtain⟨b1,r,t2,A,c,Q⟩:=a.out 1 (by omega);injection c with c
  injection c with g e
  subst g;subst e;obtain⟨b2,T,t3,u3,B,x2⟩:=a.out 2 (by omega);injection B with B
  injection B with E D
  subst E;subst D;simp only[Is] at o;clear a h1 h2 h;go_wp2_with fail
  go_quiet (fail)
  have y:=bdr nq;go_wp2;refine Hb (v:=.iface 262 (.agg #[.int .i64 t,.iface t1 q,.iface t2 A,.iface t3 u3])) (by simp[Hk,IC,go_sem]) rfl ⟨⟨_,rfl,tY _ _ _ _ _ _ _⟩,?_⟩;rw[<-i.out];exact y
 have ah:(k0==19)=false:=by simpa using M
 by_cases L:k0=20
 ·subst L;clear a h1 h2 h;go_wp2;refine Hb (v:=.iface 264 (.agg #[.int .i64 t,.int .i64 n,.slice ak k ck])) (by simp[Hk,IC,go_sem]) rfl ⟨⟨_,rfl,zo _ _ _ _ _⟩,?_⟩;rw[<-i.out];exact l
 have ag:(k0==20)=false:=by simpa using L
 by_cases K:k0=21
 ·subst K;have d:k=2:=h2 (.inr (.inr rfl));subst d;obtain⟨b,off,t1,q,rfl,o⟩:=a.out 0 (by omega);obtain⟨b1,r,t2,A,c,Q⟩:=a.out 1 (by omega);injection c with c
  injection c with g e
  subst g;subst e;simp only[Is] at o;clear a h1 h2 h;go_wp2_with fail
  go_quiet (fail)
  have y:=bdr nq;go_wp2;refine Hb (v:=.iface 266 (.agg #[.int .i64 t,.int .i64 n,.int .i64 ar,.iface t1 q,.iface t2 A])) (by simp[Hk,IC,go_sem]) rfl ⟨⟨_,rfl,oH _ _ _ _ _ _ _⟩,?_⟩;rw[<-i.out];exact y
 have af:(k0==21)=false:=by simpa using K
 by_cases F:k0=26
 ·subst F;have d:k=1:=h1 (.inr rfl);subst d;obtain⟨b,off,t1,q,rfl,o⟩:=a.out 0 (by omega);simp only[Is] at o;clear a h1 h2 h;go_wp2_with fail
  go_quiet (fail)
  have y:=bdr nq;go_wp2;refine Hb (v:=.iface 268 (.agg #[.int .i64 t,.int .i64 n,.iface t1 q])) (by simp[Hk,IC,go_sem]) rfl ⟨⟨_,rfl,za _ _ _ _⟩,?_⟩;rw[<-i.out];exact y
 have aa:(k0==26)=false:=by simpa using F
 by_cases J:k0=22
 ·subst J;clear a h1 h2 h;go_wp2;refine Hb (v:=.iface 270 (.agg #[.int .i64 t])) (by simp[Hk,IC,go_sem]) rfl ⟨⟨_,rfl,ut _⟩,?_⟩;rw[<-i.out];exact l
 have ae:(k0==22)=false:=by simpa using J
 by_cases I:k0=23
 ·subst I;clear a h1 h2 h;go_wp2;refine Hb (v:=.iface 272 (.agg #[.int .i64 t,stv nm])) (by simp[Hk,IC,go_sem]) rfl ⟨⟨_,rfl,qN _ _⟩,?_⟩;rw[<-i.out];exact l
 have ad:(k0==23)=false:=by simpa using I
 by_cases H:k0=24
 ·subst H;have d:k=1:=h1 (.inl rfl);subst d;obtain⟨b,off,t1,q,rfl,o⟩:=a.out 0 (by omega);simp only[Is] at o;clear a h1 h2 h;go_wp2_with fail
  go_quiet (fail)
  have y:=bdr nq;go_wp2;refine Hb (v:=.iface 274 (.agg #[.int .i64 t,.iface t1 q])) (by simp[Hk,IC,go_sem]) rfl ⟨⟨_,rfl,pG _ _ _⟩,?_⟩;rw[<-i.out];exact y
 have ac:(k0==24)=false:=by simpa using H
 by_cases G:k0=25
 ·subst G;clear a h1 h2 h;go_wp2;refine Hb (v:=.iface 276 (.agg #[.int .i64 t,.slice ak k ck])) (by simp[Hk,IC,go_sem]) rfl ⟨⟨_,rfl,tv _ _ _ _⟩,?_⟩;rw[<-i.out];exact l
 have ab:(k0==25)=false:=by simpa using G
 clear a h1 h2 h;go_wp2;refine Hb (v:=.iface 277 (.agg #[.int .i64 t,.int .i64 k0,.slice ak k ck])) (by simp[Hk,IC,go_sem]) rfl ⟨⟨_,rfl,pO _ _ _ _ _⟩,?_⟩;rw[<-i.out];exact l
def wgF:Fs->Int->Int
 | ⟨G0⟩,l=>l
 | ⟨G1 ⟨_,_,_,_,ks,r⟩⟩,l=>if l<0 then l else wgF r (wgF ks (l-1))
theorem BL (k n:Int)(nm:List UInt8)(a:Int)(ks r:Fs)(l:Int):wgF (.cons k n nm a ks r) l=if l<0 then l else wgF r (wgF ks (l-1)):=rfl
theorem xe:∀ (f:Fs) (l:Int),l<0->wgF f l=l
 | ⟨G0⟩,l,h=>rfl
 | ⟨G1 ⟨k,n,nm,a,ks,r⟩⟩,l,h=>by simp only[wgF,h,if_true]
theorem po:∀ (f:Fs) (l:Int),0<=wgF f l->wgF f l=l-(f.size:Nat)
 | ⟨G0⟩,l,h=>by show l=l-((0:Nat):Int);omega
 | ⟨G1 ⟨k,n,nm,a,ks,r⟩⟩,l,h=>by
  have e:wgF ⟨G1 ⟨k,n,nm,a,ks,r⟩⟩ l=if l<0 then l else wgF r (wgF ks (l-1)):=rfl;rw[e] at h ⊢;split at h
  ·omega
  ·rename_i hl
   rw[if_neg hl];have h1:=po r _ h;by_cases h2:wgF ks (l-1)<0
   ·rw[xe r _ h2] at h;omega
   ·have h3:=po ks (l-1) (by omega);show _=l-((ks.size+r.size+1:Nat):Int);omega
theorem tQ:∀ (f:Fs) (l:Int),-1<=l->-1<=wgF f l/\wgF f l<=l
 | ⟨G0⟩,l,h=>⟨h,Int.le_refl _⟩
 | ⟨G1 ⟨k,n,nm,a,ks,r⟩⟩,l,h=>by
  have e:wgF ⟨G1 ⟨k,n,nm,a,ks,r⟩⟩ l=if l<0 then l else wgF r (wgF ks (l-1)):=rfl;rw[e];split
  ·exact⟨h,Int.le_refl _⟩
  ·have h1:=tQ ks (l-1) (by omega);have h2:=tQ r _ h1.1;exact⟨h2.1,by omega⟩
def Fs.wide:Fs->Prop
 | ⟨G0⟩=>True
 | ⟨G1 ⟨_,_,_,_,ks,r⟩⟩=>ks.len<=Hu/\ks.wide/\r.wide
theorem Fs.app_wide:∀ {x y:Fs},(x.app y).wide->y.wide
 | ⟨G0⟩,y,h=>h
 | ⟨G1 ⟨k,n,nm,a,ks,r⟩⟩,y,h=>Fs.app_wide (x:=r) h.2.2
def pm (N:Nat):Prop:=∀ (e:Ex) (ao:Option Hw) (cap:Nat) (l:Int) (w:G9),e.kids.size<N->e.kids.len<=Hu->e.kids.wide->0<=l->l<=1000000->SnA w e.kids ao ->
 Hn G5 32 #[exN e ao cap,.int .i64 l] w λx w'=>x=.returned (.int .i64 (wgF e.kids (l-1)))/\Hf w.heap.size w w'
theorem sU {N:Nat}(IH:pm N):pm (N+1):=by
 intro e ao cap l w hN hlen hwd hl0 hl1 S;obtain⟨W,hW⟩:∃W,W=wgF e.kids (l-1):=⟨_,rfl⟩;rw[<-hW];have HW:Hid (W=wgF e.kids (l-1)):=hW;have hml:Hid (Hu=9223372036854775807):=rfl;have hlm:e.kids.len<=9223372036854775807:=by have:=hml.out;omega
 clear hW;have B0:Hf w.heap.size w (w.alloc (.cells #[.int .i64 e.k,.int .i64 e.n,stv e.nm,.slice ao e.kids.len cap] 34)):=(Hi _ w).alloc (G4 _) _;have E0:(w.alloc (.cells #[.int .i64 e.k,.int .i64 e.n,stv e.nm,.slice ao e.kids.len cap] 34)).heap[w.heap.size]?=G1 (.cells #[.int .i64 e.k,.int .i64 e.n,stv e.nm,.slice ao e.kids.len cap] 34):=Hc w _;rw[dR];go_enter Tryz.func32,Tryz.ntmps32;go_upto_region 1 with fail;generalize w.alloc (.cells #[.int .i64 e.k,.int .i64 e.n,stv e.nm,.slice ao e.kids.len cap] 34)=w0 at *;obtain⟨bx,hbx⟩:∃bx,bx=w.heap.size:=⟨_,rfl⟩;rw[<-hbx] at E0 B0 ⊢;have HB:Hid (bx=w.heap.size):=hbx;clear hbx;go_wp2;go_loopw [1,5] (λv1 v5 wr=>∃(done r:Fs) (c:Int),Hid (e.kids=done.app r)/\v1=.int .i64 c/\v5=.int .i64 (done.len:Nat)/\-1<=c/\c<=1000000/\Hid (wgF r c=W)/\wr.heap[bx]?=G1 (.cells #[.int .i64 e.k,.int .i64 e.n,stv e.nm,.slice ao e.kids.len cap] 34)/\Hf bx w wr) (λ_ v5 _=>e.kids.len-(Ih v5).toNat)
 case atStart=>exact⟨.nil,e.kids,l-1,rfl,rfl,by show _=Hp .i64 ((0:Nat):Int);rfl,by omega,by omega,HW.out.symm,E0,B0⟩
 case round =>
  clear E0 B0 HW;obtain⟨done,r,c,hk,rfl,rfl,hc0,hc1,HA,E1,B1⟩:=hrel;have hlk:e.kids.len=done.len+r.len:=by rw[hk.out,Fs.len_app]
  obtain⟨p0,p1,p2,p3,pf⟩:=ep E1;cases r using Fs.on with
  | nil =>
   have hlt:¬(done.len:Int)<(e.kids.len:Int):=by simp only[Fs.len] at hlk;omega
   have FIN:Hid (W=c):=HA.out.symm;clear HA hlk;go_wp2;go_ret;rw[FIN.out];exact⟨rfl,by rw[<-HB.out];exact B1⟩
  | Js kk kn km ka kks kr =>
   have hlt:(done.len:Int)<(e.kids.len:Int):=by simp only[Fs.len] at hlk;omega
   have hl3:done.len<e.kids.len:=by omega
   by_cases hc:c<0
   ·have hcI:¬(0:Int)<=c:=by omega
    have FIN:Hid (W=c):=by show W=c;rw[<-HA.out];exact xe _ _ hc
    clear HA hlk;go_wp2;go_ret;rw[FIN.out];exact⟨rfl,by rw[<-HB.out];exact B1⟩
   ·have hcI:(0:Int)<=c:=by omega
    have hsz:e.kids.size=done.size+(kks.size+kr.size+1):=by rw[hk.out,Fs.size_app];rfl
    have hwk:(Fs.cons kk kn km ka kks kr).wide:=Fs.app_wide (x:=done) (by rw[<-hk.out];exact hwd);obtain⟨b,off,ak,ck,hao,lb1,-,x0,x1,x2,x3,SK⟩:=SlN.kidQ (by rw[<-hk.out];exact SnA.below S (by rw[<-HB.out];exact B1));subst hao;have hcc:=IH ⟨kk,kn,km,ka,kks⟩ ak ck c wr (by show kks.size<N;omega) hwk.1 hwk.2.1 hcI (by omega) SK;rw[dR] at hcc;simp only at hcc;have hbd:=tQ kks (c-1) (by omega);have HA2:Hid (wgF kr (wgF kks (c-1))=W):=by show _=W;rw[<-HA.out,BL,if_neg hc]
    have hk2:Hid (e.kids=(done.snoc ⟨kk,kn,km,ka,kks⟩).app kr):=by show e.kids=_;rw[hk.out];unfold Fs.snoc;rw[Fs.app_assoc];rfl
    have hl2:(done.len:Int)+1=((done.snoc ⟨kk,kn,km,ka,kks⟩).len:Nat):=by rw[Fs.len_snoc];rfl
    generalize wgF kks (c-1)=c2 at *;clear HA hlk hsz hwk SK hk;go_wp2_with fail;refine hcc.mono ?_;rintro x w2 ⟨rfl,b2⟩;have B2:=B1.trans (b2.mono (by have:=Ha E1;omega));have E2:=(b2.block bx (Ha E1)).trans E1;clear hcc x0 x1 x2 x3 p0 p1 p2 p3 pf b2 E1 B1;go_wp2;go_roundw
    case rel=>exact⟨_,kr,c2,hk2,rfl,by rw[<-hl2],hbd.1,by omega,HA2,E2,B2⟩
    case measure=>simp[Ih];omega
theorem qv:∀ N,pm N -- 32
 | 0=>λe ao cap l w h=>absurd h (Ir _)
 | N+1=>sU (qv N)
def lJ (N:Nat):Prop:=∀ (e e2:Ex) (ao ao2:Option Hw) (cap cap2:Nat) (w:G9),e.kids.size<N->e.kids.len<=1000000000->e.kids.short->e2.kids.len<=1000000000->e2.kids.short->SnA w e.kids ao->SnA w e2.kids ao2 ->
 Hn G5 220 #[exN e ao cap,exN e2 ao2 cap2] w λx w'=>x=.returned (.bool (eR e e2))/\Hf w.heap.size w w'
theorem pK {N:Nat}(IH:lJ N):lJ (N+1):=by
 intro e e2 ao ao2 cap cap2 w hN hlen hsh hlen2 hsh2 S S2;obtain⟨W,hW⟩:∃W,W=eR e e2:=⟨_,rfl⟩;rw[<-hW];have HW:Hid (W=eR e e2):=hW;clear hW;have B0:Hf w.heap.size w ((w.alloc (.cells #[.int .i64 e.k,.int .i64 e.n,stv e.nm,.slice ao e.kids.len cap] 34)).alloc (.cells #[.int .i64 e2.k,.int .i64 e2.n,stv e2.nm,.slice ao2 e2.kids.len cap2] 34)):=((Hi _ w).alloc (G4 _) _).alloc (by simp) _;have E0:((w.alloc (.cells #[.int .i64 e.k,.int .i64 e.n,stv e.nm,.slice ao e.kids.len cap] 34)).alloc (.cells #[.int .i64 e2.k,.int .i64 e2.n,stv e2.nm,.slice ao2 e2.kids.len cap2] 34)).heap[w.heap.size]?=G1 (.cells #[.int .i64 e.k,.int .i64 e.n,stv e.nm,.slice ao e.kids.len cap] 34):=(Hj _ _ _ (by simp)).trans (Hc w _);have Y0:((w.alloc (.cells #[.int .i64 e.k,.int .i64 e.n,stv e.nm,.slice ao e.kids.len cap] 34)).alloc (.cells #[.int .i64 e2.k,.int .i64 e2.n,stv e2.nm,.slice ao2 e2.kids.len cap2] 34)).heap[w.heap.size+1]?=G1 (.cells #[.int .i64 e2.k,.int .i64 e2.n,stv e2.nm,.slice ao2 e2.kids.len cap2] 34):=by
  have:=Hc (w.alloc (.cells #[.int .i64 e.k,.int .i64 e.n,stv e.nm,.slice ao e.kids.len cap] 34)) (.cells #[.int .i64 e2.k,.int .i64 e2.n,stv e2.nm,.slice ao2 e2.kids.len cap2] 34)
  simpa using this
 rw[dR,dR];go_enter Tryz.func220,Tryz.ntmps220;go_upto_region 1 with fail;generalize (w.alloc (.cells #[.int .i64 e.k,.int .i64 e.n,stv e.nm,.slice ao e.kids.len cap] 34)).alloc (.cells #[.int .i64 e2.k,.int .i64 e2.n,stv e2.nm,.slice ao2 e2.kids.len cap2] 34)=w0 at *;obtain⟨bx,hbx⟩:∃bx,bx=w.heap.size:=⟨_,rfl⟩;rw[<-hbx] at E0 Y0 B0 ⊢;have HB:Hid (bx=w.heap.size):=hbx;clear hbx;obtain⟨p0,p1,p2,p3,pf⟩:=ep E0;obtain⟨q0,q1,q2,q3,qf⟩:=ep Y0;by_cases h1:e.k=e2.k
 ·by_cases h2:e.n=e2.n
  ·by_cases h3:e.nm=e2.nm
   ·by_cases h4:e.kids.len=e2.kids.len
    ·have h1b:(e.k != e2.k)=false:=by simp[h1]
     have h2b:(e.n != e2.n)=false:=by simp[h2]
     have h3b:(e.nm==e2.nm)=true:=by simp[h3]
     have h4b:((e.kids.len:Int) != (e2.kids.len:Int))=false:=by rw[h4];simp
     have h1c:(e.k==e2.k)=true:=by simp[h1]
     have h2c:(e.n==e2.n)=true:=by simp[h2]
     have h4c:((e.kids.len:Int)==(e2.kids.len:Int))=true:=by rw[h4];simp
     have HF:Hid (W=fX e.kids e2.kids):=by show W=_;rw[HW.out];simp[eR,h1,h2,h3]
     have H4:Hid (e.kids.len=e2.kids.len):=h4;clear HW h1 h2 h3 h4;go_wp2;go_loopw [5] (λv wr=>∃(done r d2 r2:Fs),Hid (e.kids=done.app r)/\Hid (e2.kids=d2.app r2)/\Hid (d2.len=done.len)/\v=.int .i64 (done.len:Nat)/\Hid (fX r r2=W)/\wr.heap[bx]?=G1 (.cells #[.int .i64 e.k,.int .i64 e.n,stv e.nm,.slice ao e.kids.len cap] 34)/\wr.heap[bx+1]?=G1 (.cells #[.int .i64 e2.k,.int .i64 e2.n,stv e2.nm,.slice ao2 e2.kids.len cap2] 34)/\Hf bx w wr) (λv _=>e.kids.len-(Ih v).toNat)
     case atStart=>exact⟨.nil,e.kids,.nil,e2.kids,rfl,rfl,rfl,by show _=Hp .i64 ((0:Nat):Int);rfl,HF.out.symm,E0,Y0,B0⟩
     case round =>
      clear E0 Y0 B0 p0 p1 p2 p3 pf q0 q1 q2 q3 qf HF h1b h2b h3b h4b h1c h2c h4c;obtain⟨done,r,d2,r2,hk,hk2,hd,rfl,HA,E1,Y1,B1⟩:=hrel;have hlf:e.kids.len=done.len+r.len:=by rw[hk.out,Fs.len_app]
      have hlg:e2.kids.len=d2.len+r2.len:=by rw[hk2.out,Fs.len_app]
      have HRR:Hid (r.len=r2.len):=by show _=_;have:=H4.out;have:=hd.out;omega
      clear hlg;obtain⟨p0,p1,p2,p3,pf⟩:=ep E1;obtain⟨q0,q1,q2,q3,qf⟩:=ep Y1;cases r using Fs.on with
      | nil =>
       have hl0:¬(done.len:Int)<(e.kids.len:Int):=by simp only[Fs.len] at hlf;omega
       have FIN:Hid (W=true):=by
        show W=true;rw[<-HA.out];cases r2 using Fs.on with
        | nil=>rfl
        | Js k n nm a ks r=>have:=HRR.out;simp only[Fs.len] at this;omega
       clear HA hlf HRR;go_wp2;go_ret;rw[FIN.out];exact⟨rfl,by rw[<-HB.out];exact B1⟩
      | Js kk kn km ka kks kr =>
       cases r2 using Fs.on with
       | nil=>have:=HRR.out;simp only[Fs.len] at this;omega
       | Js jk jn jm ja jks jr =>
       have hl0:(done.len:Int)<(e.kids.len:Int):=by simp only[Fs.len] at hlf;omega
       have hl1:done.len<e.kids.len:=by omega
       have hl2:done.len<e2.kids.len:=by have:=H4.out;omega
       have hl3:(done.len:Int)<(e2.kids.len:Int):=by omega
       have hsz:e.kids.size=done.size+(kks.size+kr.size+1):=by rw[hk.out,Fs.size_app];rfl
       have hsk:(Fs.cons kk kn km ka kks kr).short:=Fs.app_short (by rw[<-hk.out];exact hsh);have hsj:(Fs.cons jk jn jm ja jks jr).short:=Fs.app_short (by rw[<-hk2.out];exact hsh2);obtain⟨b,off,ak,ck,hao,lb1,-,x0,x1,x2,x3,SK⟩:=SlN.kidQ (by rw[<-hk.out];exact SnA.below S (by rw[<-HB.out];exact B1));obtain⟨b',off',aj,cj,hao',lb2,-,y0,y1,y2,y3,TK⟩:=SlN.kidQ (by rw[<-hk2.out];exact SnA.below S2 (by rw[<-HB.out];exact B1));subst hao hao';rw[hd.out] at y0 y1 y2 y3;have hc:=IH ⟨kk,kn,km,ka,kks⟩ ⟨jk,jn,jm,ja,jks⟩ ak aj ck cj wr.drew (by show kks.size<N;omega) hsk.2.1 hsk.2.2.1 hsj.2.1 hsj.2.2.1 (SnA.below SK (Hi _ wr).drew) (SnA.below TK (Hi _ wr).drew);rw[dR,dR] at hc;simp only at hc;have HA2:Hid ((eR ⟨kk,kn,km,ka,kks⟩ ⟨jk,jn,jm,ja,jks⟩&&fX kr jr)=W):=HA;have hf2:Hid (e.kids=(done.snoc ⟨kk,kn,km,ka,kks⟩).app kr):=by show e.kids=_;rw[hk.out];unfold Fs.snoc;rw[Fs.app_assoc];rfl
       have hg2:Hid (e2.kids=(d2.snoc ⟨jk,jn,jm,ja,jks⟩).app jr):=by show e2.kids=_;rw[hk2.out];unfold Fs.snoc;rw[Fs.app_assoc];rfl
       have hd2:Hid ((d2.snoc ⟨jk,jn,jm,ja,jks⟩).len=(done.snoc ⟨kk,kn,km,ka,kks⟩).len):=by show _=_;rw[Fs.len_snoc,Fs.len_snoc,hd.out]
       have hl4:(done.len:Int)+1=((done.snoc ⟨kk,kn,km,ka,kks⟩).len:Nat):=by rw[Fs.len_snoc];rfl
       generalize eR ⟨kk,kn,km,ka,kks⟩ ⟨jk,jn,jm,ja,jks⟩=cc at *;clear hlf hsz hsk hsj SK TK HA hk hk2 hd;go_wp2;have k0:wr.cell? ⟨bx,3,G0⟩=G1 (.slice (G1 ⟨b,off,G0⟩) e.kids.len cap)/\wr.cell? ⟨bx+1,3,G0⟩=G1 (.slice (G1 ⟨b',off',G0⟩) e2.kids.len cap2)/\wr.cell? ⟨b,off+done.len*4,G0⟩=G1 (.int .i64 kk)/\wr.cell? ⟨b,off+done.len*4+1,G0⟩=G1 (.int .i64 kn)/\wr.cell? ⟨b,off+done.len*4+2,G0⟩=G1 (stv km)/\wr.cell? ⟨b,off+done.len*4+3,G0⟩=G1 (.slice ak kks.len ck)/\wr.cell? ⟨b',off'+done.len*4,G0⟩=G1 (.int .i64 jk)/\wr.cell? ⟨b',off'+done.len*4+1,G0⟩=G1 (.int .i64 jn)/\wr.cell? ⟨b',off'+done.len*4+2,G0⟩=G1 (stv jm)/\wr.cell? ⟨b',off'+done.len*4+3,G0⟩=G1 (.slice aj jks.len cj):=⟨p3,q3,x0,x1,x2,x3,y0,y1,y2,y3⟩;have k1:wr.drew.cell? ⟨bx,3,G0⟩=G1 (.slice (G1 ⟨b,off,G0⟩) e.kids.len cap)/\wr.drew.cell? ⟨bx+1,3,G0⟩=G1 (.slice (G1 ⟨b',off',G0⟩) e2.kids.len cap2)/\wr.drew.cell? ⟨b,off+done.len*4,G0⟩=G1 (.int .i64 kk)/\wr.drew.cell? ⟨b,off+done.len*4+1,G0⟩=G1 (.int .i64 kn)/\wr.drew.cell? ⟨b,off+done.len*4+2,G0⟩=G1 (stv km)/\wr.drew.cell? ⟨b,off+done.len*4+3,G0⟩=G1 (.slice ak kks.len ck)/\wr.drew.cell? ⟨b',off'+done.len*4,G0⟩=G1 (.int .i64 jk)/\wr.drew.cell? ⟨b',off'+done.len*4+1,G0⟩=G1 (.int .i64 jn)/\wr.drew.cell? ⟨b',off'+done.len*4+2,G0⟩=G1 (stv jm)/\wr.drew.cell? ⟨b',off'+done.len*4+3,G0⟩=G1 (.slice aj jks.len cj):=k0;have lb:bx+1<wr.drew.heap.size:=Ha Y1;go_region_held (λwx=>wx.cell? ⟨bx,3,G0⟩=G1 (.slice (G1 ⟨b,off,G0⟩) e.kids.len cap)/\wx.cell? ⟨bx+1,3,G0⟩=G1 (.slice (G1 ⟨b',off',G0⟩) e2.kids.len cap2)/\wx.cell? ⟨b,off+done.len*4,G0⟩=G1 (.int .i64 kk)/\wx.cell? ⟨b,off+done.len*4+1,G0⟩=G1 (.int .i64 kn)/\wx.cell? ⟨b,off+done.len*4+2,G0⟩=G1 (stv km)/\wx.cell? ⟨b,off+done.len*4+3,G0⟩=G1 (.slice ak kks.len ck)/\wx.cell? ⟨b',off'+done.len*4,G0⟩=G1 (.int .i64 jk)/\wx.cell? ⟨b',off'+done.len*4+1,G0⟩=G1 (.int .i64 jn)/\wx.cell? ⟨b',off'+done.len*4+2,G0⟩=G1 (stv jm)/\wx.cell? ⟨b',off'+done.len*4+3,G0⟩=G1 (.slice aj jks.len cj)) (first|(with_reducible exact k2)|(with_reducible exact k1)|(with_reducible exact k0)) ((go_at_call 220;refine hc.mono ?_;rintro x w2 ⟨rfl,b2⟩;have k2:w2.cell? ⟨bx,3,G0⟩=G1 (.slice (G1 ⟨b,off,G0⟩) e.kids.len cap)/\w2.cell? ⟨bx+1,3,G0⟩=G1 (.slice (G1 ⟨b',off',G0⟩) e2.kids.len cap2)/\w2.cell? ⟨b,off+done.len*4,G0⟩=G1 (.int .i64 kk)/\w2.cell? ⟨b,off+done.len*4+1,G0⟩=G1 (.int .i64 kn)/\w2.cell? ⟨b,off+done.len*4+2,G0⟩=G1 (stv km)/\w2.cell? ⟨b,off+done.len*4+3,G0⟩=G1 (.slice ak kks.len ck)/\w2.cell? ⟨b',off'+done.len*4,G0⟩=G1 (.int .i64 jk)/\w2.cell? ⟨b',off'+done.len*4+1,G0⟩=G1 (.int .i64 jn)/\w2.cell? ⟨b',off'+done.len*4+2,G0⟩=G1 (stv jm)/\w2.cell? ⟨b',off'+done.len*4+3,G0⟩=G1 (.slice aj jks.len cj):=⟨(b2.cell (p:=⟨bx,3,G0⟩) (Ky lb)).trans p3,(b2.cell (p:=⟨bx+1,3,G0⟩) lb).trans q3,(b2.cell (p:=⟨b,off+done.len*4,G0⟩) lb1).trans x0,(b2.cell (p:=⟨b,off+done.len*4+1,G0⟩) lb1).trans x1,(b2.cell (p:=⟨b,off+done.len*4+2,G0⟩) lb1).trans x2,(b2.cell (p:=⟨b,off+done.len*4+3,G0⟩) lb1).trans x3,(b2.cell (p:=⟨b',off'+done.len*4,G0⟩) lb2).trans y0,(b2.cell (p:=⟨b',off'+done.len*4+1,G0⟩) lb2).trans y1,(b2.cell (p:=⟨b',off'+done.len*4+2,G0⟩) lb2).trans y2,(b2.cell (p:=⟨b',off'+done.len*4+3,G0⟩) lb2).trans y3⟩));have B2:Hf bx w w2:=(B1.drew).trans (b2.mono (by have:=HB.out;have:=B1.size;show bx<=wr.heap.size;omega));have E2:=(b2.block bx (Ky lb)).trans E1;have Y2:=(b2.block (bx+1) lb).trans Y1;clear k0 k1 k2 p0 p1 p2 p3 pf q0 q1 q2 q3 qf x0 x1 x2 x3 y0 y1 y2 y3 hc b2 E1 Y1 B1;cases cc with
       | false =>
        have FIN:Hid (W=false):=by show W=_;rw[<-HA2.out];rfl
        clear HA2;go_wp2;go_ret;rw[FIN.out];exact⟨rfl,by rw[<-HB.out];exact B2⟩
       | true =>
        have HA3:Hid (fX kr jr=W):=by show _=W;rw[<-HA2.out];rfl
        clear HA2;go_wp2;go_roundw
        case rel=>exact⟨_,kr,_,jr,hf2,hg2,hd2,by rw[<-hl4],HA3,E2,Y2,B2⟩
        case measure=>simp[Ih];omega
    ·have h1b:(e.k != e2.k)=false:=by simp[h1]
     have h2b:(e.n != e2.n)=false:=by simp[h2]
     have h3b:(e.nm==e2.nm)=true:=by simp[h3]
     have h1c:(e.k==e2.k)=true:=by simp[h1]
     have h2c:(e.n==e2.n)=true:=by simp[h2]
     have h4b:((e.kids.len:Int) != (e2.kids.len:Int))=true:=by simp;omega
     have h4c:((e.kids.len:Int)==(e2.kids.len:Int))=false:=by simp;omega
     have FIN:Hid (W=false):=by show W=_;rw[HW.out];simp[eR,nh _ _ h4]
     clear HW h1 h2 h3 h4;go_wp2;go_ret;rw[FIN.out];exact⟨rfl,by rw[<-HB.out];exact B0⟩
   ·have h1b:(e.k != e2.k)=false:=by simp[h1]
    have h2b:(e.n != e2.n)=false:=by simp[h2]
    have h1c:(e.k==e2.k)=true:=by simp[h1]
    have h2c:(e.n==e2.n)=true:=by simp[h2]
    have h3b:(e.nm==e2.nm)=false:=by simpa using h3
    have FIN:Hid (W=false):=by show W=_;rw[HW.out];simp[eR,h3]
    clear HW h1 h2 h3;go_wp2;go_ret;rw[FIN.out];exact⟨rfl,by rw[<-HB.out];exact B0⟩
  ·have h1b:(e.k != e2.k)=false:=by simp[h1]
   have h1c:(e.k==e2.k)=true:=by simp[h1]
   have h2b:(e.n != e2.n)=true:=by simpa using h2
   have h2c:(e.n==e2.n)=false:=by simpa using h2
   have FIN:Hid (W=false):=by show W=_;rw[HW.out];simp[eR,h2]
   clear HW h1 h2;go_wp2;go_ret;rw[FIN.out];exact⟨rfl,by rw[<-HB.out];exact B0⟩
 ·have h1b:(e.k != e2.k)=true:=by simpa using h1
  have h1c:(e.k==e2.k)=false:=by simpa using h1
  have FIN:Hid (W=false):=by show W=_;rw[HW.out];simp[eR,h1]
  clear HW h1;go_wp2;go_ret;rw[FIN.out];exact⟨rfl,by rw[<-HB.out];exact B0⟩
theorem nu:∀ N,lJ N
 | 0=>λe e2 ao ao2 cap cap2 w h=>absurd h (Ir _)
 | N+1=>pK (nu N)
theorem tX (a:Ex):eR a a=true:=by simp[eR,lL]
def nT (N:Nat):Prop:=∀ (e e2:Ex) (ao ao2:Option Hw) (cap cap2:Nat) (w:G9),e.kids.size<N->e.kids.len<=1000000000->e.kids.short->e2.kids.len<=1000000000->e2.kids.short->SnA w e.kids ao->SnA w e2.kids ao2 ->
 Hn G5 225 #[exN e ao cap,exN e2 ao2 cap2] w λx w'=>x=.returned (.bool (eR e e2))/\Hf w.heap.size w w'
def GP (N:Nat):Prop:=∀ (f g:Fs) (ao ao2:Option Hw) (cap cap2:Nat) (w:G9),f.size<=N->f.len<=1000000000->f.short->g.len<=1000000000->g.short->SnA w f ao->SnA w g ao2 ->
 Hn G5 244 #[.slice ao f.len cap,.slice ao2 g.len cap2,.func (.func 225) #[] #[]] w λx w'=>x=.returned (.bool (fX f g))/\Hf w.heap.size w w'
theorem ET {N:Nat}(H:nT N):GP N:=by
 intro f g ao ao2 cap cap2 w hN hlen hsh hlen2 hsh2 S S2;obtain⟨W,hW⟩:∃W,W=fX f g:=⟨_,rfl⟩;rw[<-hW];have HW:Hid (W=fX f g):=hW;clear hW;go_enter Tryz.func244,Tryz.ntmps244;by_cases hl:f.len=g.len
 ·have hI:((f.len:Int) != (g.len:Int))=false:=by rw[hl];simp
  have hIe:((f.len:Int)==(g.len:Int))=true:=by rw[hl];simp
  have HL:Hid (f.len=g.len):=hl;clear hl;go_wp2;go_loopw [17] (λv wr=>∃(d r d2 r2:Fs),Hid (f=d.app r)/\Hid (g=d2.app r2)/\Hid (d2.len=d.len)/\v=.int .i64 (d.len:Nat)/\Hid (fX r r2=W)/\Hf w.heap.size w wr) (λv _=>f.len-(Ih v).toNat)
  case atStart=>exact⟨.nil,f,.nil,g,rfl,rfl,rfl,by show _=Hp .i64 ((0:Nat):Int);rfl,HW.out.symm,Hi _ _⟩
  case round =>
   obtain⟨d,r,d2,r2,hf,hg,hd,rfl,HA,B1⟩:=hrel;have hlf:f.len=d.len+r.len:=by rw[hf.out,Fs.len_app]
   have hlg:g.len=d2.len+r2.len:=by rw[hg.out,Fs.len_app]
   have hrr:r.len=r2.len:=by have:=HL.out;have:=hd.out;omega
   have HRR:Hid (r.len=r2.len):=hrr;clear HW hlg hrr hI hIe;cases r using Fs.on with
   | nil =>
    have hl0:¬(d.len:Int)<(f.len:Int):=by simp only[Fs.len] at hlf;omega
    have FIN:Hid (W=true):=by
     show W=true;rw[<-HA.out];cases r2 using Fs.on with
     | nil=>rfl
     | Js k n nm a ks r=>have:=HRR.out;simp only[Fs.len] at this;omega
    clear HA hlf HRR;go_wp2;go_ret;rw[FIN.out];exact⟨rfl,B1⟩
   | Js kk kn km ka kks kr =>
    cases r2 using Fs.on with
    | nil=>have:=HRR.out;simp only[Fs.len] at this;omega
    | Js jk jn jm ja jks jr =>
    have hl0:(d.len:Int)<(f.len:Int):=by simp only[Fs.len] at hlf;omega
    have hl1:d.len<f.len:=by omega
    have hl2:d.len<g.len:=by have:=HL.out;omega
    have hl3:(d.len:Int)<(g.len:Int):=by omega
    have hsz:f.size=d.size+(kks.size+kr.size+1):=by rw[hf.out,Fs.size_app];rfl
    have hsk:(Fs.cons kk kn km ka kks kr).short:=Fs.app_short (by rw[<-hf.out];exact hsh);have hsj:(Fs.cons jk jn jm ja jks jr).short:=Fs.app_short (by rw[<-hg.out];exact hsh2);obtain⟨b,off,ak,ck,hao,lb1,-,x0,x1,x2,x3,SK⟩:=SlN.kidQ (by rw[<-hf.out];exact SnA.below S B1);obtain⟨b',off',aj,cj,hao',lb2,-,y0,y1,y2,y3,TK⟩:=SlN.kidQ (by rw[<-hg.out];exact SnA.below S2 B1);subst hao hao';rw[hd.out] at y0 y1 y2 y3;have b2:Hf wr.heap.size wr (wr.alloc (.cells #[.int .i64 kk,.int .i64 kn,stv km,.slice ak kks.len ck] 34)):=(Hi _ wr).alloc (G4 _) _;have K2:(wr.alloc (.cells #[.int .i64 kk,.int .i64 kn,stv km,.slice ak kks.len ck] 34)).heap[wr.heap.size]?=G1 (.cells #[.int .i64 kk,.int .i64 kn,stv km,.slice ak kks.len ck] 34):=Hc wr _;have B2:=B1.trans (b2.mono B1.size);have z0:=(b2.cell (p:=⟨b',off'+d.len*4,G0⟩) lb2).trans y0;have z1:=(b2.cell (p:=⟨b',off'+d.len*4+1,G0⟩) lb2).trans y1;have z2:=(b2.cell (p:=⟨b',off'+d.len*4+2,G0⟩) lb2).trans y2;have z3:=(b2.cell (p:=⟨b',off'+d.len*4+3,G0⟩) lb2).trans y3;have SK2:=SnA.below SK b2;have TK2:=SnA.below TK b2;clear y0 y1 y2 y3 hlf;go_upto_region 6 with fail;generalize wr.alloc (.cells #[.int .i64 kk,.int .i64 kn,stv km,.slice ak kks.len ck] 34)=w2 at *;generalize wr.heap.size=bk at *;clear x0 x1 x2 x3 b2 SK TK B1;have b3:Hf w2.heap.size w2 (w2.alloc (.cells #[.int .i64 jk,.int .i64 jn,stv jm,.slice aj jks.len cj] 34)):=(Hi _ w2).alloc (G4 _) _;have J3:(w2.alloc (.cells #[.int .i64 jk,.int .i64 jn,stv jm,.slice aj jks.len cj] 34)).heap[w2.heap.size]?=G1 (.cells #[.int .i64 jk,.int .i64 jn,stv jm,.slice aj jks.len cj] 34):=Hc w2 _;have K3:=(b3.block _ (Ha K2)).trans K2;have B3:=B2.trans (b3.mono B2.size);have SK3:=SnA.below SK2 b3;have TK3:=SnA.below TK2 b3;go_upto_region 7 with fail;generalize w2.alloc (.cells #[.int .i64 jk,.int .i64 jn,stv jm,.slice aj jks.len cj] 34)=w3 at *;generalize w2.heap.size=bj at *;clear z0 z1 z2 z3 b3 SK2 TK2 B2 K2;obtain⟨p0,p1,p2,p3,pf⟩:=ep K3;obtain⟨q0,q1,q2,q3,qf⟩:=ep J3;have c4:=H ⟨kk,kn,km,ka,kks⟩ ⟨jk,jn,jm,ja,jks⟩ ak aj ck cj w3 (by show kks.size<N;omega) hsk.2.1 hsk.2.2.1 hsj.2.1 hsj.2.2.1 SK3 TK3;rw[dR,dR] at c4;simp only at c4;have HA2:Hid ((eR ⟨kk,kn,km,ka,kks⟩ ⟨jk,jn,jm,ja,jks⟩&&fX kr jr)=W):=HA;have hf2:Hid (f=(d.snoc ⟨kk,kn,km,ka,kks⟩).app kr):=by show f=_;rw[hf.out];unfold Fs.snoc;rw[Fs.app_assoc];rfl
    have hg2:Hid (g=(d2.snoc ⟨jk,jn,jm,ja,jks⟩).app jr):=by show g=_;rw[hg.out];unfold Fs.snoc;rw[Fs.app_assoc];rfl
    have hd2:Hid ((d2.snoc ⟨jk,jn,jm,ja,jks⟩).len=(d.snoc ⟨kk,kn,km,ka,kks⟩).len):=by show _=_;rw[Fs.len_snoc,Fs.len_snoc,hd.out]
    have hl4:(d.len:Int)+1=((d.snoc ⟨kk,kn,km,ka,kks⟩).len:Nat):=by rw[Fs.len_snoc];rfl
    generalize eR ⟨kk,kn,km,ka,kks⟩ ⟨jk,jn,jm,ja,jks⟩=cc at *;clear HA hf hg hd hsz hsk hsj SK3 TK3 K3 J3;go_wp2_with fail;refine c4.mono ?_;rintro x w4 ⟨rfl,b4⟩;have B4:=B3.trans (b4.mono B3.size);clear c4 p0 p1 p2 p3 pf q0 q1 q2 q3 qf b4 B3;cases cc with
    | false =>
     have FIN:Hid (W=false):=by show W=_;rw[<-HA2.out];rfl
     clear HA2;go_wp2;go_ret;rw[FIN.out];exact⟨rfl,B4⟩
    | true =>
     have HA3:Hid (fX kr jr=W):=by show _=W;rw[<-HA2.out];rfl
     clear HA2;go_wp2;go_roundw
     case rel=>exact⟨_,kr,_,jr,hf2,hg2,hd2,by rw[<-hl4],HA3,B4⟩
     case measure=>simp[Ih];omega
 ·have hI:((f.len:Int) != (g.len:Int))=true:=by simp;omega
  have hI2:¬(f.len:Int)=(g.len:Int):=by omega
  have FIN:Hid (W=false):=by show W=_;rw[HW.out];exact nh f g hl
  clear HW;go_wp2;go_ret;rw[FIN.out];exact⟨rfl,Hi _ _⟩
theorem xy {N:Nat}(IH:nT N):nT (N+1):=by
 intro e e2 ao ao2 cap cap2 w hN hlen hsh hlen2 hsh2 S S2;obtain⟨W,hW⟩:∃W,W=eR e e2:=⟨_,rfl⟩;rw[<-hW];have HW:Hid (W=eR e e2):=hW;clear hW;have B0:Hf w.heap.size w ((w.alloc (.cells #[.int .i64 e.k,.int .i64 e.n,stv e.nm,.slice ao e.kids.len cap] 34)).alloc (.cells #[.int .i64 e2.k,.int .i64 e2.n,stv e2.nm,.slice ao2 e2.kids.len cap2] 34)):=((Hi _ w).alloc (G4 _) _).alloc (by simp) _;have E0:((w.alloc (.cells #[.int .i64 e.k,.int .i64 e.n,stv e.nm,.slice ao e.kids.len cap] 34)).alloc (.cells #[.int .i64 e2.k,.int .i64 e2.n,stv e2.nm,.slice ao2 e2.kids.len cap2] 34)).heap[w.heap.size]?=G1 (.cells #[.int .i64 e.k,.int .i64 e.n,stv e.nm,.slice ao e.kids.len cap] 34):=(Hj _ _ _ (by simp)).trans (Hc w _);have Y0:((w.alloc (.cells #[.int .i64 e.k,.int .i64 e.n,stv e.nm,.slice ao e.kids.len cap] 34)).alloc (.cells #[.int .i64 e2.k,.int .i64 e2.n,stv e2.nm,.slice ao2 e2.kids.len cap2] 34)).heap[w.heap.size+1]?=G1 (.cells #[.int .i64 e2.k,.int .i64 e2.n,stv e2.nm,.slice ao2 e2.kids.len cap2] 34):=by
  have:=Hc (w.alloc (.cells #[.int .i64 e.k,.int .i64 e.n,stv e.nm,.slice ao e.kids.len cap] 34)) (.cells #[.int .i64 e2.k,.int .i64 e2.n,stv e2.nm,.slice ao2 e2.kids.len cap2] 34)
  simpa using this
 have S0:=SnA.below S B0;have T0:=SnA.below S2 B0;rw[dR,dR];go_enter Tryz.func225,Tryz.ntmps225;go_upto_region 1 with fail;generalize (w.alloc (.cells #[.int .i64 e.k,.int .i64 e.n,stv e.nm,.slice ao e.kids.len cap] 34)).alloc (.cells #[.int .i64 e2.k,.int .i64 e2.n,stv e2.nm,.slice ao2 e2.kids.len cap2] 34)=w0 at *;obtain⟨bx,hbx⟩:∃bx,bx=w.heap.size:=⟨_,rfl⟩;rw[<-hbx] at E0 Y0 B0 ⊢;have HB:Hid (bx=w.heap.size):=hbx;clear hbx S S2;obtain⟨p0,p1,p2,p3,pf⟩:=ep E0;obtain⟨q0,q1,q2,q3,qf⟩:=ep Y0;by_cases h1:e.k=e2.k
 ·have h1b:(e.k==e2.k)=true:=by simp[h1]
  by_cases h2:e.n=e2.n
  ·have h2b:(e.n==e2.n)=true:=by simp[h2]
   by_cases h3:e.nm=e2.nm
   ·have h3b:(e.nm==e2.nm)=true:=by simp[h3]
    have HF:Hid (W=fX e.kids e2.kids):=by show W=_;rw[HW.out];simp[eR,h1,h2,h3]
    have c1:=ET IH e.kids e2.kids ao ao2 cap cap2 w0 (by omega) hlen hsh hlen2 hsh2 S0 T0;clear HW h1 h2 h3;go_wp2_with fail;refine c1.mono ?_;rintro x w1 ⟨rfl,b1⟩;have B1:=B0.trans (b1.mono (by rw[HB.out];exact B0.size));clear c1 p0 p1 p2 p3 pf q0 q1 q2 q3 qf;rw[<-HF.out];go_wp2;go_ret;exact⟨rfl,by rw[<-HB.out];exact B1⟩
   ·have h3b:(e.nm==e2.nm)=false:=by simpa using h3
    have FIN:Hid (W=false):=by show W=_;rw[HW.out];simp[eR,h3]
    clear HW h1 h2 h3;go_wp2;go_ret;rw[FIN.out];exact⟨rfl,by rw[<-HB.out];exact B0⟩
  ·have h2b:(e.n==e2.n)=false:=by simpa using h2
   have FIN:Hid (W=false):=by show W=_;rw[HW.out];simp[eR,h2]
   clear HW h1;go_wp2;go_ret;rw[FIN.out];exact⟨rfl,by rw[<-HB.out];exact B0⟩
 ·have h1b:(e.k==e2.k)=false:=by simpa using h1
  have FIN:Hid (W=false):=by show W=_;rw[HW.out];simp[eR,h1]
  clear HW;go_wp2;go_ret;rw[FIN.out];exact⟨rfl,by rw[<-HB.out];exact B0⟩
theorem wg:∀ N,nT N -- 225
 | 0=>λe e2 ao ao2 cap cap2 w h=>absurd h (Ir _)
 | N+1=>xy (wg N)
def Fs.nv:Fs->Prop
 | ⟨G0⟩=>True
 | ⟨G1 ⟨k,n,_,_,ks,r⟩⟩=>(k=5->0<=n)/\ks.nv/\r.nv
def Ex.nv (e:Ex):Prop:=(e.k=5->0<=e.n)/\e.kids.nv
theorem Fs.app_nv:∀ {x y:Fs},(x.app y).nv->x.nv/\y.nv
 | ⟨G0⟩,y,h=>⟨trivial,h⟩
 | ⟨G1 ⟨k,n,nm,a,ks,r⟩⟩,y,h=>⟨⟨h.1,h.2.1,(Fs.app_nv h.2.2).1⟩,(Fs.app_nv h.2.2).2⟩
theorem ua (cells:List Int):∀ (f:Fs) (pk:Int) (i ar wi:Nat) (s s':Rg) (kd:List Int),rgF cells f pk i ar wi s=G1 (s',kd)->f.nv
 | ⟨G0⟩,pk,i,ar,wi,s,s',kd,h=>trivial
 | ⟨G1 ⟨k,n,nm,a,ks,r⟩⟩,pk,i,ar,wi,s,s',kd,h=>by
  have h0:rgF cells ⟨G1 ⟨k,n,nm,a,ks,r⟩⟩ pk i ar wi s=_:=iQ cells ⟨k,n,nm,a,ks⟩ r pk i ar wi s;rw[h0] at h;cases hx:rgE cells ⟨k,n,nm,a,ks⟩ (eu pk i ar wi).1 (eu pk i ar wi).2 s with
  | none=>rw[hx] at h;cases h
  | some z =>
   obtain⟨s2,k2⟩:=z;rw[hx] at h;simp only at h;cases hr:rgF cells r pk (i+1) ar wi s2 with
   | none=>rw[hr] at h;cases h
   | some z =>
    obtain⟨s3,rest⟩:=z;have hd:=nM hx;obtain⟨-,s1,kd1,hk,-⟩:=gN hx;simp only at hd hk;refine⟨?_,ua cells ks k 0 _ _ _ _ _ hk,ua cells r pk (i+1) ar wi _ _ _ hr⟩;rintro rfl;simp[eg] at hd;omega
theorem BC {cells:List Int}{e:Ex}{ar wi:Nat}{s s':Rg}{k:Int}(h:rgE cells e ar wi s=G1 (s',k)):e.nv:=by
 have hd:=nM h;obtain⟨-,s1,kd1,hk,-⟩:=gN h;refine⟨?_,ua _ _ _ _ _ _ _ _ _ hk⟩;intro h5;rw[h5] at hd;simp[eg] at hd;omega
theorem lq (k n:Int)(nm:List UInt8)(a:Int)(ks r:Fs)(ar:Int):hgF (.cons k n nm a ks r) ar=max (hgE ⟨k,n,nm,a,ks⟩ ar) (hgF r ar):=rfl
def rE (N:Nat):Prop:=∀ (e:Ex) (ao:Option Hw) (cap:Nat) (ar:Int) (w:G9),e.kids.size<N->e.kids.len<=1000000000->e.kids.short->e.nv->0<=ar->ar<=1000000000->SnA w e.kids ao ->
 Hn G5 219 #[exN e ao cap,.int .i64 ar] w λx w'=>x=.returned (.int .i64 (hgE e ar))/\Hf w.heap.size w w'
theorem vv {N:Nat}(IH:rE N):rE (N+1):=by
 intro e ao cap ar w hN hlen hsh hnv h0 h1 S;obtain⟨W,hW⟩:∃W,W=hgE e ar:=⟨_,rfl⟩;rw[<-hW];have HW:Hid (W=hgE e ar):=hW;clear hW;have B0:Hf w.heap.size w (w.alloc (.cells #[.int .i64 e.k,.int .i64 e.n,stv e.nm,.slice ao e.kids.len cap] 34)):=(Hi _ w).alloc (G4 _) _;have E0:(w.alloc (.cells #[.int .i64 e.k,.int .i64 e.n,stv e.nm,.slice ao e.kids.len cap] 34)).heap[w.heap.size]?=G1 (.cells #[.int .i64 e.k,.int .i64 e.n,stv e.nm,.slice ao e.kids.len cap] 34):=Hc w _;rw[dR];go_enter Tryz.func219,Tryz.ntmps219;go_upto_region 1 with fail;generalize w.alloc (.cells #[.int .i64 e.k,.int .i64 e.n,stv e.nm,.slice ao e.kids.len cap] 34)=w0 at *;obtain⟨bx,hbx⟩:∃bx,bx=w.heap.size:=⟨_,rfl⟩;rw[<-hbx] at E0 B0 ⊢;have HB:Hid (bx=w.heap.size):=hbx;clear hbx;obtain⟨c0,hc0⟩:∃c0:Int,c0=if e.k=5/\e.n<ar then e.n+1 else 0:=⟨_,rfl⟩;have hcb:0<=c0/\c0<=ar:=by
  rw[hc0];split
  ·have:=hnv.1 (by omega)
   omega
  ·omega
 have HA0:Hid (max c0 (hgF e.kids ar)=W):=by show _=W;rw[HW.out,hc0];rfl
 clear HW;obtain⟨p0,p1,p2,p3,pf⟩:=ep E0;by_cases hv:e.k=5
 ·have hkb:(e.k==5)=true:=by simpa using hv
  by_cases hv2:e.n<ar
  ·have hv3:=hnv.1 hv;obtain rfl:c0=e.n+1:=by rw[hc0,if_pos ⟨hv,hv2⟩]
   clear hv hc0;go_wp2;go_loopw [5,6] (λv1 v5 wr=>∃(done r:Fs) (c:Int),Hid (e.kids=done.app r)/\v1=.int .i64 c/\v5=.int .i64 (done.len:Nat)/\0<=c/\c<=ar/\Hid (max c (hgF r ar)=W)/\wr.heap[bx]?=G1 (.cells #[.int .i64 e.k,.int .i64 e.n,stv e.nm,.slice ao e.kids.len cap] 34)/\Hf bx w wr) (λ_ v5 _=>e.kids.len-(Ih v5).toNat)
   case atStart=>exact⟨.nil,e.kids,e.n+1,rfl,rfl,by show _=Hp .i64 ((0:Nat):Int);rfl,hcb.1,hcb.2,HA0,E0,B0⟩
   case round =>
    clear E0 B0 HA0 p0 p1 p2 p3 pf hcb;obtain⟨done,r,c,hk,rfl,rfl,hc0,hc1,HA,E1,B1⟩:=hrel;have hlk:e.kids.len=done.len+r.len:=by rw[hk.out,Fs.len_app]
    obtain⟨p0,p1,p2,p3,pf⟩:=ep E1;cases r using Fs.on with
    | nil =>
     have hlt:¬(done.len:Int)<(e.kids.len:Int):=by simp only[Fs.len] at hlk;omega
     have FIN:Hid (W=c):=by show W=c;rw[<-HA.out];simp only[hgF];omega
     clear HA hlk;go_wp2;go_ret;rw[FIN.out];exact⟨rfl,by rw[<-HB.out];exact B1⟩
    | Js kk kn km ka kks kr =>
     have hlt:(done.len:Int)<(e.kids.len:Int):=by simp only[Fs.len] at hlk;omega
     have hl3:done.len<e.kids.len:=by omega
     have hsz:e.kids.size=done.size+(kks.size+kr.size+1):=by rw[hk.out,Fs.size_app];rfl
     have hwk:(Fs.cons kk kn km ka kks kr).short:=Fs.app_short (x:=done) (by rw[<-hk.out];exact hsh);have hnk:(Fs.cons kk kn km ka kks kr).nv:=(Fs.app_nv (x:=done) (by rw[<-hk.out];exact hnv.2)).2;obtain⟨b,off,ak,ck,hao,lb1,-,x0,x1,x2,x3,SK⟩:=SlN.kidQ (by rw[<-hk.out];exact SnA.below S (by rw[<-HB.out];exact B1));subst hao;have hbd:=mO ar h0 ⟨kk,kn,km,ka,kks⟩;have hbp:=ld ar ⟨kk,kn,km,ka,kks⟩;have HA2:Hid (max (max c (hgE ⟨kk,kn,km,ka,kks⟩ ar)) (hgF kr ar)=W):=by show _=W;rw[<-HA.out,lq];generalize hgE ⟨kk,kn,km,ka,kks⟩ ar=z;generalize hgF kr ar=y;omega
     have hk2:Hid (e.kids=(done.snoc ⟨kk,kn,km,ka,kks⟩).app kr):=by show e.kids=_;rw[hk.out];unfold Fs.snoc;rw[Fs.app_assoc];rfl
     have hl2:(done.len:Int)+1=((done.snoc ⟨kk,kn,km,ka,kks⟩).len:Nat):=by rw[Fs.len_snoc];rfl
     have hcc:=IH ⟨kk,kn,km,ka,kks⟩ ak ck ar wr (by show kks.size<N;omega) hwk.2.1 hwk.2.2.1 ⟨hnk.1,hnk.2.1⟩ h0 h1 SK;rw[dR] at hcc;simp only at hcc;generalize hgE ⟨kk,kn,km,ka,kks⟩ ar=c2 at *;clear HA hlk hsz hwk SK hk hnk;go_wp2_with fail;refine hcc.mono ?_;rintro x w2 ⟨rfl,b2⟩;have B2:=B1.trans (b2.mono (by have:=Ha E1;omega));have E2:=(b2.block bx (Ha E1)).trans E1;clear hcc x0 x1 x2 x3 p0 p1 p2 p3 pf b2 E1 B1;go_wp2;go_roundw
     case rel=>exact⟨_,kr,max c c2,hk2,rfl,by rw[<-hl2],by omega,by omega,HA2,E2,B2⟩
     case measure=>simp[Ih];omega
  ·obtain rfl:c0=0:=by rw[hc0,if_neg (λh=>hv2 h.2)]
   clear hv hc0;go_wp2;go_loopw [5,6] (λv1 v5 wr=>∃(done r:Fs) (c:Int),Hid (e.kids=done.app r)/\v1=.int .i64 c/\v5=.int .i64 (done.len:Nat)/\0<=c/\c<=ar/\Hid (max c (hgF r ar)=W)/\wr.heap[bx]?=G1 (.cells #[.int .i64 e.k,.int .i64 e.n,stv e.nm,.slice ao e.kids.len cap] 34)/\Hf bx w wr) (λ_ v5 _=>e.kids.len-(Ih v5).toNat)
   case atStart=>exact⟨.nil,e.kids,0,rfl,rfl,by show _=Hp .i64 ((0:Nat):Int);rfl,hcb.1,hcb.2,HA0,E0,B0⟩
   case round =>
    clear E0 B0 HA0 p0 p1 p2 p3 pf hcb;obtain⟨done,r,c,hk,rfl,rfl,hc0,hc1,HA,E1,B1⟩:=hrel;have hlk:e.kids.len=done.len+r.len:=by rw[hk.out,Fs.len_app]
    obtain⟨p0,p1,p2,p3,pf⟩:=ep E1;cases r using Fs.on with
    | nil =>
     have hlt:¬(done.len:Int)<(e.kids.len:Int):=by simp only[Fs.len] at hlk;omega
     have FIN:Hid (W=c):=by show W=c;rw[<-HA.out];simp only[hgF];omega
     clear HA hlk;go_wp2;go_ret;rw[FIN.out];exact⟨rfl,by rw[<-HB.out];exact B1⟩
    | Js kk kn km ka kks kr =>
     have hlt:(done.len:Int)<(e.kids.len:Int):=by simp only[Fs.len] at hlk;omega
     have hl3:done.len<e.kids.len:=by omega
     have hsz:e.kids.size=done.size+(kks.size+kr.size+1):=by rw[hk.out,Fs.size_app];rfl
     have hwk:(Fs.cons kk kn km ka kks kr).short:=Fs.app_short (x:=done) (by rw[<-hk.out];exact hsh);have hnk:(Fs.cons kk kn km ka kks kr).nv:=(Fs.app_nv (x:=done) (by rw[<-hk.out];exact hnv.2)).2;obtain⟨b,off,ak,ck,hao,lb1,-,x0,x1,x2,x3,SK⟩:=SlN.kidQ (by rw[<-hk.out];exact SnA.below S (by rw[<-HB.out];exact B1));subst hao;have hbd:=mO ar h0 ⟨kk,kn,km,ka,kks⟩;have hbp:=ld ar ⟨kk,kn,km,ka,kks⟩;have HA2:Hid (max (max c (hgE ⟨kk,kn,km,ka,kks⟩ ar)) (hgF kr ar)=W):=by show _=W;rw[<-HA.out,lq];generalize hgE ⟨kk,kn,km,ka,kks⟩ ar=z;generalize hgF kr ar=y;omega
     have hk2:Hid (e.kids=(done.snoc ⟨kk,kn,km,ka,kks⟩).app kr):=by show e.kids=_;rw[hk.out];unfold Fs.snoc;rw[Fs.app_assoc];rfl
     have hl2:(done.len:Int)+1=((done.snoc ⟨kk,kn,km,ka,kks⟩).len:Nat):=by rw[Fs.len_snoc];rfl
     have hcc:=IH ⟨kk,kn,km,ka,kks⟩ ak ck ar wr (by show kks.size<N;omega) hwk.2.1 hwk.2.2.1 ⟨hnk.1,hnk.2.1⟩ h0 h1 SK;rw[dR] at hcc;simp only at hcc;generalize hgE ⟨kk,kn,km,ka,kks⟩ ar=c2 at *;clear HA hlk hsz hwk SK hk hnk;go_wp2_with fail;refine hcc.mono ?_;rintro x w2 ⟨rfl,b2⟩;have B2:=B1.trans (b2.mono (by have:=Ha E1;omega));have E2:=(b2.block bx (Ha E1)).trans E1;clear hcc x0 x1 x2 x3 p0 p1 p2 p3 pf b2 E1 B1;go_wp2;go_roundw
     case rel=>exact⟨_,kr,max c c2,hk2,rfl,by rw[<-hl2],by omega,by omega,HA2,E2,B2⟩
     case measure=>simp[Ih];omega
 ·have hkb:(e.k==5)=false:=by simpa using hv
  obtain rfl:c0=0:=by rw[hc0,if_neg (λh=>hv h.1)]
  clear hv hc0;go_wp2;go_loopw [5,6] (λv1 v5 wr=>∃(done r:Fs) (c:Int),Hid (e.kids=done.app r)/\v1=.int .i64 c/\v5=.int .i64 (done.len:Nat)/\0<=c/\c<=ar/\Hid (max c (hgF r ar)=W)/\wr.heap[bx]?=G1 (.cells #[.int .i64 e.k,.int .i64 e.n,stv e.nm,.slice ao e.kids.len cap] 34)/\Hf bx w wr) (λ_ v5 _=>e.kids.len-(Ih v5).toNat)
  case atStart=>exact⟨.nil,e.kids,0,rfl,rfl,by show _=Hp .i64 ((0:Nat):Int);rfl,hcb.1,hcb.2,HA0,E0,B0⟩
  case round =>
   clear E0 B0 HA0 p0 p1 p2 p3 pf hcb;obtain⟨done,r,c,hk,rfl,rfl,hc0,hc1,HA,E1,B1⟩:=hrel;have hlk:e.kids.len=done.len+r.len:=by rw[hk.out,Fs.len_app]
   obtain⟨p0,p1,p2,p3,pf⟩:=ep E1;cases r using Fs.on with
   | nil =>
    have hlt:¬(done.len:Int)<(e.kids.len:Int):=by simp only[Fs.len] at hlk;omega
    have FIN:Hid (W=c):=by show W=c;rw[<-HA.out];simp only[hgF];omega
    clear HA hlk;go_wp2;go_ret;rw[FIN.out];exact⟨rfl,by rw[<-HB.out];exact B1⟩
   | Js kk kn km ka kks kr =>
    have hlt:(done.len:Int)<(e.kids.len:Int):=by simp only[Fs.len] at hlk;omega
    have hl3:done.len<e.kids.len:=by omega
    have hsz:e.kids.size=done.size+(kks.size+kr.size+1):=by rw[hk.out,Fs.size_app];rfl
    have hwk:(Fs.cons kk kn km ka kks kr).short:=Fs.app_short (x:=done) (by rw[<-hk.out];exact hsh);have hnk:(Fs.cons kk kn km ka kks kr).nv:=(Fs.app_nv (x:=done) (by rw[<-hk.out];exact hnv.2)).2;obtain⟨b,off,ak,ck,hao,lb1,-,x0,x1,x2,x3,SK⟩:=SlN.kidQ (by rw[<-hk.out];exact SnA.below S (by rw[<-HB.out];exact B1));subst hao;have hbd:=mO ar h0 ⟨kk,kn,km,ka,kks⟩;have hbp:=ld ar ⟨kk,kn,km,ka,kks⟩;have HA2:Hid (max (max c (hgE ⟨kk,kn,km,ka,kks⟩ ar)) (hgF kr ar)=W):=by show _=W;rw[<-HA.out,lq];generalize hgE ⟨kk,kn,km,ka,kks⟩ ar=z;generalize hgF kr ar=y;omega
    have hk2:Hid (e.kids=(done.snoc ⟨kk,kn,km,ka,kks⟩).app kr):=by show e.kids=_;rw[hk.out];unfold Fs.snoc;rw[Fs.app_assoc];rfl
    have hl2:(done.len:Int)+1=((done.snoc ⟨kk,kn,km,ka,kks⟩).len:Nat):=by rw[Fs.len_snoc];rfl
    have hcc:=IH ⟨kk,kn,km,ka,kks⟩ ak ck ar wr (by show kks.size<N;omega) hwk.2.1 hwk.2.2.1 ⟨hnk.1,hnk.2.1⟩ h0 h1 SK;rw[dR] at hcc;simp only at hcc;generalize hgE ⟨kk,kn,km,ka,kks⟩ ar=c2 at *;clear HA hlk hsz hwk SK hk hnk;go_wp2_with fail;refine hcc.mono ?_;rintro x w2 ⟨rfl,b2⟩;have B2:=B1.trans (b2.mono (by have:=Ha E1;omega));have E2:=(b2.block bx (Ha E1)).trans E1;clear hcc x0 x1 x2 x3 p0 p1 p2 p3 pf b2 E1 B1;go_wp2;go_roundw
    case rel=>exact⟨_,kr,max c c2,hk2,rfl,by rw[<-hl2],by omega,by omega,HA2,E2,B2⟩
    case measure=>simp[Ih];omega
theorem sr:∀ N,rE N -- 219
 | 0=>λe ao cap ar w h=>absurd h (Ir _)
 | N+1=>vv (sr N)
def rK (N:Nat):Prop:=∀ (e:Ex) (ao:Option Hw) (cap:Nat) (ar:Int) (w:G9),e.kids.size<N->e.kids.len<=1000000000->e.kids.short->e.nv->0<=ar->ar<=1000000000->SnA w e.kids ao ->
 Hn G5 224 #[exN e ao cap,.int .i64 ar] w λx w'=>x=.returned (.int .i64 (hgE e ar))/\Hf w.heap.size w w'
theorem uI {N:Nat}(IH:rK N):rK (N+1):=by
 intro e ao cap ar w hN hlen hsh hnv h0 h1 S;obtain⟨W,hW⟩:∃W,W=hgE e ar:=⟨_,rfl⟩;rw[<-hW];have HW:Hid (W=hgE e ar):=hW;clear hW;have B0:Hf w.heap.size w (w.alloc (.cells #[.int .i64 e.k,.int .i64 e.n,stv e.nm,.slice ao e.kids.len cap] 34)):=(Hi _ w).alloc (G4 _) _;have E0:(w.alloc (.cells #[.int .i64 e.k,.int .i64 e.n,stv e.nm,.slice ao e.kids.len cap] 34)).heap[w.heap.size]?=G1 (.cells #[.int .i64 e.k,.int .i64 e.n,stv e.nm,.slice ao e.kids.len cap] 34):=Hc w _;rw[dR];go_enter Tryz.func224,Tryz.ntmps224;go_upto_region 1 with fail;generalize w.alloc (.cells #[.int .i64 e.k,.int .i64 e.n,stv e.nm,.slice ao e.kids.len cap] 34)=w0 at *;obtain⟨bx,hbx⟩:∃bx,bx=w.heap.size:=⟨_,rfl⟩;rw[<-hbx] at E0 B0 ⊢;have HB:Hid (bx=w.heap.size):=hbx;clear hbx;obtain⟨c0,hc0⟩:∃c0:Int,c0=if e.k=5/\e.n<ar then e.n+1 else 0:=⟨_,rfl⟩;have hcb:0<=c0/\c0<=ar:=by
  rw[hc0];split
  ·have:=hnv.1 (by omega)
   omega
  ·omega
 have HA0:Hid (max c0 (hgF e.kids ar)=W):=by show _=W;rw[HW.out,hc0];rfl
 clear HW;obtain⟨p0,p1,p2,p3,pf⟩:=ep E0;by_cases hv:e.k=5
 ·have hkb:(e.k==5)=true:=by simpa using hv
  by_cases hv2:e.n<ar
  ·have hv3:=hnv.1 hv;obtain rfl:c0=e.n+1:=by rw[hc0,if_pos ⟨hv,hv2⟩]
   clear hv hc0;go_wp2;go_loopw [5,23] (λv1 v5 wr=>∃(done r:Fs) (c:Int),Hid (e.kids=done.app r)/\v1=.int .i64 c/\v5=.int .i64 (done.len:Nat)/\0<=c/\c<=ar/\Hid (max c (hgF r ar)=W)/\wr.heap[bx]?=G1 (.cells #[.int .i64 e.k,.int .i64 e.n,stv e.nm,.slice ao e.kids.len cap] 34)/\Hf bx w wr) (λ_ v5 _=>e.kids.len-(Ih v5).toNat)
   case atStart=>exact⟨.nil,e.kids,e.n+1,rfl,rfl,by show _=Hp .i64 ((0:Nat):Int);rfl,hcb.1,hcb.2,HA0,E0,B0⟩
   case round =>
    clear E0 B0 HA0 p0 p1 p2 p3 pf hcb;obtain⟨done,r,c,hk,rfl,rfl,hc0,hc1,HA,E1,B1⟩:=hrel;have hlk:e.kids.len=done.len+r.len:=by rw[hk.out,Fs.len_app]
    obtain⟨p0,p1,p2,p3,pf⟩:=ep E1;cases r using Fs.on with
    | nil =>
     have hlt:¬(done.len:Int)<(e.kids.len:Int):=by simp only[Fs.len] at hlk;omega
     have FIN:Hid (W=c):=by show W=c;rw[<-HA.out];simp only[hgF];omega
     clear HA hlk;go_wp2;go_ret;rw[FIN.out];exact⟨rfl,by rw[<-HB.out];exact B1⟩
    | Js kk kn km ka kks kr =>
     have hlt:(done.len:Int)<(e.kids.len:Int):=by simp only[Fs.len] at hlk;omega
     have hl3:done.len<e.kids.len:=by omega
     have hsz:e.kids.size=done.size+(kks.size+kr.size+1):=by rw[hk.out,Fs.size_app];rfl
     have hwk:(Fs.cons kk kn km ka kks kr).short:=Fs.app_short (x:=done) (by rw[<-hk.out];exact hsh);have hnk:(Fs.cons kk kn km ka kks kr).nv:=(Fs.app_nv (x:=done) (by rw[<-hk.out];exact hnv.2)).2;obtain⟨b,off,ak,ck,hao,lb1,-,x0,x1,x2,x3,SK⟩:=SlN.kidQ (by rw[<-hk.out];exact SnA.below S (by rw[<-HB.out];exact B1));subst hao;have hbd:=mO ar h0 ⟨kk,kn,km,ka,kks⟩;have hbp:=ld ar ⟨kk,kn,km,ka,kks⟩;have HA2:Hid (max (max c (hgE ⟨kk,kn,km,ka,kks⟩ ar)) (hgF kr ar)=W):=by show _=W;rw[<-HA.out,lq];generalize hgE ⟨kk,kn,km,ka,kks⟩ ar=z;generalize hgF kr ar=y;omega
     have hk2:Hid (e.kids=(done.snoc ⟨kk,kn,km,ka,kks⟩).app kr):=by show e.kids=_;rw[hk.out];unfold Fs.snoc;rw[Fs.app_assoc];rfl
     have hl2:(done.len:Int)+1=((done.snoc ⟨kk,kn,km,ka,kks⟩).len:Nat):=by rw[Fs.len_snoc];rfl
     have hbk:=Ha E1;have B3:Hf wr.heap.size wr (wr.alloc (.cells #[.int .i64 kk,.int .i64 kn,stv km,.slice ak kks.len ck] 34)):=(Hi _ wr).alloc (G4 _) _;have Z3:(wr.alloc (.cells #[.int .i64 kk,.int .i64 kn,stv km,.slice ak kks.len ck] 34)).heap[wr.heap.size]?=G1 (.cells #[.int .i64 kk,.int .i64 kn,stv km,.slice ak kks.len ck] 34):=Hc wr _;have SK3:=SnA.below SK B3;clear HA hlk SK hk;go_upto_region 7 with fail;generalize wr.alloc (.cells #[.int .i64 kk,.int .i64 kn,stv km,.slice ak kks.len ck] 34)=w3 at *;obtain⟨zb,hzb⟩:∃zb,zb=wr.heap.size:=⟨_,rfl⟩;rw[<-hzb] at Z3 ⊢;have HZB:Hid (zb=wr.heap.size):=hzb;have hcc:=IH ⟨kk,kn,km,ka,kks⟩ ak ck ar w3 (by show kks.size<N;omega) hwk.2.1 hwk.2.2.1 ⟨hnk.1,hnk.2.1⟩ h0 h1 SK3;rw[dR] at hcc;simp only at hcc;generalize hgE ⟨kk,kn,km,ka,kks⟩ ar=c2 at *;obtain⟨z0,z1,z2,z3,zf⟩:=ep Z3;have hs3:=Ha Z3;have B13:Hf bx w w3:=B1.trans (B3.mono (by omega));have E3:=(B3.block bx hbk).trans E1;clear hsz hwk hnk hzb SK3 x0 x1 x2 x3 p0 p1 p2 p3 pf E1 B1 B3;go_wp2_with fail;refine hcc.mono ?_;rintro x w2 ⟨rfl,b2⟩;have B2:=B13.trans (b2.mono (by have:=Ha E3;omega));have E2:=(b2.block bx (Ha E3)).trans E3;clear hcc z0 z1 z2 z3 zf b2 E3 B13 Z3;go_wp2;go_roundw
     case rel=>exact⟨_,kr,max c c2,hk2,rfl,by rw[<-hl2],by omega,by omega,HA2,E2,B2⟩
     case measure=>simp[Ih];omega
  ·obtain rfl:c0=0:=by rw[hc0,if_neg (λh=>hv2 h.2)]
   clear hv hc0;go_wp2;go_loopw [5,23] (λv1 v5 wr=>∃(done r:Fs) (c:Int),Hid (e.kids=done.app r)/\v1=.int .i64 c/\v5=.int .i64 (done.len:Nat)/\0<=c/\c<=ar/\Hid (max c (hgF r ar)=W)/\wr.heap[bx]?=G1 (.cells #[.int .i64 e.k,.int .i64 e.n,stv e.nm,.slice ao e.kids.len cap] 34)/\Hf bx w wr) (λ_ v5 _=>e.kids.len-(Ih v5).toNat)
   case atStart=>exact⟨.nil,e.kids,0,rfl,rfl,by show _=Hp .i64 ((0:Nat):Int);rfl,hcb.1,hcb.2,HA0,E0,B0⟩
   case round =>
    clear E0 B0 HA0 p0 p1 p2 p3 pf hcb;obtain⟨done,r,c,hk,rfl,rfl,hc0,hc1,HA,E1,B1⟩:=hrel;have hlk:e.kids.len=done.len+r.len:=by rw[hk.out,Fs.len_app]
    obtain⟨p0,p1,p2,p3,pf⟩:=ep E1;cases r using Fs.on with
    | nil =>
     have hlt:¬(done.len:Int)<(e.kids.len:Int):=by simp only[Fs.len] at hlk;omega
     have FIN:Hid (W=c):=by show W=c;rw[<-HA.out];simp only[hgF];omega
     clear HA hlk;go_wp2;go_ret;rw[FIN.out];exact⟨rfl,by rw[<-HB.out];exact B1⟩
    | Js kk kn km ka kks kr =>
     have hlt:(done.len:Int)<(e.kids.len:Int):=by simp only[Fs.len] at hlk;omega
     have hl3:done.len<e.kids.len:=by omega
     have hsz:e.kids.size=done.size+(kks.size+kr.size+1):=by rw[hk.out,Fs.size_app];rfl
     have hwk:(Fs.cons kk kn km ka kks kr).short:=Fs.app_short (x:=done) (by rw[<-hk.out];exact hsh);have hnk:(Fs.cons kk kn km ka kks kr).nv:=(Fs.app_nv (x:=done) (by rw[<-hk.out];exact hnv.2)).2;obtain⟨b,off,ak,ck,hao,lb1,-,x0,x1,x2,x3,SK⟩:=SlN.kidQ (by rw[<-hk.out];exact SnA.below S (by rw[<-HB.out];exact B1));subst hao;have hbd:=mO ar h0 ⟨kk,kn,km,ka,kks⟩;have hbp:=ld ar ⟨kk,kn,km,ka,kks⟩;have HA2:Hid (max (max c (hgE ⟨kk,kn,km,ka,kks⟩ ar)) (hgF kr ar)=W):=by show _=W;rw[<-HA.out,lq];generalize hgE ⟨kk,kn,km,ka,kks⟩ ar=z;generalize hgF kr ar=y;omega
     have hk2:Hid (e.kids=(done.snoc ⟨kk,kn,km,ka,kks⟩).app kr):=by show e.kids=_;rw[hk.out];unfold Fs.snoc;rw[Fs.app_assoc];rfl
     have hl2:(done.len:Int)+1=((done.snoc ⟨kk,kn,km,ka,kks⟩).len:Nat):=by rw[Fs.len_snoc];rfl
     have hbk:=Ha E1;have B3:Hf wr.heap.size wr (wr.alloc (.cells #[.int .i64 kk,.int .i64 kn,stv km,.slice ak kks.len ck] 34)):=(Hi _ wr).alloc (G4 _) _;have Z3:(wr.alloc (.cells #[.int .i64 kk,.int .i64 kn,stv km,.slice ak kks.len ck] 34)).heap[wr.heap.size]?=G1 (.cells #[.int .i64 kk,.int .i64 kn,stv km,.slice ak kks.len ck] 34):=Hc wr _;have SK3:=SnA.below SK B3;clear HA hlk SK hk;go_upto_region 7 with fail;generalize wr.alloc (.cells #[.int .i64 kk,.int .i64 kn,stv km,.slice ak kks.len ck] 34)=w3 at *;obtain⟨zb,hzb⟩:∃zb,zb=wr.heap.size:=⟨_,rfl⟩;rw[<-hzb] at Z3 ⊢;have HZB:Hid (zb=wr.heap.size):=hzb;have hcc:=IH ⟨kk,kn,km,ka,kks⟩ ak ck ar w3 (by show kks.size<N;omega) hwk.2.1 hwk.2.2.1 ⟨hnk.1,hnk.2.1⟩ h0 h1 SK3;rw[dR] at hcc;simp only at hcc;generalize hgE ⟨kk,kn,km,ka,kks⟩ ar=c2 at *;obtain⟨z0,z1,z2,z3,zf⟩:=ep Z3;have hs3:=Ha Z3;have B13:Hf bx w w3:=B1.trans (B3.mono (by omega));have E3:=(B3.block bx hbk).trans E1;clear hsz hwk hnk hzb SK3 x0 x1 x2 x3 p0 p1 p2 p3 pf E1 B1 B3;go_wp2_with fail;refine hcc.mono ?_;rintro x w2 ⟨rfl,b2⟩;have B2:=B13.trans (b2.mono (by have:=Ha E3;omega));have E2:=(b2.block bx (Ha E3)).trans E3;clear hcc z0 z1 z2 z3 zf b2 E3 B13 Z3;go_wp2;go_roundw
     case rel=>exact⟨_,kr,max c c2,hk2,rfl,by rw[<-hl2],by omega,by omega,HA2,E2,B2⟩
     case measure=>simp[Ih];omega
 ·have hkb:(e.k==5)=false:=by simpa using hv
  obtain rfl:c0=0:=by rw[hc0,if_neg (λh=>hv h.1)]
  clear hv hc0;go_wp2;go_loopw [5,23] (λv1 v5 wr=>∃(done r:Fs) (c:Int),Hid (e.kids=done.app r)/\v1=.int .i64 c/\v5=.int .i64 (done.len:Nat)/\0<=c/\c<=ar/\Hid (max c (hgF r ar)=W)/\wr.heap[bx]?=G1 (.cells #[.int .i64 e.k,.int .i64 e.n,stv e.nm,.slice ao e.kids.len cap] 34)/\Hf bx w wr) (λ_ v5 _=>e.kids.len-(Ih v5).toNat)
  case atStart=>exact⟨.nil,e.kids,0,rfl,rfl,by show _=Hp .i64 ((0:Nat):Int);rfl,hcb.1,hcb.2,HA0,E0,B0⟩
  case round =>
   clear E0 B0 HA0 p0 p1 p2 p3 pf hcb;obtain⟨done,r,c,hk,rfl,rfl,hc0,hc1,HA,E1,B1⟩:=hrel;have hlk:e.kids.len=done.len+r.len:=by rw[hk.out,Fs.len_app]
   obtain⟨p0,p1,p2,p3,pf⟩:=ep E1;cases r using Fs.on with
   | nil =>
    have hlt:¬(done.len:Int)<(e.kids.len:Int):=by simp only[Fs.len] at hlk;omega
    have FIN:Hid (W=c):=by show W=c;rw[<-HA.out];simp only[hgF];omega
    clear HA hlk;go_wp2;go_ret;rw[FIN.out];exact⟨rfl,by rw[<-HB.out];exact B1⟩
   | Js kk kn km ka kks kr =>
    have hlt:(done.len:Int)<(e.kids.len:Int):=by simp only[Fs.len] at hlk;omega
    have hl3:done.len<e.kids.len:=by omega
    have hsz:e.kids.size=done.size+(kks.size+kr.size+1):=by rw[hk.out,Fs.size_app];rfl
    have hwk:(Fs.cons kk kn km ka kks kr).short:=Fs.app_short (x:=done) (by rw[<-hk.out];exact hsh);have hnk:(Fs.cons kk kn km ka kks kr).nv:=(Fs.app_nv (x:=done) (by rw[<-hk.out];exact hnv.2)).2;obtain⟨b,off,ak,ck,hao,lb1,-,x0,x1,x2,x3,SK⟩:=SlN.kidQ (by rw[<-hk.out];exact SnA.below S (by rw[<-HB.out];exact B1));subst hao;have hbd:=mO ar h0 ⟨kk,kn,km,ka,kks⟩;have hbp:=ld ar ⟨kk,kn,km,ka,kks⟩;have HA2:Hid (max (max c (hgE ⟨kk,kn,km,ka,kks⟩ ar)) (hgF kr ar)=W):=by show _=W;rw[<-HA.out,lq];generalize hgE ⟨kk,kn,km,ka,kks⟩ ar=z;generalize hgF kr ar=y;omega
    have hk2:Hid (e.kids=(done.snoc ⟨kk,kn,km,ka,kks⟩).app kr):=by show e.kids=_;rw[hk.out];unfold Fs.snoc;rw[Fs.app_assoc];rfl
    have hl2:(done.len:Int)+1=((done.snoc ⟨kk,kn,km,ka,kks⟩).len:Nat):=by rw[Fs.len_snoc];rfl
    have hbk:=Ha E1;have B3:Hf wr.heap.size wr (wr.alloc (.cells #[.int .i64 kk,.int .i64 kn,stv km,.slice ak kks.len ck] 34)):=(Hi _ wr).alloc (G4 _) _;have Z3:(wr.alloc (.cells #[.int .i64 kk,.int .i64 kn,stv km,.slice ak kks.len ck] 34)).heap[wr.heap.size]?=G1 (.cells #[.int .i64 kk,.int .i64 kn,stv km,.slice ak kks.len ck] 34):=Hc wr _;have SK3:=SnA.below SK B3;clear HA hlk SK hk;go_upto_region 7 with fail;generalize wr.alloc (.cells #[.int .i64 kk,.int .i64 kn,stv km,.slice ak kks.len ck] 34)=w3 at *;obtain⟨zb,hzb⟩:∃zb,zb=wr.heap.size:=⟨_,rfl⟩;rw[<-hzb] at Z3 ⊢;have HZB:Hid (zb=wr.heap.size):=hzb;have hcc:=IH ⟨kk,kn,km,ka,kks⟩ ak ck ar w3 (by show kks.size<N;omega) hwk.2.1 hwk.2.2.1 ⟨hnk.1,hnk.2.1⟩ h0 h1 SK3;rw[dR] at hcc;simp only at hcc;generalize hgE ⟨kk,kn,km,ka,kks⟩ ar=c2 at *;obtain⟨z0,z1,z2,z3,zf⟩:=ep Z3;have hs3:=Ha Z3;have B13:Hf bx w w3:=B1.trans (B3.mono (by omega));have E3:=(B3.block bx hbk).trans E1;clear hsz hwk hnk hzb SK3 x0 x1 x2 x3 p0 p1 p2 p3 pf E1 B1 B3;go_wp2_with fail;refine hcc.mono ?_;rintro x w2 ⟨rfl,b2⟩;have B2:=B13.trans (b2.mono (by have:=Ha E3;omega));have E2:=(b2.block bx (Ha E3)).trans E3;clear hcc z0 z1 z2 z3 zf b2 E3 B13 Z3;go_wp2;go_roundw
    case rel=>exact⟨_,kr,max c c2,hk2,rfl,by rw[<-hl2],by omega,by omega,HA2,E2,B2⟩
    case measure=>simp[Ih];omega
theorem tn:∀ N,rK N -- 224
 | 0=>λe ao cap ar w h=>absurd h (Ir _)
 | N+1=>uI (tn N)
structure fA (e:Ex):Prop where
 nm:e.nm.length<=Hu
 len:e.kids.len<=1000000000
 sh:e.kids.short
def KT (w:G9)(P:Nat->Prop)(kb nc:Nat)(t:Nat->Option Ex):Prop :=
 ∃arr:Array He,w.heap[kb]?=G1 (.cells arr 32 (0,0))/\arr.size=nc /\
  ∀ i,i<nc->(t i=G0/\arr[i]?=G1 (.slice G0 0 0))\/∃x y g cap,t i=G1 x/\eR x y=true/\arr[i]?=G1 (.slice (G1 ⟨g,0,G0⟩) 1 cap)/\SlN w P (one y) (G1 ⟨g,0,G0⟩)/\fA y
theorem KT.mono {w w':G9}{P:Nat->Prop}{kb nc:Nat}{t:Nat->Option Ex}(h:KT w P kb nc t)(e:w'.heap[kb]?=w.heap[kb]?)(hb:∀ k,P k->k<w.heap.size->w'.heap[k]?=w.heap[k]?)(hs:w.heap.size<=w'.heap.size):KT w' P kb nc t:=by
 obtain⟨arr,h1,h2,h3⟩:=h;refine⟨arr,e.trans h1,h2,λi hi=>?_⟩;rcases h3 i hi with h4|⟨x,y,g,cap,q1,q2,q3,q4,q5⟩
 ·exact .inl h4
 ·exact .inr ⟨x,y,g,cap,q1,q2,q3,q4.mono hb hs (λ_ h _=>h),q5⟩
def WD (w:G9)(wb kb:Nat)(bv:He)(nc:Nat):Dg->Prop
 | some s=>w.heap[wb]?=G1 (.cells #[bv,.int .i64 (s.1:Nat),.slice (G1 ⟨kb,0,G0⟩) nc nc,.bool true] 162 (0,0))/\s.1<=4096/\KT w (Nf2 wb kb) kb nc s.2
 | none=>kb<w.heap.size/\∃p kv,w.heap[wb]?=G1 (.cells #[bv,.int .i64 p,kv,.bool false] 162 (0,0))
theorem WD.lt {w:G9}{wb kb:Nat}{bv:He}{nc:Nat}{st:Dg}(h:WD w wb kb bv nc st):wb<w.heap.size:=by
 cases st with
 | none=>obtain⟨-,p,kv,h⟩:=h;exact Ha h
 | some s=>exact Ha h.1
theorem WD.ltk {w:G9}{wb kb:Nat}{bv:He}{nc:Nat}{st:Dg}(h:WD w wb kb bv nc st):kb<w.heap.size:=by
 cases st with
 | none=>exact h.1
 | some s=>obtain⟨-,-,arr,h,-⟩:=h;exact Ha h
theorem WD.below {w w':G9}{wb kb:Nat}{bv:He}{nc:Nat}{st:Dg}(h:WD w wb kb bv nc st)(b:Hf w.heap.size w w'):WD w' wb kb bv nc st:=by
 have hl:=h.lt;cases st with
 | none=>obtain⟨hk,p,kv,h⟩:=h;exact⟨Hh hk b.size,p,kv,(b.block _ hl).trans h⟩
 | some s =>
  obtain⟨h1,h2,h3⟩:=h;have hk:kb<w.heap.size:=by obtain⟨arr,h,-⟩:=h3;exact Ha h
  exact⟨(b.block _ hl).trans h1,h2,h3.mono (b.block _ hk) (λi _ hl=>b.block i hl) b.size⟩
def eD (w:G9)(wb kb:Nat)(bv:He)(nc:Nat)(r:Option (Rg × Int))(x:Ja)(w':G9):Prop :=
 (∃k',x=.returned (.int .i64 k')/\∀ s k,r=G1 (s,k)->k'=k)/\WD w' wb kb bv nc (r.map (·.1))/\Kp wb kb w w'
def lX (N:Nat):Prop:=∀ (e:Ex) (ao:Option Hw) (cap wb kb:Nat) (bv:He) (cells:List Int) (ar wi:Nat) (s:Rg) (w:G9),e.kids.size<N->fA e->wi<=4->ar<=wi->wb≠kb->WD w wb kb bv cells.length (G1 s)->Inw w (Nf2 wb kb) bv cells->SlN w (Nf2 wb kb) e.kids ao ->
 Hn G5 112 #[.pointer (G1 ⟨wb,0,G0⟩),exN e ao cap,.int .i64 (ar:Nat),.int .i64 (wi:Nat)] w (eD w wb kb bv cells.length (fP cells e ar wi s))
def CJ (r:Option (Rg × Int))(m:Int):Dg:=match r with|none=>G0|some (s',k)=>if k=m then G1 s' else G0
def jN (w:G9)(wb kb:Nat)(bv:He)(nc:Nat)(st:Dg)(x:Ja)(w':G9):Prop:=x=.returned (.tuple #[])/\WD w' wb kb bv nc st/\Kp wb kb w w'
theorem kq {w:G9}{b:Nat}{a0 a1 a2 a3:He}{t:Il}(h:w.heap[b]?=G1 (.cells #[a0,a1,a2,a3] t (0,0)))(v:He) :
  (w.setCell ⟨b,1,G0⟩ v).heap[b]?=G1 (.cells #[a0,v,a2,a3] t (0,0))/\(w.setCell ⟨b,3,G0⟩ v).heap[b]?=G1 (.cells #[a0,a1,a2,v] t (0,0)) :=
 ⟨(Blk.set (o:=λ_=>0) (i:=0) ⟨h,rfl⟩ 1 v).1,(Blk.set (o:=λ_=>0) (i:=0) ⟨h,rfl⟩ 3 v).1⟩
theorem sc (e:Ex)(ao:Option Hw)(cap wb kb:Nat)(bv:He)(nc:Nat)(ar wi:Nat)(w:G9)(h:WD w wb kb bv nc G0) :
  Hn G5 112 #[.pointer (G1 ⟨wb,0,G0⟩),exN e ao cap,.int .i64 (ar:Nat),.int .i64 (wi:Nat)] w (eD w wb kb bv nc G0):=by
 have B0:Hf w.heap.size w (w.alloc (.cells #[.int .i64 e.k,.int .i64 e.n,stv e.nm,.slice ao e.kids.len cap] 34)):=(Hi _ w).alloc (G4 _) _;have E0:(w.alloc (.cells #[.int .i64 e.k,.int .i64 e.n,stv e.nm,.slice ao e.kids.len cap] 34)).heap[w.heap.size]?=G1 (.cells #[.int .i64 e.k,.int .i64 e.n,stv e.nm,.slice ao e.kids.len cap] 34):=Hc w _;have W0:=h.below B0;clear h;rw[dR];go_enter Tryz.func112,Tryz.ntmps112;go_upto_region 1 with fail;generalize w.alloc (.cells #[.int .i64 e.k,.int .i64 e.n,stv e.nm,.slice ao e.kids.len cap] 34)=w0 at *;obtain⟨hk0,p,kv,W0⟩:=W0;obtain⟨q0,q1,q2,q3,qf⟩:=ep W0;have KK:Kp wb kb w w0:=Kp.ofBelow B0;clear E0 B0;have F1:=(kq W0 (.int .i64 (Io (p+1)))).1;have K1:=KK.set ⟨wb,1,G0⟩ (.int .i64 (Io (p+1))) (.inr (.inl rfl));have hk1:kb<(w0.setCell ⟨wb,1,G0⟩ (.int .i64 (Io (p+1)))).heap.size:=by simpa using hk0
 clear KK W0;go_upto_region 2 with fail;generalize w0.setCell ⟨wb,1,G0⟩ (.int .i64 (Io (p+1)))=w1 at *;generalize Io (p+1)=p1 at *;clear q0 q1 q2 q3 qf;obtain⟨q0,q1,q2,q3,qf⟩:=ep F1;have HZ:Hid (eD w wb kb bv nc G0 (.returned (.int .i64 0)) (w1.setCell ⟨wb,3,G0⟩ (.bool false))):=⟨⟨0,rfl,λs k h=>by cases h⟩,⟨by simpa using hk1,p1,kv,(kq F1 (.bool false)).2⟩,K1.set _ _ (.inr (.inl rfl))⟩;clear F1 K1;go_wp2;exact Hb (v:=.int .i64 0) (by simp[Hk,Ig,go_sem]) rfl HZ.out
theorem lK {N:Nat}(IH:lX N)(e:Ex)(ao:Option Hw)(cap wb kb:Nat)(bv:He)(cells:List Int)(ar wi:Nat)(m:Int)(st:Dg)(w:G9)(hN:st≠G0->e.kids.size<N)(hf:fA e)(hwi:wi<=4)(har:ar<=wi)(hne:wb≠kb)(hm:st≠G0->m≠4)(h:WD w wb kb bv cells.length st)(hn:Inw w (Nf2 wb kb) bv cells)(S:SlN w (Nf2 wb kb) e.kids ao) :
  Hn G5 174 #[.pointer (G1 ⟨wb,0,G0⟩),exN e ao cap,.int .i64 (ar:Nat),.int .i64 (wi:Nat),.int .i64 m] w (jN w wb kb bv cells.length (eW cells st m e ar wi)):=by
 have B0:Hf w.heap.size w (w.alloc (.cells #[.int .i64 e.k,.int .i64 e.n,stv e.nm,.slice ao e.kids.len cap] 34)):=(Hi _ w).alloc (G4 _) _;have E0:(w.alloc (.cells #[.int .i64 e.k,.int .i64 e.n,stv e.nm,.slice ao e.kids.len cap] 34)).heap[w.heap.size]?=G1 (.cells #[.int .i64 e.k,.int .i64 e.n,stv e.nm,.slice ao e.kids.len cap] 34):=Hc w _;have W0:=h.below B0;have S0:=S.belowP B0;have N0:=hn.below B0;clear h S hn;rw[dR];go_enter Tryz.func174,Tryz.ntmps174;go_upto_region 1 with fail;generalize w.alloc (.cells #[.int .i64 e.k,.int .i64 e.n,stv e.nm,.slice ao e.kids.len cap] 34)=w0 at *;have KK:Kp wb kb w w0:=Kp.ofBelow B0;obtain⟨p0,p1,p2,p3,pf⟩:=ep E0;clear E0 B0;have hc:∃r:Option (Rg × Int),Hn G5 112 #[.pointer (G1 ⟨wb,0,G0⟩),exN e ao cap,.int .i64 (ar:Nat),.int .i64 (wi:Nat)] w0 (eD w0 wb kb bv cells.length r)/\eW cells st m e ar wi=CJ r m:=by
  cases st with
  | none=>exact⟨G0,sc e ao cap wb kb bv cells.length ar wi w0 W0,rfl⟩
  | some s=>exact⟨_,IH e ao cap wb kb bv cells ar wi s w0 (hN (by simp)) hf hwi har hne W0 N0 S0,Br (hm (by simp))⟩
 obtain⟨r,c1,hr⟩:=hc;have HR:Hid (eW cells st m e ar wi=CJ r m):=hr;clear hr W0 S0 N0 hN IH;generalize eW cells st m e ar wi=Z at *;rw[dR] at c1;go_wp2_with fail;refine c1.mono ?_;rintro x w1 ⟨⟨k',rfl,hk'⟩,W1,K1⟩;have KW:=KK.trans K1;clear c1 p0 p1 p2 p3 pf KK K1;have BAD:∀ {b:Bool},WD w1 wb kb bv cells.length (r.map (·.1))->Hid (Z=G0)->(∃a1 a2,w1.heap[wb]?=G1 (.cells #[bv,a1,a2,.bool b] 162 (0,0))/\∃p,a1=.int .i64 p)->Hid (jN w wb kb bv cells.length Z (.returned (.tuple #[])) (w1.setCell ⟨wb,3,G0⟩ (.bool false))):=by
  intro b h1 hz h2;obtain⟨a1,a2,h2,p,rfl⟩:=h2;refine⟨rfl,?_,KW.set _ _ (.inr (.inl rfl))⟩;rw[hz.out];exact⟨by simpa using h1.ltk,p,a2,(kq h2 (.bool false)).2⟩
 cases hrr:r with
 | none =>
  rw[hrr] at W1;have W2:=W1;obtain⟨-,p,kv,W1⟩:=W1;have HZ0:Hid (Z=G0):=by show Z=G0;rw[HR.out,hrr];rfl
  have HB:=BAD (by rw[hrr];exact W2) HZ0 ⟨_,_,W1,p,rfl⟩;have HZ:Hid (jN w wb kb bv cells.length Z (.returned (.tuple #[])) w1):=⟨rfl,by rw[HZ0.out];exact W2,KW⟩;obtain⟨q0,q1,q2,q3,qf⟩:=ep W1;clear BAD HR hrr hk' KW W2 W1 HZ0;by_cases hkm:k'=m
  ·have hne:(k' != m)=false:=by simpa using hkm
   clear hkm;go_wp2
   go_end0
   exact HZ.out
  ·have hne:(k' != m)=true:=by simpa using hkm
   clear hkm;go_wp2
   go_end0
   exact HB.out
 | some z =>
  obtain⟨s,k⟩:=z;obtain rfl:=hk' s k hrr;rw[hrr] at W1;have W2:WD w1 wb kb bv cells.length (G1 s):=W1;obtain⟨W1,hs,hkt⟩:=W2;obtain⟨q0,q1,q2,q3,qf⟩:=ep W1;by_cases hkm:k'=m
  ·have hne:(k' != m)=false:=by simpa using hkm
   have HZ:Hid (jN w wb kb bv cells.length Z (.returned (.tuple #[])) w1):=⟨rfl,by rw[HR.out,hrr];simp only[CJ];rw[if_pos hkm];exact⟨W1,hs,hkt⟩,KW⟩;clear BAD HR hrr hk' KW W1 hkt hkm;go_wp2
   go_end0
   exact HZ.out
  ·have hne:(k' != m)=true:=by simpa using hkm
   have HB:=BAD (by rw[hrr];exact⟨W1,hs,hkt⟩) (by show Z=G0;rw[HR.out,hrr];simp only[CJ];rw[if_neg hkm]) ⟨_,_,W1,_,rfl⟩;clear BAD HR hrr hk' KW W1 hkt hkm;go_wp2
   go_end0
   exact HB.out
end Go.Proofs.YtkhgahljbpmfaaaGreatDoor

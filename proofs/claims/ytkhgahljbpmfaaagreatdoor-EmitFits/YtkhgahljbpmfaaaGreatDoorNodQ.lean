import Derived.Test.YtkhgahljbpmfaaaGreatDoorDocA
import Derived.Maps.OwnSet
import Derived.DeepKeys4
import Derived.Laws.CopyOwn
import Derived.Laws.Bits64b
set_option maxRecDepth 100000
set_option maxHeartbeats 8000000
namespace Go.Proofs.YtkhgahljbpmfaaaGreatDoor
open Go.ChangeShapes Go.WideShapes Go.ChangeAt Go.RowKit Go.Maps
set_option linter.unusedVariables false
set_option linter.unusedSimpArgs false
theorem own_tight {P:Program}{K:TypeId}{R:Value->Option (DataW Unit × List MemPlace)}{w:World}{b n:Nat}{D:DataW Unit}(h:w.ownsMap P K R b n D):w.ownsMap P K R b (Maps.size D) D:=by
 obtain⟨es,clock,hb,F,hs,rfl⟩:=h;exact⟨es,clock,hb,F,by simp[Maps.size,length_sorted],rfl⟩
theorem own_blk {P:Program}{K:TypeId}{R:Value->Option (DataW Unit × List MemPlace)}{w w':World}{b n:Nat}{D:DataW Unit}(h:w.ownsMap P K R b n D)(e:w'.heap[b]?=w.heap[b]?):w'.ownsMap P K R b n D:=by
 obtain⟨es,clock,hb,F,hs,hD⟩:=h;exact⟨es,clock,e.trans hb,F,hs,hD⟩
theorem intLaw:Keyed Tryz.prog 3:=int_keyed Tryz.underlying3
theorem intKey (k:Int):WideAt.IsKeyLit (.int .i64 k):=trivial
def ndList:List Value->Option (DataW Unit × List MemPlace)
 | [.int .i64 a,.int .i64 b,.string s,.slice _ 0 _]=>some (.agg [.lit (.int .i64 a),.lit (.int .i64 b),.lit (.string s.data.toList),.lit (.int .i64 0)],[])
 | [.int .i64 a,.int .i64 b,.string s,.slice (some ⟨g,off,none⟩) (l+1) c]=>some (.agg [.lit (.int .i64 a),.lit (.int .i64 b),.lit (.string s.data.toList),.lit (.int .i64 1),.lit (.int .i64 g),.lit (.int .i64 off),.lit (.int .i64 l),.lit (.int .i64 c)],[])
 | _=>none
def ndElem (v:Value):Option (DataW Unit × List MemPlace) :=
 match v with
 | .agg cs=>ndList cs.toList
 | _=>none
theorem ndList_form {u:List Value}{d:DataW Unit}{p:List MemPlace}(h:ndList u=some (d,p)):∃a b s ao l c,u=[.int .i64 a,.int .i64 b,.string s,.slice ao l c]/\(l=0\/∃g off m,l=m+1/\ao=some ⟨g,off,none⟩):=by
 unfold ndList at h;split at h
 ·exact⟨_,_,_,_,_,_,rfl,.inl rfl⟩
 ·exact⟨_,_,_,_,_,_,rfl,.inr ⟨_,_,_,rfl,rfl⟩⟩
 ·cases h
theorem ndList_inj {u v:List Value}{d:DataW Unit}{p q:List MemPlace}(h:ndList u=some (d,p))(k:ndList v=some (d,q)):∃a b s ao ao' l c c',u=[.int .i64 a,.int .i64 b,.string s,.slice ao l c]/\v=[.int .i64 a,.int .i64 b,.string s,.slice ao' l c']/\(l=0\/ao=ao'):=by
 obtain⟨a,b,⟨⟨s⟩⟩,ao,l,c,rfl,hao⟩:=ndList_form h;obtain⟨a',b',⟨⟨s'⟩⟩,ao',l',c',rfl,hao'⟩:=ndList_form k;rcases hao with rfl|⟨g,off,m,rfl,rfl⟩<;>rcases hao' with rfl|⟨g',off',m',rfl,rfl⟩<;>simp only[ndList,Option.some.injEq,Prod.mk.injEq] at h k
 all_goals (
  have e:=h.1.trans k.1.symm;simp at e)
 ·obtain⟨rfl,rfl,rfl⟩:=e;exact⟨_,_,_,_,_,_,_,_,rfl,rfl,.inl rfl⟩
 ·obtain⟨rfl,rfl,rfl,h1,h2,h3,h4⟩:=e;obtain rfl:g=g':=Int.ofNat.inj h1;obtain rfl:off=off':=Int.ofNat.inj h2;obtain rfl:m=m':=Int.ofNat.inj h3;exact⟨_,_,_,_,_,_,_,_,rfl,rfl,.inr rfl⟩
theorem ndElem_inj {y:Ex}{ao:Option Addr}{cap:Nat}{v:Value}{d:DataW Unit}{p q:List MemPlace}(h:ndElem (exN y ao cap)=some (d,p))(k:ndElem v=some (d,q)):∃ao' cap',v=exN y ao' cap'/\(y.kids.len=0\/ao'=ao):=by
 unfold ndElem at h k;rw[exN_out] at h;simp only at h;split at k
 ·rename_i cs
  obtain⟨a,b,s,a1,a2,l,c,c',e1,e2,e3⟩:=ndList_inj h k;have e2':cs=#[.int .i64 a,.int .i64 b,.string s,.slice a2 l c']:=Array.toList_inj.1 e2;simp at e1;obtain⟨rfl,rfl,rfl,rfl,rfl,rfl⟩:=e1;exact⟨a2,c',by rw[e2'];rfl,e3.imp id Eq.symm⟩
 ·cases k
theorem zeroNd (w:World):(zeroValue 34).run Tryz.prog w=.ok (.agg #[.int .i64 0,.int .i64 0,.string ⟨#[]⟩,.slice none 0 0]) w:=by kernel_rfl
def ndZ:DataW Unit:=.agg [.lit (.int .i64 0),.lit (.int .i64 0),.lit (.string []),.lit (.int .i64 0)]
theorem ndElem_zero:ndElem (.agg #[.int .i64 0,.int .i64 0,.string ⟨#[]⟩,.slice none 0 0])=some (ndZ,[]):=rfl
theorem ndElem_ex {w:World}{P:Nat->Prop}(e:Ex){ao:Option Addr}(cap:Nat)(h:SlN w P e.kids ao):∃d,ndElem (exN e ao cap)=some (d,[]):=by
 rcases h with h|⟨b,off,zs,rfl,-⟩
 ·rw[exN_out,h];exact⟨_,rfl⟩
 ·rw[exN_out];cases hl:e.kids.len with
  | zero=>exact⟨_,rfl⟩
  | succ m=>exact⟨_,rfl⟩
theorem nil_of_len:∀ {f:Fs},f.len=0->f=.nil
 | ⟨none⟩,_=>rfl
 | ⟨some ⟨k,n,nm,a,ks,r⟩⟩,h=>by simp[Fs.len] at h
def MpN (w:World)(P:Nat->Prop)(b m:Nat)(t:Nat->Option Ex):Prop :=
 ∃D:DataW Unit,w.ownsMap Tryz.prog 3 ndElem b m D/\Maps.size D=m /\
  (∀ k y,t k=some y->Maps.has D (.int .i64 (k:Nat))=true/\∃ao cap,ndElem (exN y ao cap)=some (D.atKey (.int .i64 (k:Nat)) ndZ,[])/\SlN w P y.kids ao) /\
  (∀ k:Int,Maps.has D (.int .i64 k)=true->∃j y,k=(j:Nat)/\t j=some y)
theorem MpN.mono {w w':World}{P:Nat->Prop}{b m:Nat}{t:Nat->Option Ex}(h:MpN w P b m t)(e:w'.heap[b]?=w.heap[b]?)(hb:∀ k,P k->k<w.heap.size->w'.heap[k]?=w.heap[k]?)(hs:w.heap.size<=w'.heap.size):MpN w' P b m t:=by
 obtain⟨D,h1,h2,h3,h4⟩:=h;refine⟨D,own_blk h1 e,h2,fun k y hy=>?_,h4⟩;obtain⟨q1,ao,cap,q2,q3⟩:=h3 k y hy;exact⟨q1,ao,cap,q2,q3.mono hb hs (fun _ h _=>h)⟩
theorem MpN.monoQ {w w':World}{P Q:Nat->Prop}{b m:Nat}{t:Nat->Option Ex}(h:MpN w P b m t)(e:w'.heap[b]?=w.heap[b]?)(hb:∀ k,P k->k<w.heap.size->w'.heap[k]?=w.heap[k]?)(hs:w.heap.size<=w'.heap.size)(hq:∀ k,P k->k<w.heap.size->Q k):MpN w' Q b m t:=by
 obtain⟨D,h1,h2,h3,h4⟩:=h;refine⟨D,own_blk h1 e,h2,fun k y hy=>?_,h4⟩;obtain⟨q1,ao,cap,q2,q3⟩:=h3 k y hy;exact⟨q1,ao,cap,q2,q3.mono hb hs hq⟩
theorem MpN.made (w:World)(P:Nat->Prop):MpN (w.alloc (.map #[] 0)) P w.heap.size 0 (fun _=>none) :=
 ⟨.map [],World.ownsMap_made _ _ _ _,rfl,fun k y h=>by simp at h,fun k h=>by simp[Maps.has] at h⟩
theorem MpN.lt {w:World}{P:Nat->Prop}{b m:Nat}{t:Nat->Option Ex}(h:MpN w P b m t):b<w.heap.size:=by
 obtain⟨D,h1,-⟩:=h;exact h1.lt
theorem MpN.gone {t:Nat->Option Ex}{D:DataW Unit}(h5:∀ k:Int,Maps.has D (.int .i64 k)=true->∃j y,k=(j:Nat)/\t j=some y){k:Nat}(hn:t k=none):Maps.has D (.int .i64 (k:Nat))=false:=by
 cases hh:Maps.has D (.int .i64 (k:Nat)) with
 | false=>rfl
 | true =>
  obtain⟨j,y,e,hf⟩:=h5 _ hh;obtain rfl:k=j:=Int.ofNat.inj e;rw[hn] at hf;cases hf
theorem MpN.look {w:World}{P:Nat->Prop}{b m:Nat}{t:Nat->Option Ex}(h:MpN w P b m t){k:Nat}(hk:(Lit.int .i64 (k:Nat)).wf=true){y:Ex}(hf:t k=some y) :
  ∃ao cap,(Instr.lookup 168 (.map (some b)) (.int .i64 (k:Nat)) true).run Tryz.prog w=.ok (.tuple #[exN y ao cap,.bool true]) w/\SlN w P y.kids ao:=by
 obtain⟨D,h1,h2,h4,h5⟩:=h;obtain⟨c,ps,hr,hc⟩:=h1.look_ok intLaw Tryz.underlying168 (zeroNd w) ndElem_zero (keyOf_int_mk Tryz.underlying3 hk);obtain⟨q1,ao,cap,q2,q3⟩:=h4 k y hf;obtain⟨ao',cap',e1,e2⟩:=ndElem_inj q2 hc;rw[q1,e1] at hr;refine⟨ao',cap',hr,?_⟩;rcases e2 with e2|rfl
 ·rw[nil_of_len e2];exact SlN.nil _ _ _
 ·exact q3
theorem MpN.miss {w:World}{P:Nat->Prop}{b m:Nat}{t:Nat->Option Ex}(h:MpN w P b m t){k:Nat}(hk:(Lit.int .i64 (k:Nat)).wf=true)(hf:t k=none) :
  ∃x y s ao l cap,(Instr.lookup 168 (.map (some b)) (.int .i64 (k:Nat)) true).run Tryz.prog w=.ok (.tuple #[.agg #[.int .i64 x,.int .i64 y,.string s,.slice ao l cap],.bool false]) w:=by
 obtain⟨D,h1,h2,h4,h5⟩:=h;obtain⟨c,ps,hr,hc⟩:=h1.look_ok intLaw Tryz.underlying168 (zeroNd w) ndElem_zero (keyOf_int_mk Tryz.underlying3 hk);rw[MpN.gone h5 hf] at hr;unfold ndElem at hc;split at hc
 ·rename_i cs
  obtain⟨x,y,s,ao,l,cap,e,-⟩:=ndList_form hc;have e2:cs=#[.int .i64 x,.int .i64 y,.string s,.slice ao l cap]:=Array.toList_inj.1 e;subst e2;exact⟨x,y,s,ao,l,cap,hr⟩
 ·cases hc
theorem MpN.put {w:World}{P:Nat->Prop}{b m:Nat}{t:Nat->Option Ex}(h:MpN w P b m t)(hP:¬P b)(k:Nat)(y:Ex)(ao:Option Addr)(cap:Nat)(hk:(Lit.int .i64 (k:Nat)).wf=true)(hm:m<=100000)(hf:t k=none)(S:SlN w P y.kids ao) :
  ∃w',(Instr.mapUpdate 168 (.map (some b)) (.int .i64 (k:Nat)) (exN y ao cap)).run Tryz.prog w=.ok () w'/\MpN w' P b (m+1) (fun i=>if i=k then some y else t i)/\w.mapTurned w' b:=by
 obtain⟨D,h1,h2,h4,h5⟩:=h;obtain⟨d,hd⟩:=ndElem_ex y cap S;obtain⟨w',hr,ho,ht⟩:=h1.store (val:=exN y ao cap) (d:=d) (ps:=[]) intLaw Tryz.underlying168 (by unfold maxLen;omega) (keyOf_int_mk Tryz.underlying3 hk) hd;have hg:=ht.grown;have hsz:Maps.size (D.put (.int .i64 (k:Nat)) d)=m+1:=by
  rw[size_put (h1.tidy intLaw),h2,MpN.gone h5 hf];simp
 have ho':=own_tight ho;rw[hsz] at ho';have hSl:∀ {f:Fs}{ao:Option Addr},SlN w P f ao->SlN w' P f ao:=fun S=>S.mono (fun i hp hl=>hg.block i hl (fun e=>hP (by cases e;exact hp))) hg.size (fun _ h _=>h);refine⟨w',hr,⟨_,ho',hsz,fun j z hj=>?_,fun j hj=>?_⟩,ht⟩
 ·by_cases e:j=k
  ·subst e;simp only[if_true] at hj;injection hj with hj
   subst hj;rw[has_put_same h1.isMap (intKey _),atKey_put_same h1.isMap (intKey _)];exact⟨rfl,ao,cap,hd,hSl S⟩
  ·have hne:Lit.int .i64 (j:Nat)≠Lit.int .i64 (k:Nat):=fun h=>e (by simp at h;omega);simp only[e,if_false] at hj;rw[has_put_other hne,atKey_put_other hne];obtain⟨q1,ao',cap',q2,q3⟩:=h4 j z hj;exact⟨q1,ao',cap',q2,hSl q3⟩
 ·by_cases e:j=(k:Nat)
  ·exact⟨k,y,e,if_pos rfl⟩
  ·have hne:Lit.int .i64 j≠Lit.int .i64 (k:Nat):=fun h=>e (by simp at h;exact h);rw[has_put_other hne] at hj;obtain⟨j',z,rfl,hf'⟩:=h5 j hj;exact⟨j',z,rfl,(if_neg (fun h=>e (by rw[h]))).trans hf'⟩
open Go.ChangeShapes Go.WideShapes Go.ChangeAt Go.RowKit
theorem box2 {w:World}{b:Nat}{a0 a1:Value}{t:TypeId}(h:w.heap[b]?=some (.cells #[a0,a1] t (0,0))):w.cell? ⟨b,0,none⟩=some a0/\w.cell? ⟨b,1,none⟩=some a1/\∀ j,w.frozen? ⟨b,j,none⟩=false:=by
 refine⟨?_,?_,fun j=>frozen_of_row w b j _ t h⟩<;>simp[cell_of_row w b _ _ t (0,0) h]
theorem holdsname_c (e:Ex)(ao:Option Addr)(cap:Nat)(w:World)(hW:Wd w)(hnm:e.nm.length<=maxLen):Calls Tryz.prog 180 #[exN e ao cap] w fun x w'=>x=.returned (.bool (nmP e.k e.nm))/\Below w.heap.size w w':=by
 have B0:Below w.heap.size w (w.alloc (.cells #[.int .i64 e.k,.int .i64 e.n,stv e.nm,.slice ao e.kids.len cap] 34)):=(Below.refl _ w).alloc (Nat.le_refl _) _;have E0:(w.alloc (.cells #[.int .i64 e.k,.int .i64 e.n,stv e.nm,.slice ao e.kids.len cap] 34)).heap[w.heap.size]?=some (.cells #[.int .i64 e.k,.int .i64 e.n,stv e.nm,.slice ao e.kids.len cap] 34):=heap_alloc_new w _;have hW0:=hW.below B0;obtain⟨W,hZ⟩:∃W,W=nmP e.k e.nm:=⟨_,rfl⟩
 rw[<-hZ];have HW:Hid (W=nmP e.k e.nm):=hZ;clear hZ;rw[exN_out];go_enter Tryz.func180,Tryz.ntmps180;go_upto_region 1 with fail;generalize w.alloc (.cells #[.int .i64 e.k,.int .i64 e.n,stv e.nm,.slice ao e.kids.len cap] 34)=w0 at *;obtain⟨bx,hbx⟩:∃bx,bx=w.heap.size:=⟨_,rfl⟩
 rw[<-hbx] at E0 B0 ⊢;have HB:Hid (bx=w.heap.size):=hbx;clear hbx;obtain⟨p0,p1,p2,p3,pf⟩:=box4 E0;cases hk:(e.k==23) with
 | true =>
  have HZ:Hid (W=nameB e.nm):=by show W=_;rw[HW.out];simp[nmP,hk]
  have c1:=name_c ⟨e.nm.toArray⟩ w0 hW0 (by show e.nm.toArray.size<=maxLen;simpa using hnm);clear HW;go_wp2_with (go_at_call 89;refine c1.mono ?_;rintro x w1 ⟨rfl,b1⟩);have B1:=B0.trans (b1.mono (by have:=HB.out;have:=B0.size;omega));clear c1 p0 p1 p2 p3 pf;go_wp2;go_ret;rw[HZ.out];exact⟨rfl,by rw[<-HB.out];exact B1⟩
 | false =>
  cases hE:(e.nm==[]) with
  | true =>
   have hE2:=emp_beq hE;have HZ:Hid (W=true):=by show W=_;rw[HW.out];simp[nmP,hk,hE]
   clear HW;go_wp2;go_ret;rw[HZ.out];exact⟨rfl,by rw[<-HB.out];exact B0⟩
  | false =>
   have hE2:=emp_beq hE;have HZ:Hid (W=false):=by show W=_;rw[HW.out];simp[nmP,hk,hE]
   clear HW;go_wp2;go_ret;rw[HZ.out];exact⟨rfl,by rw[<-HB.out];exact B0⟩
theorem worthkind_c (w:World)(P:Nat->Prop)(v:Value)(ks:List Int)(i:Nat)(hi:i<10)(hl:ks.length<=1000000000)(h:Inw w P v ks):Calls Tryz.prog 221 #[v,.int .i64 (i:Nat)] w fun x w'=>x=.returned (.int .i64 (wkP ks i))/\w'=w:=by
 obtain⟨ao,cap,rfl,h⟩:=h;obtain⟨W,hZ⟩:∃W,W=wkP ks i:=⟨_,rfl⟩
 rw[<-hZ];have HW:Hid (W=wkP ks i):=hZ;clear hZ;by_cases hil:i<ks.length
 ·have hx:ks[i]?=some ks[i]:=List.getElem?_eq_getElem hil;rcases h with rfl|⟨b,off,rfl,-,hb,hc⟩
  ·simp at hil
  have c1:=hc i _ hx;have HZ:Hid (W=if ks[i]=4 then 0 else ks[i]):=by show W=_;rw[HW.out];unfold wkP;rw[hx]
  generalize ks[i]=y at *;have hI:¬(ks.length:Int)<=(i:Int):=by omega
  have hI2:(i:Int)<(ks.length:Int):=by omega
  clear HW hx hc;by_cases h4:y=4
  ·have hb4:(y==4)=true:=by simpa using h4
   have HZ:Hid (W=0):=by show W=_;rw[HZ.out,if_pos h4]
   clear h4;go_enter Tryz.func221,Tryz.ntmps221;go_wp2;go_ret;rw[HZ.out];exact⟨rfl,rfl⟩
  ·have hb4:(y==4)=false:=by simpa using h4
   have HZ:Hid (W=y):=by show W=_;rw[HZ.out,if_neg h4]
   clear h4;go_enter Tryz.func221,Tryz.ntmps221;go_wp2;go_ret;rw[HZ.out];exact⟨rfl,rfl⟩
 ·have hI:(ks.length:Int)<=(i:Int):=by omega
  have HZ:Hid (W=0):=by show W=_;rw[HW.out];unfold wkP;rw[List.getElem?_eq_none (by omega)]
  clear HW h;go_enter Tryz.func221,Tryz.ntmps221;go_wp2;go_ret;rw[HZ.out];exact⟨rfl,rfl⟩
theorem ofkid_c (e:Ex)(ao:Option Addr)(cap ar wi i:Nat)(w:World)(ha:ar<=1000)(hw:wi<=1000)(hi:i<=1000000000):Calls Tryz.prog 182 #[.agg #[.int .i64 (ar:Nat),.int .i64 (wi:Nat)],exN e ao cap,.int .i64 (i:Nat)] w fun x w'=>x=.returned (.agg #[.int .i64 ((spotP e.k i ar wi).1:Nat),.int .i64 ((spotP e.k i ar wi).2:Nat)])/\Below w.heap.size w w':=by
 have BB:∀ o1 o2 o3:Obj,Below w.heap.size w (((w.alloc o1).alloc o2).alloc o3):=fun o1 o2 o3=>(((Below.refl _ w).alloc (Nat.le_refl _) _).alloc (by simp) _).alloc (by simp;omega) _;obtain⟨A,hA⟩:∃A,A=(spotP e.k i ar wi).1:=⟨_,rfl⟩
 obtain⟨B,hB⟩:∃B,B=(spotP e.k i ar wi).2:=⟨_,rfl⟩
 rw[<-hA,<-hB,exN_out];have HA:Hid (A=(spotP e.k i ar wi).1/\B=(spotP e.k i ar wi).2):=⟨hA,hB⟩
 clear hA hB;go_enter Tryz.func182,Tryz.ntmps182;cases hk:(e.k != 21) with
 | true =>
  have h21:e.k≠21:=by simpa using hk
  have HR:Hid ((A:Int)=ar/\(B:Int)=wi):=by
   obtain⟨h1,h2⟩:=HA.out;unfold spotP at h1 h2;rw[if_neg h21] at h1 h2;exact⟨by rw[h1],by rw[h2]⟩
  clear HA h21;go_wp2;exact bodyPost_ret (v:=.agg #[.int .i64 (ar:Nat),.int .i64 (wi:Nat)]) (by simp[results,Tryz.results182,go_sem]) rfl ⟨by rw[HR.out.1,HR.out.2],BB _ _ _⟩
 | false =>
  have h21:e.k=21:=by simpa using hk
  by_cases h0:i=0
  ·subst h0;have HR:Hid ((A:Int)=ar/\(B:Int)=(wi:Int)+1):=by
    obtain⟨h1,h2⟩:=HA.out;unfold spotP at h1 h2;rw[if_pos h21] at h1 h2;exact⟨by rw[h1];rfl,by rw[h2];rfl⟩
   clear HA h21;go_wp2;exact bodyPost_ret (v:=.agg #[.int .i64 (ar:Nat),.int .i64 ((wi:Int)+1)]) (by simp[results,Tryz.results182,go_sem]) rfl ⟨by rw[HR.out.1,HR.out.2],BB _ _ _⟩
  ·have hI:(0:Int)<(i:Int):=by omega
   have HR:Hid ((A:Int)=(ar:Int)+1/\(B:Int)=(wi:Int)+1):=by
    obtain⟨h1,h2⟩:=HA.out;unfold spotP at h1 h2;rw[if_pos h21] at h1 h2;simp only[if_neg h0] at h1 h2;exact⟨by rw[h1];rfl,by rw[h2];rfl⟩
   clear HA h21;go_wp2;exact bodyPost_ret (v:=.agg #[.int .i64 ((ar:Int)+1),.int .i64 ((wi:Int)+1)]) (by simp[results,Tryz.results182,go_sem]) rfl ⟨by rw[HR.out.1,HR.out.2],BB _ _ _⟩
theorem holdsnumber_c (e:Ex)(ao:Option Addr)(cap ar wi rb nc:Nat)(w:World)(aoc:Option Addr)(capc:Nat)(a1 a2:Value)(hR:w.heap[rb]?=some (.cells #[.slice aoc nc capc,a1,a2] 170 (0,0))) :
  Calls Tryz.prog 181 #[.pointer (some ⟨rb,0,none⟩),exN e ao cap,.agg #[.int .i64 (ar:Nat),.int .i64 (wi:Nat)]] w fun x w'=>x=.returned (.bool (nuP nc e.k e.n ar))/\Below w.heap.size w w':=by
 obtain⟨W,hZ⟩:∃W,W=nuP nc e.k e.n ar:=⟨_,rfl⟩
 rw[<-hZ];have HW:Hid (W=nuP nc e.k e.n ar):=hZ;clear hZ;obtain⟨w0,hw0⟩:∃w0,w0=(w.alloc (.cells #[.int .i64 e.k,.int .i64 e.n,stv e.nm,.slice ao e.kids.len cap] 34)).alloc (.cells #[.int .i64 (ar:Nat),.int .i64 (wi:Nat)] 173):=⟨_,rfl⟩
 have B0:Below w.heap.size w w0:=by rw[hw0];exact((Below.refl _ w).alloc (Nat.le_refl _) _).alloc (by simp) _
 have E0:w0.heap[w.heap.size]?=some (.cells #[.int .i64 e.k,.int .i64 e.n,stv e.nm,.slice ao e.kids.len cap] 34):=by
  rw[hw0];exact(Below.heap_alloc _ _ _ (by simp)).trans (heap_alloc_new w _)
 have S0:w0.heap[w.heap.size+1]?=some (.cells #[.int .i64 (ar:Nat),.int .i64 (wi:Nat)] 173):=by
  rw[hw0]
  have:=heap_alloc_new (w.alloc (.cells #[.int .i64 e.k,.int .i64 e.n,stv e.nm,.slice ao e.kids.len cap] 34)) (.cells #[.int .i64 (ar:Nat),.int .i64 (wi:Nat)] 173)
  simpa using this
 have R0:=(B0.block _ (lt_of_block hR)).trans hR;rw[exN_out];go_enter Tryz.func181,Tryz.ntmps181;go_upto_region 1 with fail;rw[<-hw0];obtain⟨bx,hbx⟩:∃bx,bx=w.heap.size:=⟨_,rfl⟩
 rw[<-hbx] at E0 S0 B0 ⊢;have HB:Hid (bx=w.heap.size):=hbx;clear hbx hw0;obtain⟨p0,p1,p2,p3,pf⟩:=box4 E0;obtain⟨s0,s1,sf⟩:=box2 S0;obtain⟨r0,r1,r2,rf⟩:=box3 R0;clear E0 S0 R0 hR;by_cases h1:e.k=1
 ·have b1:(e.k==1)=true:=by simpa using h1
  have HZ:Hid (W=true):=by show W=_;rw[HW.out];simp[nuP,h1]
  clear HW h1;go_wp2;go_ret;rw[HZ.out];exact⟨rfl,by rw[<-HB.out];exact B0⟩
 have b1:(e.k==1)=false:=by simpa using h1
 by_cases h2:e.k=2
 ·have b2:(e.k==2)=true:=by simpa using h2
  cases g0:(e.n==0) with
  | true =>
   have HZ:Hid (W=true):=by show W=_;rw[HW.out];simp[nuP,h2,g0]
   clear HW h1 h2;go_wp2;go_ret;rw[HZ.out];exact⟨rfl,by rw[<-HB.out];exact B0⟩
  | false =>
   have HZ:Hid (W=(e.n==1)):=by show W=_;rw[HW.out];simp[nuP,h2,g0]
   clear HW h1 h2;go_wp2;go_ret;rw[HZ.out];exact⟨rfl,by rw[<-HB.out];exact B0⟩
 have b2:(e.k==2)=false:=by simpa using h2
 by_cases h3:e.k=3
 ·have b3:(e.k==3)=true:=by simpa using h3
  have HZ:Hid (W=decide (0<=e.n)):=by show W=_;rw[HW.out];simp[nuP,h3]
  clear HW h1 h2 h3;go_wp2;go_ret;rw[HZ.out];exact⟨rfl,by rw[<-HB.out];exact B0⟩
 have b3:(e.k==3)=false:=by simpa using h3
 by_cases h5:e.k=5
 ·have b5:(e.k==5)=true:=by simpa using h5
  by_cases g0:0<=e.n
  ·have HZ:Hid (W=decide (e.n<(ar:Int))):=by show W=_;rw[HW.out];simp[nuP,h5,g0]
   clear HW h1 h2 h3 h5;go_wp2;go_ret;rw[HZ.out];exact⟨rfl,by rw[<-HB.out];exact B0⟩
  ·have HZ:Hid (W=false):=by show W=_;rw[HW.out];simp[nuP,h5];omega
   clear HW h1 h2 h3 h5;go_wp2;go_ret;rw[HZ.out];exact⟨rfl,by rw[<-HB.out];exact B0⟩
 have b5:(e.k==5)=false:=by simpa using h5
 by_cases h20:e.k=20
 ·have b20:(e.k==20)=true:=by simpa using h20
  by_cases g0:1<=e.n
  ·have HZ:Hid (W=decide (e.n<=10)):=by show W=_;rw[HW.out];simp[nuP,h20,g0]
   clear HW h1 h2 h3 h5 h20;go_wp2;go_ret;rw[HZ.out];exact⟨rfl,by rw[<-HB.out];exact B0⟩
  ·have HZ:Hid (W=false):=by show W=_;rw[HW.out];simp[nuP,h20];omega
   clear HW h1 h2 h3 h5 h20;go_wp2;go_ret;rw[HZ.out];exact⟨rfl,by rw[<-HB.out];exact B0⟩
 have b20:(e.k==20)=false:=by simpa using h20
 by_cases h21:e.k=21
 ·have b21:(e.k==21)=true:=by simpa using h21
  by_cases g0:1<=e.n
  ·have HZ:Hid (W=decide (e.n<=6)):=by show W=_;rw[HW.out];simp[nuP,h21,g0]
   clear HW h1 h2 h3 h5 h20 h21;go_wp2;go_ret;rw[HZ.out];exact⟨rfl,by rw[<-HB.out];exact B0⟩
  ·have HZ:Hid (W=false):=by show W=_;rw[HW.out];simp[nuP,h21];omega
   clear HW h1 h2 h3 h5 h20 h21;go_wp2;go_ret;rw[HZ.out];exact⟨rfl,by rw[<-HB.out];exact B0⟩
 have b21:(e.k==21)=false:=by simpa using h21
 by_cases h26:e.k=26
 ·have b26:(e.k==26)=true:=by simpa using h26
  have bdr:∀ m,Below w0.heap.size w0 (w0.drewN m):=fun m=>⟨rfl,rfl,rfl,Nat.le_refl _,fun _ _=>rfl⟩;have hsz:Hid (bx<=w0.heap.size):=by have:=B0.size;show bx<=_;rw[HB.out];exact B0.size
  by_cases g0:0<=e.n
  ·have HZ:Hid (W=decide (e.n<(nc:Int))):=by show W=_;rw[HW.out];simp[nuP,h26,g0]
   clear HW h1 h2 h3 h5 h20 h21 h26;go_wp2_with fail
   go_quiet (fail)
   have B1:=B0.trans ((bdr nq).mono hsz.out);go_wp2;go_ret;rw[HZ.out];exact⟨rfl,by rw[<-HB.out];exact B1⟩
  ·have HZ:Hid (W=false):=by show W=_;rw[HW.out];simp[nuP,h26];omega
   have hd:decide (0<=e.n)=false:=decide_eq_false g0;clear HW h1 h2 h3 h5 h20 h21 h26;go_wp2_with fail
   go_quiet (fail)
   have B1:=B0.trans ((bdr nq).mono hsz.out);go_wp2;go_ret;rw[HZ.out];exact⟨rfl,by rw[<-HB.out];exact B1⟩
 have b26:(e.k==26)=false:=by simpa using h26
 have HZ:Hid (W=(e.n==0)):=by show W=_;rw[HW.out];simp[nuP,h1,h2,h3,h5,h20,h21,h26]
 clear HW h1 h2 h3 h5 h20 h21 h26;go_wp2;go_ret;rw[HZ.out];exact⟨rfl,by rw[<-HB.out];exact B0⟩
abbrev InA (w:World)(v:Value)(xs:List Int):Prop:=Inw w (fun _=>True) v xs
theorem inw_alloc {P:Nat->Prop}(w:World)(xs:List Int)(t:TypeId)(g c:Nat)(hg:g=w.heap.size)(n:Nat)(hn:n=xs.length)(hP:P g):Inw (w.alloc (.cells (xs.map (Value.int .i64)).toArray t)) P (.slice (some ⟨g,0,none⟩) n c) xs:=by
 subst hg;subst hn;refine⟨_,c,rfl,?_⟩;refine .inr ⟨w.heap.size,0,rfl,hP,by simp,fun j x hx=>?_⟩;rw[cell_of_row _ _ _ _ _ _ (heap_alloc_new w _)];simp[hx]
def PostFm (w:World)(p:List Int × Int)(x:Ending)(w':World):Prop:=∃v,x=.returned (.agg #[v,.int .i64 p.2])/\Inw w' (Nw w.heap.size) v p.1/\Below w.heap.size w w'
def clP (n:Int):List Int × Int:=if n=1\/n=2 then ([3,3],2) else if n=3 then ([3,3],1) else if n=10 then ([3],3) else ([3],1)
def qfP (n:Int):List Int × Int:=if n=1\/n=2 then ([4,2],2) else if n=3 then ([4,2],1) else ([4,1],1)
theorem callform_c (n:Int)(w:World):Calls Tryz.prog 222 #[.int .i64 n] w (PostFm w (clP n)):=by
 have BB:∀ o1 o2:Obj,Below w.heap.size w ((w.alloc o1).alloc o2):=fun o1 o2=>((Below.refl _ w).alloc (Nat.le_refl _) _).alloc (by simp) _;unfold clP;by_cases h1:n=1
 ·subst h1;simp only[Int.reduceEq,or_false,false_or,or_true,true_or,if_true,if_false,or_self];go_enter Tryz.func222,Tryz.ntmps222;go_wp2;exact bodyPost_ret (v:=.agg #[.slice (some ⟨w.heap.size+1,0,none⟩) 2 2,.int .i64 2]) (by simp[results,Tryz.results222,go_sem]) rfl ⟨_,rfl,inw_alloc _ [3,3] _ _ _ (by simp) _ rfl (by show w.heap.size<=_;omega),BB _ _⟩
 have b1:(n==1)=false:=by simpa using h1
 by_cases h2:n=2
 ·subst h2;simp only[Int.reduceEq,or_false,false_or,or_true,true_or,if_true,if_false,or_self];go_enter Tryz.func222,Tryz.ntmps222;go_wp2;exact bodyPost_ret (v:=.agg #[.slice (some ⟨w.heap.size+1,0,none⟩) 2 2,.int .i64 2]) (by simp[results,Tryz.results222,go_sem]) rfl ⟨_,rfl,inw_alloc _ [3,3] _ _ _ (by simp) _ rfl (by show w.heap.size<=_;omega),BB _ _⟩
 have b2:(n==2)=false:=by simpa using h2
 by_cases h3:n=3
 ·subst h3;simp only[Int.reduceEq,or_false,false_or,or_true,true_or,if_true,if_false,or_self];go_enter Tryz.func222,Tryz.ntmps222;go_wp2;exact bodyPost_ret (v:=.agg #[.slice (some ⟨w.heap.size+1,0,none⟩) 2 2,.int .i64 1]) (by simp[results,Tryz.results222,go_sem]) rfl ⟨_,rfl,inw_alloc _ [3,3] _ _ _ (by simp) _ rfl (by show w.heap.size<=_;omega),BB _ _⟩
 have b3:(n==3)=false:=by simpa using h3
 by_cases h10:n=10
 ·subst h10;simp only[Int.reduceEq,or_false,false_or,or_true,true_or,if_true,if_false,or_self];go_enter Tryz.func222,Tryz.ntmps222;go_wp2;exact bodyPost_ret (v:=.agg #[.slice (some ⟨w.heap.size+1,0,none⟩) 1 1,.int .i64 3]) (by simp[results,Tryz.results222,go_sem]) rfl ⟨_,rfl,inw_alloc _ [3] _ _ _ (by simp) _ rfl (by show w.heap.size<=_;omega),BB _ _⟩
 have b10:(n==10)=false:=by simpa using h10
 simp only[h1,h2,h3,h10,or_self,if_false];clear h1 h2 h3 h10;go_enter Tryz.func222,Tryz.ntmps222;go_wp2;exact bodyPost_ret (v:=.agg #[.slice (some ⟨w.heap.size+1,0,none⟩) 1 1,.int .i64 1]) (by simp[results,Tryz.results222,go_sem]) rfl ⟨_,rfl,inw_alloc _ [3] _ _ _ (by simp) _ rfl (by show w.heap.size<=_;omega),BB _ _⟩
theorem quantform_c (n:Int)(w:World):Calls Tryz.prog 223 #[.int .i64 n] w (PostFm w (qfP n)):=by
 have BB:∀ o1 o2:Obj,Below w.heap.size w ((w.alloc o1).alloc o2):=fun o1 o2=>((Below.refl _ w).alloc (Nat.le_refl _) _).alloc (by simp) _;unfold qfP;by_cases h1:n=1
 ·subst h1;simp only[Int.reduceEq,or_false,false_or,or_true,true_or,if_true,if_false,or_self];go_enter Tryz.func223,Tryz.ntmps223;go_wp2;exact bodyPost_ret (v:=.agg #[.slice (some ⟨w.heap.size+1,0,none⟩) 2 2,.int .i64 2]) (by simp[results,Tryz.results223,go_sem]) rfl ⟨_,rfl,inw_alloc _ [4,2] _ _ _ (by simp) _ rfl (by show w.heap.size<=_;omega),BB _ _⟩
 have b1:(n==1)=false:=by simpa using h1
 by_cases h2:n=2
 ·subst h2;simp only[Int.reduceEq,or_false,false_or,or_true,true_or,if_true,if_false,or_self];go_enter Tryz.func223,Tryz.ntmps223;go_wp2;exact bodyPost_ret (v:=.agg #[.slice (some ⟨w.heap.size+1,0,none⟩) 2 2,.int .i64 2]) (by simp[results,Tryz.results223,go_sem]) rfl ⟨_,rfl,inw_alloc _ [4,2] _ _ _ (by simp) _ rfl (by show w.heap.size<=_;omega),BB _ _⟩
 have b2:(n==2)=false:=by simpa using h2
 by_cases h3:n=3
 ·subst h3;simp only[Int.reduceEq,or_false,false_or,or_true,true_or,if_true,if_false,or_self];go_enter Tryz.func223,Tryz.ntmps223;go_wp2;exact bodyPost_ret (v:=.agg #[.slice (some ⟨w.heap.size+1,0,none⟩) 2 2,.int .i64 1]) (by simp[results,Tryz.results223,go_sem]) rfl ⟨_,rfl,inw_alloc _ [4,2] _ _ _ (by simp) _ rfl (by show w.heap.size<=_;omega),BB _ _⟩
 have b3:(n==3)=false:=by simpa using h3
 simp only[h1,h2,h3,or_self,if_false];clear h1 h2 h3;go_enter Tryz.func223,Tryz.ntmps223;go_wp2;exact bodyPost_ret (v:=.agg #[.slice (some ⟨w.heap.size+1,0,none⟩) 2 2,.int .i64 1]) (by simp[results,Tryz.results223,go_sem]) rfl ⟨_,rfl,inw_alloc _ [4,1] _ _ _ (by simp) _ rfl (by show w.heap.size<=_;omega),BB _ _⟩
theorem eqints_c (w:World)(v1 v2:Value)(xs ys:List Int)(h1:InA w v1 xs)(h2:InA w v2 ys)(hl:xs.length<=1000000000) :
  Calls Tryz.prog 184 #[v1,v2] w fun x w'=>x=.returned (.bool (decide (xs=ys)))/\Below w.heap.size w w':=by
 obtain⟨W,hW⟩:∃W,W=decide (xs=ys):=⟨_,rfl⟩
 rw[<-hW];have HW:Hid (W=decide (xs=ys)):=hW;clear hW;obtain⟨a1,c1,rfl,h1⟩:=h1;obtain⟨a2,c2,rfl,h2⟩:=h2;go_enter Tryz.func184,Tryz.ntmps184;by_cases hll:xs.length=ys.length
 ·have hI:((xs.length:Int) != (ys.length:Int))=false:=by rw[hll];simp
  have HL:Hid (xs.length=ys.length):=hll;clear hll;go_wp2;go_loopw [13] (fun v wr=>∃k:Nat,k<=xs.length/\v=.int .i64 (k:Nat)/\Hid (∀ j,j<k->xs[j]?=ys[j]?)/\Below w.heap.size w wr) (fun v _=>xs.length-(intOf v).toNat)
  case atStart=>exact⟨0,by omega,by go_num,fun j hj=>absurd hj (Nat.not_lt_zero _),Below.refl _ _⟩
  case round =>
   obtain⟨k,hk,rfl,hno,B1⟩:=hrel;by_cases hlt:k<xs.length
   ·have hy:k<ys.length:=by have:=HL.out;omega
    have hx1:xs[k]?=some xs[k]:=List.getElem?_eq_getElem hlt;have hy1:ys[k]?=some ys[k]:=List.getElem?_eq_getElem hy;rcases h1 with rfl|⟨g1,o1,rfl,-,hg1,hc1⟩
    ·simp at hlt
    rcases h2 with rfl|⟨g2,o2,rfl,-,hg2,hc2⟩
    ·simp at hy
    have x1:=(B1.cell (p:=⟨g1,o1+k,none⟩) hg1).trans (hc1 k _ hx1);have y1:=(B1.cell (p:=⟨g2,o2+k,none⟩) hg2).trans (hc2 k _ hy1);generalize xs[k]=x at x1 hx1;generalize ys[k]=y at y1 hy1;have hkI:(k:Int)<(xs.length:Int):=by omega
    have hkJ:(k:Int)<(ys.length:Int):=by omega
    have HX:Hid (xs[k]?=some x/\ys[k]?=some y):=⟨hx1,hy1⟩
    clear hx1 hy1 hc1 hc2 hI;by_cases he:x=y
    ·have hbe:(x != y)=false:=by simpa using he
     have hn2:Hid (∀ j,j<k+1->xs[j]?=ys[j]?):=by
      intro j hj;rcases Nat.lt_succ_iff_lt_or_eq.1 hj with h3|rfl
      ·exact hno.out j h3
      ·rw[HX.out.1,HX.out.2,he]
     clear hno HX he HW;go_wp2_with fail
     go_quiet (fail)
     have B2:=B1.trans (show Below w.heap.size wr (wr.drewN nq) from ⟨rfl,rfl,rfl,Nat.le_refl _,fun _ _=>rfl⟩);go_wp2;go_roundw
     case rel=>exact⟨k+1,by omega,by go_num,hn2,B2⟩
     case measure=>simp[intOf];omega
    ·have hbe:(x != y)=true:=by simpa using he
     have FIN:Hid (W=false):=by
      show W=_;rw[HW.out];apply decide_eq_false;intro h3;rw[h3,HX.out.2] at HX
      have:=HX.out.1
      injection this with this
      exact he this.symm
     clear hno HX he HW;go_wp2_with fail
     go_quiet (fail)
     have B2:=B1.trans (show Below w.heap.size wr (wr.drewN nq) from ⟨rfl,rfl,rfl,Nat.le_refl _,fun _ _=>rfl⟩);go_wp2;go_ret;rw[FIN.out];exact⟨rfl,B2⟩
   ·have hkI:¬(k:Int)<(xs.length:Int):=by omega
    have FIN:Hid (W=true):=by
     show W=_;rw[HW.out];apply decide_eq_true;apply List.ext_getElem?;intro j;rcases Nat.lt_or_ge j k with h3|h3
     ·exact hno.out j h3
     ·rw[List.getElem?_eq_none (by omega),List.getElem?_eq_none (by have:=HL.out;omega)]
    clear hno HW h1 h2 hI;go_wp2;go_ret;rw[FIN.out];exact⟨rfl,B1⟩
 ·have hI:((xs.length:Int) != (ys.length:Int))=true:=by simp;omega
  have FIN:Hid (W=false):=by
   show W=_;rw[HW.out];exact decide_eq_false (fun h3=>hll (by rw[h3]))
  clear HW hll h1 h2;go_wp2;go_ret;rw[FIN.out];exact⟨rfl,Below.refl _ _⟩
def nlB (c:Int):Bool:=decide (c<0)||decide (4<c)
theorem nolevel_c (c:Int)(w:World):Calls Tryz.prog 119 #[.int .i64 c] w fun x w'=>x=.returned (.bool (nlB c))/\w'=w:=by
 unfold nlB;by_cases h0:c<0
 ·have hd:decide (c<0)=true:=decide_eq_true h0;rw[hd];go_enter Tryz.func119,Tryz.ntmps119;go_wp2;go_ret;exact⟨rfl,rfl⟩
 ·have hd:decide (c<0)=false:=decide_eq_false h0;rw[hd];simp only[Bool.false_or];go_enter Tryz.func119,Tryz.ntmps119;go_wp2;go_ret;exact⟨rfl,rfl⟩
theorem indexfunc_c (w:World)(v:Value)(xs:List Int)(h:InA w v xs)(hl:xs.length<=1000000000) :
  Calls Tryz.prog 179 #[v,.func (.func 119) #[] #[]] w fun x w'=>(∃k:Int,x=.returned (.int .i64 k)/\decide (0<=k)=xs.any nlB)/\w'=w:=by
 obtain⟨W,hW⟩:∃W,W=xs.any nlB:=⟨_,rfl⟩
 rw[<-hW];have HW:Hid (W=xs.any nlB):=hW;clear hW;obtain⟨a1,c1,rfl,h⟩:=h;go_enter Tryz.func179,Tryz.ntmps179;go_wp2;go_loopw [8] (fun v wr=>∃k:Nat,k<=xs.length/\v=.int .i64 (k:Nat)/\Hid (∀ j c,j<k->xs[j]?=some c->nlB c=false)/\wr=w) (fun v _=>xs.length-(intOf v).toNat)
 case atStart=>exact⟨0,by omega,by go_num,fun j c hj=>absurd hj (Nat.not_lt_zero _),rfl⟩
 case round =>
  obtain⟨k,hk,rfl,hno,rfl⟩:=hrel;by_cases hlt:k<xs.length
  ·have hx1:xs[k]?=some xs[k]:=List.getElem?_eq_getElem hlt;rcases h with rfl|⟨g1,o1,rfl,-,hg1,hc1⟩
   ·simp at hlt
   have x1:=hc1 k _ hx1;generalize xs[k]=x at x1 hx1;have hkI:(k:Int)<(xs.length:Int):=by omega
   have HX:Hid (xs[k]?=some x):=hx1;have hc:=fun w=>nolevel_c x w;clear hx1 hc1;cases hb:nlB x with
   | false =>
    rw[hb] at hc;have hn2:Hid (∀ j c,j<k+1->xs[j]?=some c->nlB c=false):=by
     intro j c hj hc;rcases Nat.lt_succ_iff_lt_or_eq.1 hj with h3|rfl
     ·exact hno.out j c h3 hc
     ·rw[HX.out] at hc;injection hc with hc
      rw[<-hc,hb]
    clear hno HX HW;go_wp2_with (go_at_call 119;refine(hc _).mono ?_;rintro z w2 ⟨rfl,rfl⟩);go_wp2;go_roundw
    case rel=>exact⟨k+1,by omega,by go_num,hn2,trivial⟩
    case measure=>simp[intOf];omega
   | true =>
    rw[hb] at hc;have FIN:Hid (W=true):=by
     show W=_;rw[HW.out];exact List.any_eq_true.2 ⟨x,List.mem_of_getElem? HX.out,hb⟩
    clear hno HX HW;go_wp2_with (go_at_call 119;refine(hc _).mono ?_;rintro z w2 ⟨rfl,rfl⟩);go_wp2;go_ret;rw[FIN.out];exact⟨⟨_,rfl,by simp⟩,rfl⟩
  ·have hkI:¬(k:Int)<(xs.length:Int):=by omega
   have FIN:Hid (W=false):=by
    show W=_;rw[HW.out,List.any_eq_false];intro c hc;obtain⟨j,hj,h2⟩:=List.mem_iff_getElem.1 hc
    have:=hno.out j c (by omega) (by rw[List.getElem?_eq_getElem hj,h2])
    simp[this]
   clear hno HW h;go_wp2;go_ret;rw[FIN.out];exact⟨⟨_,rfl,by decide⟩,rfl⟩
theorem containsfunc_c (w:World)(v:Value)(xs:List Int)(h:InA w v xs)(hl:xs.length<=1000000000) :
  Calls Tryz.prog 118 #[v,.func (.func 119) #[] #[]] w fun x w'=>x=.returned (.bool (xs.any nlB))/\w'=w:=by
 have c1:=indexfunc_c w v xs h hl;generalize xs.any nlB=W at *;go_enter Tryz.func118,Tryz.ntmps118;go_wp2_with fail;refine c1.mono ?_;rintro z w2 ⟨⟨k,rfl,hk⟩,rfl⟩;subst hk;go_wp2;go_ret;exact⟨rfl,rfl⟩
theorem and32 (n:Nat)(hn:n<=100000):bits BinOp.and IntKind.u64 (n:Int) 4294967295=n:=by
 have h:=bits_and_u64_nat n 4294967295 (by omega) (by omega);have h2:n &&& 4294967295=n:=by
  have:=Nat.and_two_pow_sub_one_eq_mod n 32
  rw[show (2 ^ 32-1:Nat)=4294967295 from rfl] at this;rw[this];exact Nat.mod_eq_of_lt (by omega)
 rw[h2] at h;exact h
theorem mul64_c (n:Nat)(hn:n<=100000)(w:World):Calls Tryz.prog 188 #[.int .u64 1,.int .u64 (n:Nat)] w fun x w'=>x=.returned (.tuple #[.int .u64 0,.int .u64 (n:Nat)])/\w'=w:=by
 have a1:bits BinOp.and IntKind.u64 1 4294967295=1:=and32 1 (by omega);have a0:bits BinOp.and IntKind.u64 0 4294967295=0:=and32 0 (by omega);have an:=and32 n hn;have d0:(n:Int) / 4294967296=0:=by omega
 go_enter Tryz.func188,Tryz.ntmps188;go_wp2;exact bodyPost_ret (v:=.tuple #[.int .u64 0,.int .u64 (n:Nat)]) (by simp[results,Tryz.results188,go_sem]) rfl ⟨rfl,rfl⟩
theorem mul_c (n:Nat)(hn:n<=100000)(w:World):Calls Tryz.prog 121 #[.int .u64 1,.int .u64 (n:Nat)] w fun x w'=>x=.returned (.tuple #[.int .u64 0,.int .u64 (n:Nat)])/\w'=w:=by
 have m1:=fun w=>mul64_c n hn w;go_enter Tryz.func121,Tryz.ntmps121;go_wp2_with fail;refine(m1 _).mono ?_;rintro z w1 ⟨rfl,rfl⟩;go_wp2;exact bodyPost_ret (v:=.tuple #[.int .u64 0,.int .u64 (n:Nat)]) (by simp[results,Tryz.results121,go_sem]) rfl ⟨rfl,rfl⟩
theorem infoInt3:(Tryz.prog.info? 3).map (fun i=>(i.zero,i.size,i.bytes))=some (some (.int .i64 0),1,8):=by kernel_rfl
theorem lay_at {cur cs:List Value}{k:Nat}{v:Value}(hc:∀ j,j<k->cur[j]?=some v)(hs:∀ j,j<cs.length->cs[j]?=some v)(hk:k+cs.length<=cur.length):∀ j,j<k+cs.length->(splice cur k cs)[j]?=some v:=by
 intro j hj;unfold splice;rcases Nat.lt_or_ge j k with h1|h1
 ·rw[List.getElem?_append_left (by simp;omega),List.getElem?_take_of_lt h1];exact hc j h1
 ·have hl:(cur.take k).length=k:=by simp;omega
  rw[List.getElem?_append_right (by omega),hl,List.getElem?_append_left (by omega)];exact hs (j-k) (by omega)
theorem run_splice {P:Program}{w:World}(dT sT ty elem:TypeId)(hu:P.underlying dT=some (.slice elem))(hsz:(P.info? elem).map (·.size)=some 1)
  (dp sp:Option Addr) (dLen dCap sLen sCap:Nat) (g off:Nat) (cur:List Value) (t:TypeId) (hg:w.heap[g]?=some (.cells cur.toArray t (0,0))) (cs:List Value) (hn:cs.length=Nat.min sLen dLen)
  (hpos:0<cs.length->dp=some ⟨g,off,none⟩/\∃ad,sp=some ad/\∀ j v,cs[j]?=some v->w.cell? (ad.add j)=some v)
  (hfit:off+cs.length<=cur.length) (h1:∀ v ∈ cs,v.oneCell'=true) :
  ∃w',(Builtin.copy_ #[dT,sT] ty #[.slice dp dLen dCap,.slice sp sLen sCap]).run P w=.ok (goInt cs.length) w'/\w'.heap[g]?=some (.cells (splice cur off cs).toArray t (0,0))/\Below g w w':=by
 by_cases h0:cs.length=0
 ·obtain rfl:cs=[]:=List.eq_nil_of_length_eq_zero h0;have hrun:=run_copy_none (P:=P) w dT sT ty elem dp sp dLen dCap sLen sCap hu hsz (by simpa using hn.symm);exact⟨w,hrun,by simpa [splice] using hg,Below.refl _ _⟩
 ·obtain⟨rfl,ad,rfl,hsrc⟩:=hpos (by omega);have hrun:=run_copy_row (P:=P) w dT sT ty elem g off dLen dCap ad sLen sCap cur.toArray t cs hu hsz hg hn hsrc (by simpa using hfit) h1;exact⟨_,hrun,by simpa [splice] using setRow_heap w g _ _ t _ hg,below_setRow (Below.refl _ _) (Nat.le_refl _) _⟩
theorem repeat_c (w:World)(b off c n:Nat)(hn:n<=100000)(hb:b<w.heap.size)(hc:w.cell? ⟨b,off,none⟩=some (.int .i64 3)) :
  Calls Tryz.prog 73 #[.slice (some ⟨b,off,none⟩) 1 c,.int .i64 (n:Nat)] w fun x w'=>∃v,x=.returned v/\Inw w' (Nw w.heap.size) v (List.replicate n 3)/\Below w.heap.size w w':=by
 obtain⟨ii,hii,hzi0,hzi1,hzi2⟩:=info_parts infoInt3;have mk:∀ w:World,(Instr.makeSlice 35 (.int .i64 (n:Nat)) (.int .i64 (n:Nat))).run Tryz.prog w=.ok (.slice (some ⟨w.heap.size,0,none⟩) n n) (w.alloc (.cells (madeCells (Value.int .i64 0).cells (n*1)) 3)):=fun w=>by
  have:=run_make (P:=Tryz.prog) w 35 3 ii _ Tryz.underlying35 hii hzi0 .i64 .i64 n n (by omega) (Int.le_refl _) (by rw[hzi2];omega) (by omega)
  rw[hzi1] at this;simpa only[Int.toNat_natCast] using this
 obtain⟨X,hX,hXl⟩:∃X:List Value,madeCells (Value.int .i64 0).cells (n*1)=X.toArray/\X.length=n:=⟨(madeCells (Value.int .i64 0).cells (n*1)).toList,by simp,by simp[madeCells,Value.cells]⟩
 rw[hX] at mk;have B0:Below w.heap.size w (w.alloc (.cells X.toArray 3)):=(Below.refl _ w).alloc (Nat.le_refl _) _;have E0:(w.alloc (.cells X.toArray 3)).heap[w.heap.size]?=some (.cells X.toArray 3 (0,0)):=heap_alloc_new w _;have c0:=(B0.cell (p:=⟨b,off,none⟩) hb).trans hc;have m1:=fun w=>mul_c n hn w;clear hX hc;go_enter Tryz.func73,Tryz.ntmps73;go_wp2_with fail;refine(m1 _).mono ?_;rintro z w1 ⟨rfl,rfl⟩;go_upto_region 7 with fail;generalize w1.alloc (.cells X.toArray 3)=w0 at *;obtain⟨g,hg⟩:∃g,g=w1.heap.size:=⟨_,rfl⟩
 rw[<-hg] at E0 ⊢;have HG:Hid (g=w1.heap.size):=hg;have hgs:(Tryz.prog.info? 3).map (·.size)=some 1:=by rw[hii];simp[hzi1]
 obtain⟨cs,hcs⟩:∃cs,cs=List.replicate (min 1 n) (Value.int .i64 3):=⟨_,rfl⟩
 have hcl:cs.length=min 1 n:=by rw[hcs];simp
 have hcv:∀ j v,cs[j]?=some v->j=0/\v=Value.int .i64 3:=by
  intro j v hv;rw[hcs,List.getElem?_replicate] at hv;split at hv
  ·injection hv with hv
   exact⟨by omega,hv.symm⟩
  ·cases hv
 have hca:∀ j,j<cs.length->cs[j]?=some (Value.int .i64 3):=by
  intro j hj;rw[hcs,List.getElem?_replicate];rw[hcl] at hj;rw[if_pos hj]
 clear hcs hg;obtain⟨w2,hr2,hg2,hb2⟩:=run_splice (P:=Tryz.prog) (w:=w0) 35 35 3 3 Tryz.underlying35 hgs (some ⟨g,0,none⟩) (some ⟨b,off,none⟩) n n 1 c g 0 X 3 E0 cs (by rw[hcl]) (fun _=>⟨rfl,_,rfl,fun j v hv=>by obtain⟨rfl,rfl⟩:=hcv j v hv;exact c0⟩) (by omega) (fun v hv=>by obtain⟨j,hj,h2⟩:=List.mem_iff_getElem.1 hv;rw[(hcv j v (by rw[List.getElem?_eq_getElem hj,h2])).2];rfl);have hlen2:(splice X 0 cs).length=n:=by rw[length_splice _ _ _ (by omega)];exact hXl
 have hat2:Hid (∀ j,j<0+cs.length->(splice X 0 cs)[j]?=some (Value.int .i64 3)):=lay_at (fun j hj=>absurd hj (Nat.not_lt_zero _)) hca (by omega);generalize splice X 0 cs=Y at *;have hgl:Hid (g=w1.heap.size):=HG;have B2:Below w1.heap.size w1 w2:=B0.trans (by rw[<-HG.out];exact hb2);have hk1:Hid (min 1 n<=n/\(0<n->0<min 1 n)):=⟨by omega,by omega⟩
 rw[hcl,Nat.zero_add] at hat2;have hgi:goInt cs.length=.int .i64 (min 1 n:Nat):=by rw[hcl];rfl
 rw[hgi] at hr2;generalize min 1 n=k1 at *;have h2:=lt_of_block hg2;clear E0 c0 hca hcv B0 hb2 hgi;go_wp2;go_loopw [8] (fun v wr=>∃(k:Nat) (Y:List Value),k<=n/\v=.int .i64 (k:Nat)/\(0<n->0<k)/\Y.length=n/\Hid (∀ j,j<k->Y[j]?=some (Value.int .i64 3))/\wr.heap[g]?=some (.cells Y.toArray 3 (0,0))/\Below w1.heap.size w1 wr) (fun v _=>n-(intOf v).toNat)
 case atStart=>exact⟨k1,Y,hk1.out.1,rfl,hk1.out.2,hlen2,hat2,hg2,B2⟩
 case round =>
  clear hk1 hlen2 hat2 hg2 B2 hr2 hcl h2;obtain⟨k,Y,hk,rfl,hk0,hyl,hat,E1,B1⟩:=hrel;by_cases hlt:k<n
  ·have hkI:(k:Int)<(n:Int):=by omega
   have bdT:Below wr.heap.size wr wr.drew:=⟨rfl,rfl,rfl,Nat.le_refl _,fun _ _=>rfl⟩
   have Ed:wr.drew.heap[g]?=some (.cells Y.toArray 3 (0,0)):=E1;obtain⟨ds,hds⟩:∃ds,ds=List.replicate (min k (n-k)) (Value.int .i64 3):=⟨_,rfl⟩
   have hdl:ds.length=min k (n-k):=by rw[hds];simp
   have hda:∀ j,j<ds.length->ds[j]?=some (Value.int .i64 3):=by
    intro j hj;rw[hds,List.getElem?_replicate];rw[hdl] at hj;rw[if_pos hj]
   have hdv:∀ j v,ds[j]?=some v->j<k/\v=Value.int .i64 3:=by
    intro j v hv;rw[hds,List.getElem?_replicate] at hv;split at hv
    ·injection hv with hv
     exact⟨by omega,hv.symm⟩
    ·cases hv
   clear hds;obtain⟨w3,hr3,hg3,hb3⟩:=run_splice (P:=Tryz.prog) (w:=wr.drew) 35 35 3 3 Tryz.underlying35 hgs (some ⟨g,k,none⟩) (some ⟨g,0,none⟩) (n-k) (n-k) k n g k Y 3 Ed ds (by rw[hdl]) (fun _=>⟨rfl,_,rfl,fun j v hv=>by
    obtain⟨hj,rfl⟩:=hdv j v hv;have ea:(Addr.add ⟨g,0,none⟩ j)=⟨g,j,none⟩:=by simp[Addr.add];exact fun h=>h.symm
    rw[ea,cell_of_row _ _ _ _ _ _ Ed];simpa using hat.out j hj⟩) (by omega) (fun v hv=>by obtain⟨j,hj,h2⟩:=List.mem_iff_getElem.1 hv;rw[(hdv j v (by rw[List.getElem?_eq_getElem hj,h2])).2];rfl)
   have hlen3:(splice Y k ds).length=n:=by rw[length_splice _ _ _ (by omega)];exact hyl
   have hat3:Hid (∀ j,j<k+ds.length->(splice Y k ds)[j]?=some (Value.int .i64 3)):=lay_at hat.out hda (by omega);generalize splice Y k ds=Y3 at *;have B3:Below w1.heap.size w1 w3:=(B1.trans (bdT.mono B1.size)).trans (by rw[<-HG.out];exact hb3);rw[hdl] at hat3;have hgi:goInt ds.length=.int .i64 (min k (n-k):Nat):=by rw[hdl];rfl
   rw[hgi] at hr3;have hpos:0<min k (n-k):=by have:=hk0 (by omega);omega
   have hle:k+min k (n-k)<=n:=by omega
   generalize min k (n-k)=d at *;clear hat hda hdv hdl hgi E1 hyl Ed;go_wp2_with fail;go_region;go_wp2;go_roundw
   case rel=>exact⟨k+d,Y3,hle,by simp,fun _=>by omega,hlen3,hat3,hg3,B3⟩
   case measure=>simp[intOf];omega
  ·have hkI:¬(k:Int)<(n:Int):=by omega
   have HR:Hid (∃v,Ending.returned (.slice (some ⟨g,0,none⟩) n n)=Ending.returned v/\Inw wr (Nw w1.heap.size) v (List.replicate n 3)/\Below w1.heap.size w1 wr):=by
    refine⟨_,rfl,⟨_,n,by simp,.inr ⟨g,0,rfl,by show w1.heap.size<=g;rw[HG.out];exact Nat.le_refl _,lt_of_block E1,fun j x hx=>?_⟩⟩,B1⟩;rw[Nat.zero_add,cell_of_row _ _ _ _ _ _ E1];rw[List.getElem?_replicate] at hx;split at hx
    ·injection hx with hx
     subst hx;simpa using hat.out j (by omega)
    ·cases hx
   clear hat E1 hyl B1;go_wp2;go_ret;exact HR.out
theorem set2 {w:World}{b:Nat}{a0 a1:Value}{t:TypeId}(h:w.heap[b]?=some (.cells #[a0,a1] t (0,0)))(v0 v1:Value):((w.setCell ⟨b,0,none⟩ v0).setCell ⟨b,1,none⟩ v1).heap[b]?=some (.cells #[v0,v1] t (0,0)) :=
 (Blk.set (o:=fun _=>0) (i:=0) (Blk.set (o:=fun _=>0) (i:=0) ⟨h,rfl⟩ 0 v0) 1 v1).1
theorem Inw.nil {w:World}{P:Nat->Prop}:Inw w P (.slice none 0 0) []:=⟨none,0,rfl,.inl rfl⟩
theorem form_call (n:Int)(ks:List Int):formP 20 n ks=clP n:=rfl
theorem form_quant (n:Int)(ks:List Int):formP 21 n ks=qfP n:=rfl
theorem formof_c (k0 n:Int)(nm:List UInt8)(a:Int)(f:Fs)(ao:Option Addr)(cap:Nat)(w:World)(v:Value)(ks:List Int)(h:InA w v ks)(hl:ks.length<=4096) :
  Calls Tryz.prog 183 #[exN ⟨k0,n,nm,a,f⟩ ao cap,v] w (PostFm w (formP k0 n ks)):=by
 have BB2:∀ o1 o2:Obj,Below w.heap.size w ((w.alloc o1).alloc o2):=fun o1 o2=>((Below.refl _ w).alloc (Nat.le_refl _) _).alloc (by simp) _;have BB3:∀ o1 o2 o3:Obj,Below w.heap.size w (((w.alloc o1).alloc o2).alloc o3):=fun o1 o2 o3=>(BB2 o1 o2).alloc (by simp;omega) _;have h0:=fun o1 o2=>h.below (BB2 o1 o2);have wk0:=fun o1 o2=>worthkind_c ((w.alloc o1).alloc o2) _ v ks 0 (by omega) (by omega) (h0 o1 o2);have wk1:=fun o1 o2=>worthkind_c ((w.alloc o1).alloc o2) _ v ks 1 (by omega) (by omega) (h0 o1 o2);obtain⟨av,cv,rfl,-⟩:=h;clear h0;rw[exN_out];simp only;obtain⟨p,hp⟩:∃p,p=formP k0 n ks:=⟨_,rfl⟩
 rw[<-hp];have HPP:Hid (p=formP k0 n ks):=hp;clear hp;by_cases hkk:(1<=k0/\k0<=3)\/(5<=k0/\k0<=26)
 case neg =>
  have hfm:formP k0 n ks=([],0):=by
   unfold formP
   repeat rw[if_neg (by omega)]
  have HP:Hid (p=([],0)):=HPP.out.trans hfm;have b1:∀ c:Int,(1<=c/\c<=3)\/(5<=c/\c<=26)->(k0==c)=false:=fun c hc=>by simp;omega
  have c1:=b1 1 (by omega);have c2:=b1 2 (by omega);have c3:=b1 3 (by omega);have c5:=b1 5 (by omega);have c6:=b1 6 (by omega);have c7:=b1 7 (by omega);have c8:=b1 8 (by omega);have c9:=b1 9 (by omega);have c10:=b1 10 (by omega);have c11:=b1 11 (by omega);have c12:=b1 12 (by omega);have c13:=b1 13 (by omega);have c14:=b1 14 (by omega);have c15:=b1 15 (by omega);have c16:=b1 16 (by omega);have c17:=b1 17 (by omega);have c18:=b1 18 (by omega);have c19:=b1 19 (by omega);have c20:=b1 20 (by omega);have c21:=b1 21 (by omega);have c22:=b1 22 (by omega);have c23:=b1 23 (by omega);have c24:=b1 24 (by omega);have c25:=b1 25 (by omega);have c26:=b1 26 (by omega);clear hkk b1 wk0 wk1 BB3 hfm;go_enter Tryz.func183,Tryz.ntmps183;go_wp2;exact bodyPost_ret (v:=.agg #[.slice none 0 0,.int .i64 0]) (by simp[results,Tryz.results183,go_sem]) rfl (by rw[HP.out];exact⟨_,rfl,Inw.nil,BB2 _ _⟩)
 case pos =>
 have hc:k0=1\/k0=2\/k0=3\/k0=5\/k0=6\/k0=7\/k0=8\/k0=9\/k0=10\/k0=11\/k0=12\/k0=13\/k0=14\/k0=15\/k0=16\/k0=17\/k0=18\/k0=19\/k0=20\/k0=21\/k0=22\/k0=23\/k0=24\/k0=25\/k0=26:=by omega
 clear hkk;go_enter Tryz.func183,Tryz.ntmps183;rcases hc with rfl|rfl|rfl|rfl|rfl|rfl|rfl|rfl|rfl|rfl|rfl|rfl|rfl|rfl|rfl|rfl|rfl|rfl|rfl|rfl|rfl|rfl|rfl|rfl|rfl
 ·clear wk0 wk1 BB3;have HP:Hid (p=([],1)):=HPP.out.trans rfl;clear HPP;go_wp2;exact bodyPost_ret (v:=.agg #[.slice none 0 0,.int .i64 1]) (by simp[results,Tryz.results183,go_sem]) rfl (by rw[HP.out];exact⟨_,rfl,Inw.nil,BB2 _ _⟩)
 ·clear wk0 wk1 BB3;have HP:Hid (p=([],2)):=HPP.out.trans rfl;clear HPP;go_wp2;exact bodyPost_ret (v:=.agg #[.slice none 0 0,.int .i64 2]) (by simp[results,Tryz.results183,go_sem]) rfl (by rw[HP.out];exact⟨_,rfl,Inw.nil,BB2 _ _⟩)
 ·clear wk0 wk1 BB3;have HP:Hid (p=([],3)):=HPP.out.trans rfl;clear HPP;go_wp2;exact bodyPost_ret (v:=.agg #[.slice none 0 0,.int .i64 3]) (by simp[results,Tryz.results183,go_sem]) rfl (by rw[HP.out];exact⟨_,rfl,Inw.nil,BB2 _ _⟩)
 ·clear wk0 wk1 BB3;have HP:Hid (p=([],3)):=HPP.out.trans rfl;clear HPP;go_wp2;exact bodyPost_ret (v:=.agg #[.slice none 0 0,.int .i64 3]) (by simp[results,Tryz.results183,go_sem]) rfl (by rw[HP.out];exact⟨_,rfl,Inw.nil,BB2 _ _⟩)
 ·clear wk0 wk1;have HP:Hid (p=([1],1)):=HPP.out.trans rfl;clear HPP;go_wp2;exact bodyPost_ret (v:=.agg #[.slice (some ⟨w.heap.size+1+1,0,none⟩) 1 1,.int .i64 1]) (by simp[results,Tryz.results183,go_sem]) rfl (by rw[HP.out];exact⟨_,rfl,inw_alloc _ [1] _ _ _ (by simp) _ rfl (by show w.heap.size<=_;omega),BB3 _ _ _⟩)
 ·clear wk0 wk1;have HP:Hid (p=([2],2)):=HPP.out.trans rfl;clear HPP;go_wp2;exact bodyPost_ret (v:=.agg #[.slice (some ⟨w.heap.size+1+1,0,none⟩) 1 1,.int .i64 2]) (by simp[results,Tryz.results183,go_sem]) rfl (by rw[HP.out];exact⟨_,rfl,inw_alloc _ [2] _ _ _ (by simp) _ rfl (by show w.heap.size<=_;omega),BB3 _ _ _⟩)
 ·clear wk0 wk1;have HP:Hid (p=([1,1],1)):=HPP.out.trans rfl;clear HPP;go_wp2;exact bodyPost_ret (v:=.agg #[.slice (some ⟨w.heap.size+1+1,0,none⟩) 2 2,.int .i64 1]) (by simp[results,Tryz.results183,go_sem]) rfl (by rw[HP.out];exact⟨_,rfl,inw_alloc _ [1,1] _ _ _ (by simp) _ rfl (by show w.heap.size<=_;omega),BB3 _ _ _⟩)
 ·clear wk0 wk1;have HP:Hid (p=([1,1],1)):=HPP.out.trans rfl;clear HPP;go_wp2;exact bodyPost_ret (v:=.agg #[.slice (some ⟨w.heap.size+1+1,0,none⟩) 2 2,.int .i64 1]) (by simp[results,Tryz.results183,go_sem]) rfl (by rw[HP.out];exact⟨_,rfl,inw_alloc _ [1,1] _ _ _ (by simp) _ rfl (by show w.heap.size<=_;omega),BB3 _ _ _⟩)
 ·clear wk0 wk1;have HP:Hid (p=([1,1],1)):=HPP.out.trans rfl;clear HPP;go_wp2;exact bodyPost_ret (v:=.agg #[.slice (some ⟨w.heap.size+1+1,0,none⟩) 2 2,.int .i64 1]) (by simp[results,Tryz.results183,go_sem]) rfl (by rw[HP.out];exact⟨_,rfl,inw_alloc _ [1,1] _ _ _ (by simp) _ rfl (by show w.heap.size<=_;omega),BB3 _ _ _⟩)
 ·clear wk0 wk1;have HP:Hid (p=([1,1],1)):=HPP.out.trans rfl;clear HPP;go_wp2;exact bodyPost_ret (v:=.agg #[.slice (some ⟨w.heap.size+1+1,0,none⟩) 2 2,.int .i64 1]) (by simp[results,Tryz.results183,go_sem]) rfl (by rw[HP.out];exact⟨_,rfl,inw_alloc _ [1,1] _ _ _ (by simp) _ rfl (by show w.heap.size<=_;omega),BB3 _ _ _⟩)
 ·clear wk0 wk1;have HP:Hid (p=([1,1],1)):=HPP.out.trans rfl;clear HPP;go_wp2;exact bodyPost_ret (v:=.agg #[.slice (some ⟨w.heap.size+1+1,0,none⟩) 2 2,.int .i64 1]) (by simp[results,Tryz.results183,go_sem]) rfl (by rw[HP.out];exact⟨_,rfl,inw_alloc _ [1,1] _ _ _ (by simp) _ rfl (by show w.heap.size<=_;omega),BB3 _ _ _⟩)
 ·clear wk1;go_wp2_with fail;refine(wk0 _ _).mono ?_;rintro z w1 ⟨rfl,rfl⟩;clear wk0;have HP:Hid (p=([wkP ks 0,wkP ks 0],2)):=HPP.out.trans rfl;clear HPP;generalize wkP ks 0=kk at *;go_wp2;exact bodyPost_ret (v:=.agg #[.slice (some ⟨w.heap.size+1+1,0,none⟩) 2 2,.int .i64 2]) (by simp[results,Tryz.results183,go_sem]) rfl (by rw[HP.out];exact⟨_,rfl,inw_alloc _ [kk,kk] _ _ _ (by simp) _ rfl (by show w.heap.size<=_;omega),BB3 _ _ _⟩)
 ·clear wk1;go_wp2_with fail;refine(wk0 _ _).mono ?_;rintro z w1 ⟨rfl,rfl⟩;clear wk0;have HP:Hid (p=([wkP ks 0,wkP ks 0],2)):=HPP.out.trans rfl;clear HPP;generalize wkP ks 0=kk at *;go_wp2;exact bodyPost_ret (v:=.agg #[.slice (some ⟨w.heap.size+1+1,0,none⟩) 2 2,.int .i64 2]) (by simp[results,Tryz.results183,go_sem]) rfl (by rw[HP.out];exact⟨_,rfl,inw_alloc _ [kk,kk] _ _ _ (by simp) _ rfl (by show w.heap.size<=_;omega),BB3 _ _ _⟩)
 ·clear wk0 wk1;have HP:Hid (p=([1,1],2)):=HPP.out.trans rfl;clear HPP;go_wp2;exact bodyPost_ret (v:=.agg #[.slice (some ⟨w.heap.size+1+1,0,none⟩) 2 2,.int .i64 2]) (by simp[results,Tryz.results183,go_sem]) rfl (by rw[HP.out];exact⟨_,rfl,inw_alloc _ [1,1] _ _ _ (by simp) _ rfl (by show w.heap.size<=_;omega),BB3 _ _ _⟩)
 ·clear wk0 wk1;have HP:Hid (p=([1,1],2)):=HPP.out.trans rfl;clear HPP;go_wp2;exact bodyPost_ret (v:=.agg #[.slice (some ⟨w.heap.size+1+1,0,none⟩) 2 2,.int .i64 2]) (by simp[results,Tryz.results183,go_sem]) rfl (by rw[HP.out];exact⟨_,rfl,inw_alloc _ [1,1] _ _ _ (by simp) _ rfl (by show w.heap.size<=_;omega),BB3 _ _ _⟩)
 ·clear wk0 wk1;have HP:Hid (p=([2,2],2)):=HPP.out.trans rfl;clear HPP;go_wp2;exact bodyPost_ret (v:=.agg #[.slice (some ⟨w.heap.size+1+1,0,none⟩) 2 2,.int .i64 2]) (by simp[results,Tryz.results183,go_sem]) rfl (by rw[HP.out];exact⟨_,rfl,inw_alloc _ [2,2] _ _ _ (by simp) _ rfl (by show w.heap.size<=_;omega),BB3 _ _ _⟩)
 ·clear wk0 wk1;have HP:Hid (p=([2,2],2)):=HPP.out.trans rfl;clear HPP;go_wp2;exact bodyPost_ret (v:=.agg #[.slice (some ⟨w.heap.size+1+1,0,none⟩) 2 2,.int .i64 2]) (by simp[results,Tryz.results183,go_sem]) rfl (by rw[HP.out];exact⟨_,rfl,inw_alloc _ [2,2] _ _ _ (by simp) _ rfl (by show w.heap.size<=_;omega),BB3 _ _ _⟩)
 ·clear wk0;go_wp2_with fail;refine(wk1 _ _).mono ?_;rintro z w1 ⟨rfl,rfl⟩;clear wk1;have HP:Hid (p=([2,wkP ks 1,wkP ks 1],wkP ks 1)):=HPP.out.trans rfl;clear HPP;generalize wkP ks 1=kk at *;go_wp2;exact bodyPost_ret (v:=.agg #[.slice (some ⟨w.heap.size+1+1,0,none⟩) 3 3,.int .i64 kk]) (by simp[results,Tryz.results183,go_sem]) rfl (by rw[HP.out];exact⟨_,rfl,inw_alloc _ [2,kk,kk] _ _ _ (by simp) _ rfl (by show w.heap.size<=_;omega),BB3 _ _ _⟩)
 ·clear wk0 wk1 BB3;have c1:=fun w=>callform_c n w;have HP0:Hid (p=clP n):=HPP.out.trans (form_call n ks);clear HPP;have hzb:((w.alloc (.cells #[.int .i64 20,.int .i64 n,stv nm,.slice ao f.len cap] 34)).alloc (.cells #[.slice none 0 0,.int .i64 0] 211)).heap[w.heap.size+1]?=some (.cells #[.slice none 0 0,.int .i64 0] 211):=by
   have:=heap_alloc_new (w.alloc (.cells #[.int .i64 20,.int .i64 n,stv nm,.slice ao f.len cap] 34)) (.cells #[.slice none 0 0,.int .i64 0] 211)
   simpa using this
  have B0:=BB2 (.cells #[.int .i64 20,.int .i64 n,stv nm,.slice ao f.len cap] 34) (.cells #[.slice none 0 0,.int .i64 0] 211);go_wp2_with fail;refine(c1 _).mono ?_;rintro z w1 ⟨lv,rfl,L1,B1⟩;have Z1:=(B1.block _ (lt_of_block hzb)).trans hzb;have hs0:((w.alloc (.cells #[.int .i64 20,.int .i64 n,stv nm,.slice ao f.len cap] 34)).alloc (.cells #[.slice none 0 0,.int .i64 0] 211)).heap.size=w.heap.size+2:=by simp
  rw[hs0] at L1 B1;have B2:Below w.heap.size w w1:=B0.trans (B1.mono (by omega));clear c1 B0 B1 hzb hs0 BB2;generalize clP n=pp at *;obtain⟨xs,kp⟩:=pp;simp only at L1 ⊢;obtain⟨al,cl,hlv,hlx⟩:=L1;have L1:Inw w1 (Nw (w.heap.size+2)) lv xs:=⟨al,cl,hlv,hlx⟩
  subst hlv;clear hlx;obtain⟨q0,q1,qf⟩:=box2 Z1;have HU:Hid (∃wz,wz=(w1.setCell ⟨w.heap.size+1,0,none⟩ (.slice al xs.length cl)).setCell ⟨w.heap.size+1,1,none⟩ (.int .i64 kp)/\wz.heap[w.heap.size+1]?=some (.cells #[.slice al xs.length cl,.int .i64 kp] 211 (0,0))/\Inw wz (Nw w.heap.size) (.slice al xs.length cl) xs/\Below w.heap.size w wz) :=
   ⟨_,rfl,set2 Z1 _ _,L1.mono (fun k hk hl=>(heap_setCell_other _ _ k _ (by have hk:w.heap.size+2<=k:=hk;show k≠w.heap.size+1;omega)).trans (heap_setCell_other _ _ k _ (by have hk:w.heap.size+2<=k:=hk;show k≠w.heap.size+1;omega))) (by simp) (fun k hk _=>by have hk:w.heap.size+2<=k:=hk;show w.heap.size<=k;omega),(B2.setCell (p:=⟨w.heap.size+1,0,none⟩) (by show w.heap.size<=w.heap.size+1;omega) _).setCell (p:=⟨w.heap.size+1,1,none⟩) (by show w.heap.size<=w.heap.size+1;omega) _⟩
  clear L1 B2 Z1;go_wp2;obtain⟨wz,hwz,EZ,LZ,BZ⟩:=HU.out;rw[<-hwz];obtain⟨v0,v1,-⟩:=box2 EZ;exact bodyPost_ret (v:=.agg #[.slice al xs.length cl,.int .i64 kp]) (by simp[results,Tryz.results183,go_sem,v0,v1]) rfl (by rw[HP0.out];exact⟨_,rfl,LZ,BZ⟩)
 ·clear wk0 wk1 BB3;have c1:=fun w=>quantform_c n w;have HP0:Hid (p=qfP n):=HPP.out.trans (form_quant n ks);clear HPP;have hzb:((w.alloc (.cells #[.int .i64 21,.int .i64 n,stv nm,.slice ao f.len cap] 34)).alloc (.cells #[.slice none 0 0,.int .i64 0] 211)).heap[w.heap.size+1]?=some (.cells #[.slice none 0 0,.int .i64 0] 211):=by
   have:=heap_alloc_new (w.alloc (.cells #[.int .i64 21,.int .i64 n,stv nm,.slice ao f.len cap] 34)) (.cells #[.slice none 0 0,.int .i64 0] 211)
   simpa using this
  have B0:=BB2 (.cells #[.int .i64 21,.int .i64 n,stv nm,.slice ao f.len cap] 34) (.cells #[.slice none 0 0,.int .i64 0] 211);go_wp2_with fail;refine(c1 _).mono ?_;rintro z w1 ⟨lv,rfl,L1,B1⟩;have Z1:=(B1.block _ (lt_of_block hzb)).trans hzb;have hs0:((w.alloc (.cells #[.int .i64 21,.int .i64 n,stv nm,.slice ao f.len cap] 34)).alloc (.cells #[.slice none 0 0,.int .i64 0] 211)).heap.size=w.heap.size+2:=by simp
  rw[hs0] at L1 B1;have B2:Below w.heap.size w w1:=B0.trans (B1.mono (by omega));clear c1 B0 B1 hzb hs0 BB2;generalize qfP n=pp at *;obtain⟨xs,kp⟩:=pp;simp only at L1 ⊢;obtain⟨al,cl,hlv,hlx⟩:=L1;have L1:Inw w1 (Nw (w.heap.size+2)) lv xs:=⟨al,cl,hlv,hlx⟩
  subst hlv;clear hlx;obtain⟨q0,q1,qf⟩:=box2 Z1;have HU:Hid (∃wz,wz=(w1.setCell ⟨w.heap.size+1,0,none⟩ (.slice al xs.length cl)).setCell ⟨w.heap.size+1,1,none⟩ (.int .i64 kp)/\wz.heap[w.heap.size+1]?=some (.cells #[.slice al xs.length cl,.int .i64 kp] 211 (0,0))/\Inw wz (Nw w.heap.size) (.slice al xs.length cl) xs/\Below w.heap.size w wz) :=
   ⟨_,rfl,set2 Z1 _ _,L1.mono (fun k hk hl=>(heap_setCell_other _ _ k _ (by have hk:w.heap.size+2<=k:=hk;show k≠w.heap.size+1;omega)).trans (heap_setCell_other _ _ k _ (by have hk:w.heap.size+2<=k:=hk;show k≠w.heap.size+1;omega))) (by simp) (fun k hk _=>by have hk:w.heap.size+2<=k:=hk;show w.heap.size<=k;omega),(B2.setCell (p:=⟨w.heap.size+1,0,none⟩) (by show w.heap.size<=w.heap.size+1;omega) _).setCell (p:=⟨w.heap.size+1,1,none⟩) (by show w.heap.size<=w.heap.size+1;omega) _⟩
  clear L1 B2 Z1;go_wp2;obtain⟨wz,hwz,EZ,LZ,BZ⟩:=HU.out;rw[<-hwz];obtain⟨v0,v1,-⟩:=box2 EZ;exact bodyPost_ret (v:=.agg #[.slice al xs.length cl,.int .i64 kp]) (by simp[results,Tryz.results183,go_sem,v0,v1]) rfl (by rw[HP0.out];exact⟨_,rfl,LZ,BZ⟩)
 ·clear wk0 wk1 BB3;have HP:Hid (p=([],4)):=HPP.out.trans rfl;clear HPP;go_wp2;exact bodyPost_ret (v:=.agg #[.slice none 0 0,.int .i64 4]) (by simp[results,Tryz.results183,go_sem]) rfl (by rw[HP.out];exact⟨_,rfl,Inw.nil,BB2 _ _⟩)
 ·clear wk0 wk1 BB3;have HP:Hid (p=([],4)):=HPP.out.trans rfl;clear HPP;go_wp2;exact bodyPost_ret (v:=.agg #[.slice none 0 0,.int .i64 4]) (by simp[results,Tryz.results183,go_sem]) rfl (by rw[HP.out];exact⟨_,rfl,Inw.nil,BB2 _ _⟩)
 ·clear wk0 wk1;have HP:Hid (p=([3],4)):=HPP.out.trans rfl;clear HPP;go_wp2;exact bodyPost_ret (v:=.agg #[.slice (some ⟨w.heap.size+1+1,0,none⟩) 1 1,.int .i64 4]) (by simp[results,Tryz.results183,go_sem]) rfl (by rw[HP.out];exact⟨_,rfl,inw_alloc _ [3] _ _ _ (by simp) _ rfl (by show w.heap.size<=_;omega),BB3 _ _ _⟩)
 ·clear wk0 wk1;have HP0:Hid (p=(List.replicate ks.length 3,4)):=HPP.out.trans rfl;clear HPP;have hzb:(((w.alloc (.cells #[.int .i64 25,.int .i64 n,stv nm,.slice ao f.len cap] 34)).alloc (.cells #[.slice none 0 0,.int .i64 0] 211)).alloc (.cells #[.int .i64 3] 3)).heap[w.heap.size+1]?=some (.cells #[.slice none 0 0,.int .i64 0] 211):=by
   refine(Below.heap_alloc _ _ _ (by simp)).trans ?_
   have:=heap_alloc_new (w.alloc (.cells #[.int .i64 25,.int .i64 n,stv nm,.slice ao f.len cap] 34)) (.cells #[.slice none 0 0,.int .i64 0] 211)
   simpa using this
  have hlc:(((w.alloc (.cells #[.int .i64 25,.int .i64 n,stv nm,.slice ao f.len cap] 34)).alloc (.cells #[.slice none 0 0,.int .i64 0] 211)).alloc (.cells #[.int .i64 3] 3)).heap[w.heap.size+1+1]?=some (.cells #[.int .i64 3] 3):=by
   have:=heap_alloc_new ((w.alloc (.cells #[.int .i64 25,.int .i64 n,stv nm,.slice ao f.len cap] 34)).alloc (.cells #[.slice none 0 0,.int .i64 0] 211)) (.cells #[.int .i64 3] 3)
   simpa using this
  have c1:=repeat_c (((w.alloc (.cells #[.int .i64 25,.int .i64 n,stv nm,.slice ao f.len cap] 34)).alloc (.cells #[.slice none 0 0,.int .i64 0] 211)).alloc (.cells #[.int .i64 3] 3)) (w.heap.size+1+1) 0 1 ks.length (by omega) (lt_of_block hlc) (by rw[cell_of_row _ _ _ _ _ _ hlc];rfl);have B0:=BB3 (.cells #[.int .i64 25,.int .i64 n,stv nm,.slice ao f.len cap] 34) (.cells #[.slice none 0 0,.int .i64 0] 211) (.cells #[.int .i64 3] 3);clear BB3 BB2 hlc;go_wp2_with fail;refine c1.mono ?_;rintro z w1 ⟨lv,rfl,L1,B1⟩;have Z1:=(B1.block _ (lt_of_block hzb)).trans hzb;have hs0:(((w.alloc (.cells #[.int .i64 25,.int .i64 n,stv nm,.slice ao f.len cap] 34)).alloc (.cells #[.slice none 0 0,.int .i64 0] 211)).alloc (.cells #[.int .i64 3] 3)).heap.size=w.heap.size+3:=by simp
  rw[hs0] at L1 B1;have B2:Below w.heap.size w w1:=B0.trans (B1.mono (by omega));clear c1 B0 B1 hzb hs0;generalize List.replicate ks.length (3:Int)=xs at *;obtain⟨al,cl,hlv,hlx⟩:=L1;have L1:Inw w1 (Nw (w.heap.size+3)) lv xs:=⟨al,cl,hlv,hlx⟩
  subst hlv;clear hlx;obtain⟨q0,q1,qf⟩:=box2 Z1;have HU:Hid (∃wz,wz=(w1.setCell ⟨w.heap.size+1,0,none⟩ (.slice al xs.length cl)).setCell ⟨w.heap.size+1,1,none⟩ (.int .i64 4)/\wz.heap[w.heap.size+1]?=some (.cells #[.slice al xs.length cl,.int .i64 4] 211 (0,0))/\Inw wz (Nw w.heap.size) (.slice al xs.length cl) xs/\Below w.heap.size w wz) :=
   ⟨_,rfl,set2 Z1 _ _,L1.mono (fun k hk hl=>(heap_setCell_other _ _ k _ (by have hk:w.heap.size+3<=k:=hk;show k≠w.heap.size+1;omega)).trans (heap_setCell_other _ _ k _ (by have hk:w.heap.size+3<=k:=hk;show k≠w.heap.size+1;omega))) (by simp) (fun k hk _=>by have hk:w.heap.size+3<=k:=hk;show w.heap.size<=k;omega),(B2.setCell (p:=⟨w.heap.size+1,0,none⟩) (by show w.heap.size<=w.heap.size+1;omega) _).setCell (p:=⟨w.heap.size+1,1,none⟩) (by show w.heap.size<=w.heap.size+1;omega) _⟩
  clear L1 B2 Z1;go_wp2;obtain⟨wz,hwz,EZ,LZ,BZ⟩:=HU.out;rw[<-hwz];obtain⟨v0,v1,-⟩:=box2 EZ;exact bodyPost_ret (v:=.agg #[.slice al xs.length cl,.int .i64 4]) (by simp[results,Tryz.results183,go_sem,v0,v1]) rfl (by rw[HP0.out];exact⟨_,rfl,LZ,BZ⟩)
 ·clear wk1;go_wp2_with fail;refine(wk0 _ _).mono ?_;rintro z w1 ⟨rfl,rfl⟩;clear wk0;have HP:Hid (p=([wkP ks 0],wkP ks 0)):=HPP.out.trans rfl;clear HPP;generalize wkP ks 0=kk at *;go_wp2;exact bodyPost_ret (v:=.agg #[.slice (some ⟨w.heap.size+1+1,0,none⟩) 1 1,.int .i64 kk]) (by simp[results,Tryz.results183,go_sem]) rfl (by rw[HP.out];exact⟨_,rfl,inw_alloc _ [kk] _ _ _ (by simp) _ rfl (by show w.heap.size<=_;omega),BB3 _ _ _⟩)
def PrtV (x : Value) (k : Int) : Prop := ∃ ty v, x = .iface ty v ∧ ∀ (d : Nat) (w : World), d = Tryz.prog.types.size + Made.depth → (method d ty v "isthmus/plan.kind").run Tryz.prog w = .ok (281, .agg #[.int .i64 k]) w
theorem kindof_c (k:Int)(w:World):Calls Tryz.prog 281 #[.agg #[.int .i64 k]] w fun x w'=>x=.returned (.int .i64 k)/\Below w.heap.size w w':=by
 have B0:∀ o:Obj,Below w.heap.size w (w.alloc o):=fun o=>(Below.refl _ w).alloc (Nat.le_refl _) _;go_enter Tryz.func281,Tryz.ntmps281;go_wp2;go_ret;exact⟨rfl,B0 _⟩
def PKs (w:World)(v:Value)(n:Nat):Prop:=∃ak ck,v=.slice ak n ck/\(n=0\/∃b off,ak=some ⟨b,off,none⟩/\b<w.heap.size/\∀ j,j<n->∃ty u,w.cell? ⟨b,off+j,none⟩=some (.iface ty u))
theorem prt_constant (k:Int)(n:Int):PrtV (.iface 254 (.agg #[.int .i64 k,.int .i64 n])) k:=⟨_,_,rfl,fun d w h=>by subst h;kernel_rfl⟩
theorem prt_vertex (k:Int)(n:Int):PrtV (.iface 256 (.agg #[.int .i64 k,.int .i64 n])) k:=⟨_,_,rfl,fun d w h=>by subst h;kernel_rfl⟩
theorem prt_variable (k:Int)(n:Int):PrtV (.iface 258 (.agg #[.int .i64 k,.int .i64 n])) k:=⟨_,_,rfl,fun d w h=>by subst h;kernel_rfl⟩
theorem prt_operation (k:Int)(n:Int)(a:Option Addr)(l c:Nat):PrtV (.iface 277 (.agg #[.int .i64 k,.int .i64 n,.slice a l c])) k:=⟨_,_,rfl,fun d w h=>by subst h;kernel_rfl⟩
theorem prt_connective (k:Int)(n:Int)(t1 t2:TypeId)(u1 u2:Value):PrtV (.iface 260 (.agg #[.int .i64 k,.int .i64 n,.iface t1 u1,.iface t2 u2])) k:=⟨_,_,rfl,fun d w h=>by subst h;kernel_rfl⟩
theorem prt_choice (k:Int)(t1 t2 t3:TypeId)(u1 u2 u3:Value):PrtV (.iface 262 (.agg #[.int .i64 k,.iface t1 u1,.iface t2 u2,.iface t3 u3])) k:=⟨_,_,rfl,fun d w h=>by subst h;kernel_rfl⟩
theorem prt_call (k:Int)(n:Int)(a:Option Addr)(l c:Nat):PrtV (.iface 264 (.agg #[.int .i64 k,.int .i64 n,.slice a l c])) k:=⟨_,_,rfl,fun d w h=>by subst h;kernel_rfl⟩
theorem prt_quantifier (k:Int)(n m:Int)(t1 t2:TypeId)(u1 u2:Value):PrtV (.iface 266 (.agg #[.int .i64 k,.int .i64 n,.int .i64 m,.iface t1 u1,.iface t2 u2])) k:=⟨_,_,rfl,fun d w h=>by subst h;kernel_rfl⟩
theorem prt_cell (k:Int)(n:Int)(t1:TypeId)(u1:Value):PrtV (.iface 268 (.agg #[.int .i64 k,.int .i64 n,.iface t1 u1])) k:=⟨_,_,rfl,fun d w h=>by subst h;kernel_rfl⟩
theorem prt_allSet (k:Int) :PrtV (.iface 270 (.agg #[.int .i64 k])) k:=⟨_,_,rfl,fun d w h=>by subst h;kernel_rfl⟩
theorem prt_namedSet (k:Int)(s:ByteArray):PrtV (.iface 272 (.agg #[.int .i64 k,.string s])) k:=⟨_,_,rfl,fun d w h=>by subst h;kernel_rfl⟩
theorem prt_aroundSet (k:Int)(t1:TypeId)(u1:Value):PrtV (.iface 274 (.agg #[.int .i64 k,.iface t1 u1])) k:=⟨_,_,rfl,fun d w h=>by subst h;kernel_rfl⟩
theorem prt_listSet (k:Int)(a:Option Addr)(l c:Nat):PrtV (.iface 276 (.agg #[.int .i64 k,.slice a l c])) k:=⟨_,_,rfl,fun d w h=>by subst h;kernel_rfl⟩
theorem laid_c (k0 n:Int)(nm:List UInt8)(f:Fs)(ao:Option Addr)(cap:Nat)(t:Int)(kv:Value)(nk:Nat)(ar:Int)(w:World)(hk:PKs w kv nk)(h2:k0=17\/k0=18\/k0=21->nk=2)(h3:k0=19->nk=3)(h1:k0=24\/k0=26->nk=1) :
  Calls Tryz.prog 186 #[.agg #[.int .i64 k0,.int .i64 n,stv nm,.slice ao f.len cap],.agg #[.int .i64 t],kv,.int .i64 ar] w fun x w'=>(∃v,x=.returned v/\PrtV v t)/\Below w.heap.size w w':=by
 obtain⟨w0,hw0⟩:∃w0,w0=(w.alloc (.cells #[.int .i64 k0,.int .i64 n,stv nm,.slice ao f.len cap] 34)).alloc (.cells #[.int .i64 t] 215):=⟨_,rfl⟩
 have B0:Below w.heap.size w w0:=by rw[hw0];exact((Below.refl _ w).alloc (Nat.le_refl _) _).alloc (by simp) _
 have E0:w0.heap[w.heap.size]?=some (.cells #[.int .i64 k0,.int .i64 n,stv nm,.slice ao f.len cap] 34):=by
  rw[hw0];exact(Below.heap_alloc _ _ _ (by simp)).trans (heap_alloc_new w _)
 have T0:w0.heap[w.heap.size+1]?=some (.cells #[.int .i64 t] 215):=by
  rw[hw0]
  have:=heap_alloc_new (w.alloc (.cells #[.int .i64 k0,.int .i64 n,stv nm,.slice ao f.len cap] 34)) (.cells #[.int .i64 t] 215)
  simpa using this
 obtain⟨ak,ck,rfl,hk⟩:=hk;go_enter Tryz.func186,Tryz.ntmps186;go_upto_region 1 with fail;rw[<-hw0];obtain⟨bx,hbx⟩:∃bx,bx=w.heap.size:=⟨_,rfl⟩
 rw[<-hbx] at E0 T0 B0 ⊢;have HB:Hid (bx=w.heap.size):=hbx;clear hw0;obtain⟨p0,p1,p2,p3,pf⟩:=box4 E0;have t0:w0.cell? ⟨bx+1,0,none⟩=some (.int .i64 t):=by rw[cell_of_row _ _ _ _ _ _ T0];rfl
 have tf:∀ j,w0.frozen? ⟨bx+1,j,none⟩=false:=fun j=>frozen_of_row w0 (bx+1) j _ _ T0;have bdr:∀ m,Below bx w (w0.drewN m):=fun m=>B0.trans ⟨rfl,rfl,rfl,Nat.le_refl _,fun _ _=>rfl⟩;have hkc:Hid (∀ j,j<nk->∃b off ty u,ak=some ⟨b,off,none⟩/\w0.cell? ⟨b,off+j,none⟩=some (.iface ty u)):=by
  intro j hj;rcases hk with hk|⟨b,off,rfl,hb,hc⟩
  ·omega
  ·obtain⟨ty,u,hu⟩:=hc j hj;exact⟨b,off,ty,u,rfl,(B0.cell (p:=⟨b,off+j,none⟩) (by rw[hbx];exact hb)).trans hu⟩
 clear hk hbx E0 T0;by_cases e1:k0=1
 ·subst e1;clear hkc h1 h2 h3;go_wp2;refine bodyPost_ret (v:=.iface 254 (.agg #[.int .i64 t,.int .i64 n])) (by simp[results,Tryz.results186,go_sem]) rfl ⟨⟨_,rfl,prt_constant _ _⟩,?_⟩;rw[<-HB.out];exact B0
 have b1:(k0==1)=false:=by simpa using e1
 by_cases e2:k0=2
 ·subst e2;clear hkc h1 h2 h3;go_wp2;refine bodyPost_ret (v:=.iface 254 (.agg #[.int .i64 t,.int .i64 n])) (by simp[results,Tryz.results186,go_sem]) rfl ⟨⟨_,rfl,prt_constant _ _⟩,?_⟩;rw[<-HB.out];exact B0
 have b2:(k0==2)=false:=by simpa using e2
 by_cases e3:k0=3
 ·subst e3;clear hkc h1 h2 h3;go_wp2;refine bodyPost_ret (v:=.iface 256 (.agg #[.int .i64 t,.int .i64 n])) (by simp[results,Tryz.results186,go_sem]) rfl ⟨⟨_,rfl,prt_vertex _ _⟩,?_⟩;rw[<-HB.out];exact B0
 have b3:(k0==3)=false:=by simpa using e3
 by_cases e5:k0=5
 ·subst e5;clear hkc h1 h2 h3;go_wp2;refine bodyPost_ret (v:=.iface 258 (.agg #[.int .i64 t,.int .i64 n])) (by simp[results,Tryz.results186,go_sem]) rfl ⟨⟨_,rfl,prt_variable _ _⟩,?_⟩;rw[<-HB.out];exact B0
 have b5:(k0==5)=false:=by simpa using e5
 by_cases e17:k0=17
 ·subst e17;have hnk:nk=2:=h2 (.inl rfl);subst hnk;obtain⟨b,off,t1,u1,rfl,x0⟩:=hkc.out 0 (by omega);obtain⟨b1,off1,t2,u2,hj1,x1⟩:=hkc.out 1 (by omega);injection hj1 with hj1
  injection hj1 with hja1 hjb1
  subst hja1;subst hjb1;simp only[Nat.add_zero] at x0;clear hkc h1 h2 h3;go_wp2_with fail
  go_quiet (fail)
  have BD:=bdr nq;go_wp2;refine bodyPost_ret (v:=.iface 260 (.agg #[.int .i64 t,.int .i64 0,.iface t1 u1,.iface t2 u2])) (by simp[results,Tryz.results186,go_sem]) rfl ⟨⟨_,rfl,prt_connective _ _ _ _ _ _⟩,?_⟩;rw[<-HB.out];exact BD
 have b17:(k0==17)=false:=by simpa using e17
 by_cases e18:k0=18
 ·subst e18;have hnk:nk=2:=h2 (.inr (.inl rfl));subst hnk;obtain⟨b,off,t1,u1,rfl,x0⟩:=hkc.out 0 (by omega);obtain⟨b1,off1,t2,u2,hj1,x1⟩:=hkc.out 1 (by omega);injection hj1 with hj1
  injection hj1 with hja1 hjb1
  subst hja1;subst hjb1;simp only[Nat.add_zero] at x0;clear hkc h1 h2 h3;go_wp2_with fail
  go_quiet (fail)
  have BD:=bdr nq;go_wp2;refine bodyPost_ret (v:=.iface 260 (.agg #[.int .i64 t,.int .i64 1,.iface t1 u1,.iface t2 u2])) (by simp[results,Tryz.results186,go_sem]) rfl ⟨⟨_,rfl,prt_connective _ _ _ _ _ _⟩,?_⟩;rw[<-HB.out];exact BD
 have b18:(k0==18)=false:=by simpa using e18
 by_cases e19:k0=19
 ·subst e19;have hnk:nk=3:=h3 rfl;subst hnk;obtain⟨b,off,t1,u1,rfl,x0⟩:=hkc.out 0 (by omega);obtain⟨b1,off1,t2,u2,hj1,x1⟩:=hkc.out 1 (by omega);injection hj1 with hj1
  injection hj1 with hja1 hjb1
  subst hja1;subst hjb1;obtain⟨b2,off2,t3,u3,hj2,x2⟩:=hkc.out 2 (by omega);injection hj2 with hj2
  injection hj2 with hja2 hjb2
  subst hja2;subst hjb2;simp only[Nat.add_zero] at x0;clear hkc h1 h2 h3;go_wp2_with fail
  go_quiet (fail)
  have BD:=bdr nq;go_wp2;refine bodyPost_ret (v:=.iface 262 (.agg #[.int .i64 t,.iface t1 u1,.iface t2 u2,.iface t3 u3])) (by simp[results,Tryz.results186,go_sem]) rfl ⟨⟨_,rfl,prt_choice _ _ _ _ _ _ _⟩,?_⟩;rw[<-HB.out];exact BD
 have b19:(k0==19)=false:=by simpa using e19
 by_cases e20:k0=20
 ·subst e20;clear hkc h1 h2 h3;go_wp2;refine bodyPost_ret (v:=.iface 264 (.agg #[.int .i64 t,.int .i64 n,.slice ak nk ck])) (by simp[results,Tryz.results186,go_sem]) rfl ⟨⟨_,rfl,prt_call _ _ _ _ _⟩,?_⟩;rw[<-HB.out];exact B0
 have b20:(k0==20)=false:=by simpa using e20
 by_cases e21:k0=21
 ·subst e21;have hnk:nk=2:=h2 (.inr (.inr rfl));subst hnk;obtain⟨b,off,t1,u1,rfl,x0⟩:=hkc.out 0 (by omega);obtain⟨b1,off1,t2,u2,hj1,x1⟩:=hkc.out 1 (by omega);injection hj1 with hj1
  injection hj1 with hja1 hjb1
  subst hja1;subst hjb1;simp only[Nat.add_zero] at x0;clear hkc h1 h2 h3;go_wp2_with fail
  go_quiet (fail)
  have BD:=bdr nq;go_wp2;refine bodyPost_ret (v:=.iface 266 (.agg #[.int .i64 t,.int .i64 n,.int .i64 ar,.iface t1 u1,.iface t2 u2])) (by simp[results,Tryz.results186,go_sem]) rfl ⟨⟨_,rfl,prt_quantifier _ _ _ _ _ _ _⟩,?_⟩;rw[<-HB.out];exact BD
 have b21:(k0==21)=false:=by simpa using e21
 by_cases e26:k0=26
 ·subst e26;have hnk:nk=1:=h1 (.inr rfl);subst hnk;obtain⟨b,off,t1,u1,rfl,x0⟩:=hkc.out 0 (by omega);simp only[Nat.add_zero] at x0;clear hkc h1 h2 h3;go_wp2_with fail
  go_quiet (fail)
  have BD:=bdr nq;go_wp2;refine bodyPost_ret (v:=.iface 268 (.agg #[.int .i64 t,.int .i64 n,.iface t1 u1])) (by simp[results,Tryz.results186,go_sem]) rfl ⟨⟨_,rfl,prt_cell _ _ _ _⟩,?_⟩;rw[<-HB.out];exact BD
 have b26:(k0==26)=false:=by simpa using e26
 by_cases e22:k0=22
 ·subst e22;clear hkc h1 h2 h3;go_wp2;refine bodyPost_ret (v:=.iface 270 (.agg #[.int .i64 t])) (by simp[results,Tryz.results186,go_sem]) rfl ⟨⟨_,rfl,prt_allSet _⟩,?_⟩;rw[<-HB.out];exact B0
 have b22:(k0==22)=false:=by simpa using e22
 by_cases e23:k0=23
 ·subst e23;clear hkc h1 h2 h3;go_wp2;refine bodyPost_ret (v:=.iface 272 (.agg #[.int .i64 t,stv nm])) (by simp[results,Tryz.results186,go_sem]) rfl ⟨⟨_,rfl,prt_namedSet _ _⟩,?_⟩;rw[<-HB.out];exact B0
 have b23:(k0==23)=false:=by simpa using e23
 by_cases e24:k0=24
 ·subst e24;have hnk:nk=1:=h1 (.inl rfl);subst hnk;obtain⟨b,off,t1,u1,rfl,x0⟩:=hkc.out 0 (by omega);simp only[Nat.add_zero] at x0;clear hkc h1 h2 h3;go_wp2_with fail
  go_quiet (fail)
  have BD:=bdr nq;go_wp2;refine bodyPost_ret (v:=.iface 274 (.agg #[.int .i64 t,.iface t1 u1])) (by simp[results,Tryz.results186,go_sem]) rfl ⟨⟨_,rfl,prt_aroundSet _ _ _⟩,?_⟩;rw[<-HB.out];exact BD
 have b24:(k0==24)=false:=by simpa using e24
 by_cases e25:k0=25
 ·subst e25;clear hkc h1 h2 h3;go_wp2;refine bodyPost_ret (v:=.iface 276 (.agg #[.int .i64 t,.slice ak nk ck])) (by simp[results,Tryz.results186,go_sem]) rfl ⟨⟨_,rfl,prt_listSet _ _ _ _⟩,?_⟩;rw[<-HB.out];exact B0
 have b25:(k0==25)=false:=by simpa using e25
 clear hkc h1 h2 h3;go_wp2;refine bodyPost_ret (v:=.iface 277 (.agg #[.int .i64 t,.int .i64 k0,.slice ak nk ck])) (by simp[results,Tryz.results186,go_sem]) rfl ⟨⟨_,rfl,prt_operation _ _ _ _ _⟩,?_⟩;rw[<-HB.out];exact B0
def wgF:Fs->Int->Int
 | ⟨none⟩,l=>l
 | ⟨some ⟨_,_,_,_,ks,r⟩⟩,l=>if l<0 then l else wgF r (wgF ks (l-1))
theorem wgF_cons (k n:Int)(nm:List UInt8)(a:Int)(ks r:Fs)(l:Int):wgF (.cons k n nm a ks r) l=if l<0 then l else wgF r (wgF ks (l-1)):=rfl
theorem wgF_neg:∀ (f:Fs) (l:Int),l<0->wgF f l=l
 | ⟨none⟩,l,h=>rfl
 | ⟨some ⟨k,n,nm,a,ks,r⟩⟩,l,h=>by simp only[wgF,h,if_true]
theorem wgF_size:∀ (f:Fs) (l:Int),0<=wgF f l->wgF f l=l-(f.size:Nat)
 | ⟨none⟩,l,h=>by show l=l-((0:Nat):Int);omega
 | ⟨some ⟨k,n,nm,a,ks,r⟩⟩,l,h=>by
  have e:wgF ⟨some ⟨k,n,nm,a,ks,r⟩⟩ l=if l<0 then l else wgF r (wgF ks (l-1)):=rfl;rw[e] at h ⊢;split at h
  ·omega
  ·rename_i hl
   rw[if_neg hl];have h1:=wgF_size r _ h;by_cases h2:wgF ks (l-1)<0
   ·rw[wgF_neg r _ h2] at h;omega
   ·have h3:=wgF_size ks (l-1) (by omega);show _=l-((ks.size+r.size+1:Nat):Int);omega
theorem wgF_le:∀ (f:Fs) (l:Int),-1<=l->-1<=wgF f l/\wgF f l<=l
 | ⟨none⟩,l,h=>⟨h,Int.le_refl _⟩
 | ⟨some ⟨k,n,nm,a,ks,r⟩⟩,l,h=>by
  have e:wgF ⟨some ⟨k,n,nm,a,ks,r⟩⟩ l=if l<0 then l else wgF r (wgF ks (l-1)):=rfl;rw[e];split
  ·exact⟨h,Int.le_refl _⟩
  ·have h1:=wgF_le ks (l-1) (by omega);have h2:=wgF_le r _ h1.1;exact⟨h2.1,by omega⟩
def Fs.wide:Fs->Prop
 | ⟨none⟩=>True
 | ⟨some ⟨_,_,_,_,ks,r⟩⟩=>ks.len<=maxLen/\ks.wide/\r.wide
theorem Fs.app_wide:∀ {x y:Fs},(x.app y).wide->y.wide
 | ⟨none⟩,y,h=>h
 | ⟨some ⟨k,n,nm,a,ks,r⟩⟩,y,h=>Fs.app_wide (x:=r) h.2.2
def WeighNOk (N:Nat):Prop:=∀ (e:Ex) (ao:Option Addr) (cap:Nat) (l:Int) (w:World),e.kids.size<N->e.kids.len<=maxLen->e.kids.wide->0<=l->l<=1000000->SnA w e.kids ao ->
 Calls Tryz.prog 32 #[exN e ao cap,.int .i64 l] w fun x w'=>x=.returned (.int .i64 (wgF e.kids (l-1)))/\Below w.heap.size w w'
theorem weighn_step {N:Nat}(IH:WeighNOk N):WeighNOk (N+1):=by
 intro e ao cap l w hN hlen hwd hl0 hl1 S;obtain⟨W,hW⟩:∃W,W=wgF e.kids (l-1):=⟨_,rfl⟩
 rw[<-hW];have HW:Hid (W=wgF e.kids (l-1)):=hW;have hml:Hid (maxLen=9223372036854775807):=rfl;have hlm:e.kids.len<=9223372036854775807:=by have:=hml.out;omega
 clear hW;have B0:Below w.heap.size w (w.alloc (.cells #[.int .i64 e.k,.int .i64 e.n,stv e.nm,.slice ao e.kids.len cap] 34)):=(Below.refl _ w).alloc (Nat.le_refl _) _;have E0:(w.alloc (.cells #[.int .i64 e.k,.int .i64 e.n,stv e.nm,.slice ao e.kids.len cap] 34)).heap[w.heap.size]?=some (.cells #[.int .i64 e.k,.int .i64 e.n,stv e.nm,.slice ao e.kids.len cap] 34):=heap_alloc_new w _;rw[exN_out];go_enter Tryz.func32,Tryz.ntmps32;go_upto_region 1 with fail;generalize w.alloc (.cells #[.int .i64 e.k,.int .i64 e.n,stv e.nm,.slice ao e.kids.len cap] 34)=w0 at *;obtain⟨bx,hbx⟩:∃bx,bx=w.heap.size:=⟨_,rfl⟩
 rw[<-hbx] at E0 B0 ⊢;have HB:Hid (bx=w.heap.size):=hbx;clear hbx;go_wp2;go_loopw [1,5] (fun v1 v5 wr=>∃(done r:Fs) (c:Int),Hid (e.kids=done.app r)/\v1=.int .i64 c/\v5=.int .i64 (done.len:Nat)/\-1<=c/\c<=1000000/\Hid (wgF r c=W)/\wr.heap[bx]?=some (.cells #[.int .i64 e.k,.int .i64 e.n,stv e.nm,.slice ao e.kids.len cap] 34)/\Below bx w wr) (fun _ v5 _=>e.kids.len-(intOf v5).toNat)
 case atStart=>exact⟨.nil,e.kids,l-1,rfl,rfl,by show _=Value.int .i64 ((0:Nat):Int);rfl,by omega,by omega,HW.out.symm,E0,B0⟩
 case round =>
  clear E0 B0 HW;obtain⟨done,r,c,hk,rfl,rfl,hc0,hc1,HA,E1,B1⟩:=hrel;have hlk:e.kids.len=done.len+r.len:=by rw[hk.out,Fs.len_app]
  obtain⟨p0,p1,p2,p3,pf⟩:=box4 E1;cases r using Fs.on with
  | nil =>
   have hlt:¬(done.len:Int)<(e.kids.len:Int):=by simp only[Fs.len] at hlk;omega
   have FIN:Hid (W=c):=HA.out.symm;clear HA hlk;go_wp2;go_ret;rw[FIN.out];exact⟨rfl,by rw[<-HB.out];exact B1⟩
  | cons kk kn km ka kks kr =>
   have hlt:(done.len:Int)<(e.kids.len:Int):=by simp only[Fs.len] at hlk;omega
   have hl3:done.len<e.kids.len:=by omega
   by_cases hc:c<0
   ·have hcI:¬(0:Int)<=c:=by omega
    have FIN:Hid (W=c):=by show W=c;rw[<-HA.out];exact wgF_neg _ _ hc
    clear HA hlk;go_wp2;go_ret;rw[FIN.out];exact⟨rfl,by rw[<-HB.out];exact B1⟩
   ·have hcI:(0:Int)<=c:=by omega
    have hsz:e.kids.size=done.size+(kks.size+kr.size+1):=by rw[hk.out,Fs.size_app];rfl
    have hwk:(Fs.cons kk kn km ka kks kr).wide:=Fs.app_wide (x:=done) (by rw[<-hk.out];exact hwd);obtain⟨b,off,ak,ck,hao,lb1,-,x0,x1,x2,x3,SK⟩:=SlN.kidQ (by rw[<-hk.out];exact SnA.below S (by rw[<-HB.out];exact B1));subst hao;have hcc:=IH ⟨kk,kn,km,ka,kks⟩ ak ck c wr (by show kks.size<N;omega) hwk.1 hwk.2.1 hcI (by omega) SK;rw[exN_out] at hcc;simp only at hcc;have hbd:=wgF_le kks (c-1) (by omega);have HA2:Hid (wgF kr (wgF kks (c-1))=W):=by show _=W;rw[<-HA.out,wgF_cons,if_neg hc]
    have hk2:Hid (e.kids=(done.snoc ⟨kk,kn,km,ka,kks⟩).app kr):=by show e.kids=_;rw[hk.out];unfold Fs.snoc;rw[Fs.app_assoc];rfl
    have hl2:(done.len:Int)+1=((done.snoc ⟨kk,kn,km,ka,kks⟩).len:Nat):=by rw[Fs.len_snoc];rfl
    generalize wgF kks (c-1)=c2 at *;clear HA hlk hsz hwk SK hk;go_wp2_with fail;refine hcc.mono ?_;rintro x w2 ⟨rfl,b2⟩;have B2:=B1.trans (b2.mono (by have:=lt_of_block E1;omega));have E2:=(b2.block bx (lt_of_block E1)).trans E1;clear hcc x0 x1 x2 x3 p0 p1 p2 p3 pf b2 E1 B1;go_wp2;go_roundw
    case rel=>exact⟨_,kr,c2,hk2,rfl,by rw[<-hl2],hbd.1,by omega,HA2,E2,B2⟩
    case measure=>simp[intOf];omega
theorem weighn_ok:∀ N,WeighNOk N -- 32
 | 0=>fun e ao cap l w h=>absurd h (Nat.not_lt_zero _)
 | N+1=>weighn_step (weighn_ok N)
def SameQOk (N:Nat):Prop:=∀ (e e2:Ex) (ao ao2:Option Addr) (cap cap2:Nat) (w:World),e.kids.size<N->e.kids.len<=1000000000->e.kids.short->e2.kids.len<=1000000000->e2.kids.short->SnA w e.kids ao->SnA w e2.kids ao2 ->
 Calls Tryz.prog 225 #[exN e ao cap,exN e2 ao2 cap2] w fun x w'=>x=.returned (.bool (sameE e e2))/\Below w.heap.size w w'
def EqQOk (N:Nat):Prop:=∀ (f g:Fs) (ao ao2:Option Addr) (cap cap2:Nat) (w:World),f.size<=N->f.len<=1000000000->f.short->g.len<=1000000000->g.short->SnA w f ao->SnA w g ao2 ->
 Calls Tryz.prog 244 #[.slice ao f.len cap,.slice ao2 g.len cap2,.func (.func 225) #[] #[]] w fun x w'=>x=.returned (.bool (sameF f g))/\Below w.heap.size w w'
theorem eqn_of {N:Nat}(H:SameQOk N):EqQOk N:=by
 intro f g ao ao2 cap cap2 w hN hlen hsh hlen2 hsh2 S S2;obtain⟨W,hW⟩:∃W,W=sameF f g:=⟨_,rfl⟩
 rw[<-hW];have HW:Hid (W=sameF f g):=hW;clear hW;go_enter Tryz.func244,Tryz.ntmps244;by_cases hl:f.len=g.len
 ·have hI:((f.len:Int) != (g.len:Int))=false:=by rw[hl];simp
  have hIe:((f.len:Int)==(g.len:Int))=true:=by rw[hl];simp
  have HL:Hid (f.len=g.len):=hl;clear hl;go_wp2;go_loopw [17] (fun v wr=>∃(d r d2 r2:Fs),Hid (f=d.app r)/\Hid (g=d2.app r2)/\Hid (d2.len=d.len)/\v=.int .i64 (d.len:Nat)/\Hid (sameF r r2=W)/\Below w.heap.size w wr) (fun v _=>f.len-(intOf v).toNat)
  case atStart=>exact⟨.nil,f,.nil,g,rfl,rfl,rfl,by show _=Value.int .i64 ((0:Nat):Int);rfl,HW.out.symm,Below.refl _ _⟩
  case round =>
   obtain⟨d,r,d2,r2,hf,hg,hd,rfl,HA,B1⟩:=hrel;have hlf:f.len=d.len+r.len:=by rw[hf.out,Fs.len_app]
   have hlg:g.len=d2.len+r2.len:=by rw[hg.out,Fs.len_app]
   have hrr:r.len=r2.len:=by have:=HL.out;have:=hd.out;omega
   have HRR:Hid (r.len=r2.len):=hrr;clear HW hlg hrr hI hIe;cases r using Fs.on with
   | nil =>
    have hl0:¬(d.len:Int)<(f.len:Int):=by simp only[Fs.len] at hlf;omega
    have FIN:Hid (W=true):=by
     show W=true;rw[<-HA.out];cases r2 using Fs.on with
     | nil=>rfl
     | cons k n nm a ks r=>have:=HRR.out;simp only[Fs.len] at this;omega
    clear HA hlf HRR;go_wp2;go_ret;rw[FIN.out];exact⟨rfl,B1⟩
   | cons kk kn km ka kks kr =>
    cases r2 using Fs.on with
    | nil=>have:=HRR.out;simp only[Fs.len] at this;omega
    | cons jk jn jm ja jks jr =>
    have hl0:(d.len:Int)<(f.len:Int):=by simp only[Fs.len] at hlf;omega
    have hl1:d.len<f.len:=by omega
    have hl2:d.len<g.len:=by have:=HL.out;omega
    have hl3:(d.len:Int)<(g.len:Int):=by omega
    have hsz:f.size=d.size+(kks.size+kr.size+1):=by rw[hf.out,Fs.size_app];rfl
    have hsk:(Fs.cons kk kn km ka kks kr).short:=Fs.app_short (by rw[<-hf.out];exact hsh);have hsj:(Fs.cons jk jn jm ja jks jr).short:=Fs.app_short (by rw[<-hg.out];exact hsh2);obtain⟨b,off,ak,ck,hao,lb1,-,x0,x1,x2,x3,SK⟩:=SlN.kidQ (by rw[<-hf.out];exact SnA.below S B1);obtain⟨b',off',aj,cj,hao',lb2,-,y0,y1,y2,y3,TK⟩:=SlN.kidQ (by rw[<-hg.out];exact SnA.below S2 B1);subst hao hao';rw[hd.out] at y0 y1 y2 y3;have b2:Below wr.heap.size wr (wr.alloc (.cells #[.int .i64 kk,.int .i64 kn,stv km,.slice ak kks.len ck] 34)):=(Below.refl _ wr).alloc (Nat.le_refl _) _;have K2:(wr.alloc (.cells #[.int .i64 kk,.int .i64 kn,stv km,.slice ak kks.len ck] 34)).heap[wr.heap.size]?=some (.cells #[.int .i64 kk,.int .i64 kn,stv km,.slice ak kks.len ck] 34):=heap_alloc_new wr _;have B2:=B1.trans (b2.mono B1.size);have z0:=(b2.cell (p:=⟨b',off'+d.len*4,none⟩) lb2).trans y0;have z1:=(b2.cell (p:=⟨b',off'+d.len*4+1,none⟩) lb2).trans y1;have z2:=(b2.cell (p:=⟨b',off'+d.len*4+2,none⟩) lb2).trans y2;have z3:=(b2.cell (p:=⟨b',off'+d.len*4+3,none⟩) lb2).trans y3;have SK2:=SnA.below SK b2;have TK2:=SnA.below TK b2;clear y0 y1 y2 y3 hlf;go_upto_region 6 with fail;generalize wr.alloc (.cells #[.int .i64 kk,.int .i64 kn,stv km,.slice ak kks.len ck] 34)=w2 at *;generalize wr.heap.size=bk at *;clear x0 x1 x2 x3 b2 SK TK B1;have b3:Below w2.heap.size w2 (w2.alloc (.cells #[.int .i64 jk,.int .i64 jn,stv jm,.slice aj jks.len cj] 34)):=(Below.refl _ w2).alloc (Nat.le_refl _) _;have J3:(w2.alloc (.cells #[.int .i64 jk,.int .i64 jn,stv jm,.slice aj jks.len cj] 34)).heap[w2.heap.size]?=some (.cells #[.int .i64 jk,.int .i64 jn,stv jm,.slice aj jks.len cj] 34):=heap_alloc_new w2 _;have K3:=(b3.block _ (lt_of_block K2)).trans K2;have B3:=B2.trans (b3.mono B2.size);have SK3:=SnA.below SK2 b3;have TK3:=SnA.below TK2 b3;go_upto_region 7 with fail;generalize w2.alloc (.cells #[.int .i64 jk,.int .i64 jn,stv jm,.slice aj jks.len cj] 34)=w3 at *;generalize w2.heap.size=bj at *;clear z0 z1 z2 z3 b3 SK2 TK2 B2 K2;obtain⟨p0,p1,p2,p3,pf⟩:=box4 K3;obtain⟨q0,q1,q2,q3,qf⟩:=box4 J3;have c4:=H ⟨kk,kn,km,ka,kks⟩ ⟨jk,jn,jm,ja,jks⟩ ak aj ck cj w3 (by show kks.size<N;omega) hsk.2.1 hsk.2.2.1 hsj.2.1 hsj.2.2.1 SK3 TK3;rw[exN_out,exN_out] at c4;simp only at c4;have HA2:Hid ((sameE ⟨kk,kn,km,ka,kks⟩ ⟨jk,jn,jm,ja,jks⟩&&sameF kr jr)=W):=HA;have hf2:Hid (f=(d.snoc ⟨kk,kn,km,ka,kks⟩).app kr):=by show f=_;rw[hf.out];unfold Fs.snoc;rw[Fs.app_assoc];rfl
    have hg2:Hid (g=(d2.snoc ⟨jk,jn,jm,ja,jks⟩).app jr):=by show g=_;rw[hg.out];unfold Fs.snoc;rw[Fs.app_assoc];rfl
    have hd2:Hid ((d2.snoc ⟨jk,jn,jm,ja,jks⟩).len=(d.snoc ⟨kk,kn,km,ka,kks⟩).len):=by show _=_;rw[Fs.len_snoc,Fs.len_snoc,hd.out]
    have hl4:(d.len:Int)+1=((d.snoc ⟨kk,kn,km,ka,kks⟩).len:Nat):=by rw[Fs.len_snoc];rfl
    generalize sameE ⟨kk,kn,km,ka,kks⟩ ⟨jk,jn,jm,ja,jks⟩=cc at *;clear HA hf hg hd hsz hsk hsj SK3 TK3 K3 J3;go_wp2_with fail;refine c4.mono ?_;rintro x w4 ⟨rfl,b4⟩;have B4:=B3.trans (b4.mono B3.size);clear c4 p0 p1 p2 p3 pf q0 q1 q2 q3 qf b4 B3;cases cc with
    | false =>
     have FIN:Hid (W=false):=by show W=_;rw[<-HA2.out];rfl
     clear HA2;go_wp2;go_ret;rw[FIN.out];exact⟨rfl,B4⟩
    | true =>
     have HA3:Hid (sameF kr jr=W):=by show _=W;rw[<-HA2.out];rfl
     clear HA2;go_wp2;go_roundw
     case rel=>exact⟨_,kr,_,jr,hf2,hg2,hd2,by rw[<-hl4],HA3,B4⟩
     case measure=>simp[intOf];omega
 ·have hI:((f.len:Int) != (g.len:Int))=true:=by simp;omega
  have hI2:¬(f.len:Int)=(g.len:Int):=by omega
  have FIN:Hid (W=false):=by show W=_;rw[HW.out];exact sameF_len f g hl
  clear HW;go_wp2;go_ret;rw[FIN.out];exact⟨rfl,Below.refl _ _⟩
theorem samq_step {N:Nat}(IH:SameQOk N):SameQOk (N+1):=by
 intro e e2 ao ao2 cap cap2 w hN hlen hsh hlen2 hsh2 S S2;obtain⟨W,hW⟩:∃W,W=sameE e e2:=⟨_,rfl⟩
 rw[<-hW];have HW:Hid (W=sameE e e2):=hW;clear hW;have B0:Below w.heap.size w ((w.alloc (.cells #[.int .i64 e.k,.int .i64 e.n,stv e.nm,.slice ao e.kids.len cap] 34)).alloc (.cells #[.int .i64 e2.k,.int .i64 e2.n,stv e2.nm,.slice ao2 e2.kids.len cap2] 34)):=((Below.refl _ w).alloc (Nat.le_refl _) _).alloc (by simp) _;have E0:((w.alloc (.cells #[.int .i64 e.k,.int .i64 e.n,stv e.nm,.slice ao e.kids.len cap] 34)).alloc (.cells #[.int .i64 e2.k,.int .i64 e2.n,stv e2.nm,.slice ao2 e2.kids.len cap2] 34)).heap[w.heap.size]?=some (.cells #[.int .i64 e.k,.int .i64 e.n,stv e.nm,.slice ao e.kids.len cap] 34):=(Below.heap_alloc _ _ _ (by simp)).trans (heap_alloc_new w _);have Y0:((w.alloc (.cells #[.int .i64 e.k,.int .i64 e.n,stv e.nm,.slice ao e.kids.len cap] 34)).alloc (.cells #[.int .i64 e2.k,.int .i64 e2.n,stv e2.nm,.slice ao2 e2.kids.len cap2] 34)).heap[w.heap.size+1]?=some (.cells #[.int .i64 e2.k,.int .i64 e2.n,stv e2.nm,.slice ao2 e2.kids.len cap2] 34):=by
  have:=heap_alloc_new (w.alloc (.cells #[.int .i64 e.k,.int .i64 e.n,stv e.nm,.slice ao e.kids.len cap] 34)) (.cells #[.int .i64 e2.k,.int .i64 e2.n,stv e2.nm,.slice ao2 e2.kids.len cap2] 34)
  simpa using this
 have S0:=SnA.below S B0;have T0:=SnA.below S2 B0;rw[exN_out,exN_out];go_enter Tryz.func225,Tryz.ntmps225;go_upto_region 1 with fail;generalize (w.alloc (.cells #[.int .i64 e.k,.int .i64 e.n,stv e.nm,.slice ao e.kids.len cap] 34)).alloc (.cells #[.int .i64 e2.k,.int .i64 e2.n,stv e2.nm,.slice ao2 e2.kids.len cap2] 34)=w0 at *;obtain⟨bx,hbx⟩:∃bx,bx=w.heap.size:=⟨_,rfl⟩
 rw[<-hbx] at E0 Y0 B0 ⊢;have HB:Hid (bx=w.heap.size):=hbx;clear hbx S S2;obtain⟨p0,p1,p2,p3,pf⟩:=box4 E0;obtain⟨q0,q1,q2,q3,qf⟩:=box4 Y0;by_cases h1:e.k=e2.k
 ·have h1b:(e.k==e2.k)=true:=by simp[h1]
  by_cases h2:e.n=e2.n
  ·have h2b:(e.n==e2.n)=true:=by simp[h2]
   by_cases h3:e.nm=e2.nm
   ·have h3b:(e.nm==e2.nm)=true:=by simp[h3]
    have HF:Hid (W=sameF e.kids e2.kids):=by show W=_;rw[HW.out];simp[sameE,h1,h2,h3]
    have c1:=eqn_of IH e.kids e2.kids ao ao2 cap cap2 w0 (by omega) hlen hsh hlen2 hsh2 S0 T0;clear HW h1 h2 h3;go_wp2_with fail;refine c1.mono ?_;rintro x w1 ⟨rfl,b1⟩;have B1:=B0.trans (b1.mono (by rw[HB.out];exact B0.size));clear c1 p0 p1 p2 p3 pf q0 q1 q2 q3 qf;rw[<-HF.out];go_wp2;go_ret;exact⟨rfl,by rw[<-HB.out];exact B1⟩
   ·have h3b:(e.nm==e2.nm)=false:=by simpa using h3
    have FIN:Hid (W=false):=by show W=_;rw[HW.out];simp[sameE,h3]
    clear HW h1 h2 h3;go_wp2;go_ret;rw[FIN.out];exact⟨rfl,by rw[<-HB.out];exact B0⟩
  ·have h2b:(e.n==e2.n)=false:=by simpa using h2
   have FIN:Hid (W=false):=by show W=_;rw[HW.out];simp[sameE,h2]
   clear HW h1;go_wp2;go_ret;rw[FIN.out];exact⟨rfl,by rw[<-HB.out];exact B0⟩
 ·have h1b:(e.k==e2.k)=false:=by simpa using h1
  have FIN:Hid (W=false):=by show W=_;rw[HW.out];simp[sameE,h1]
  clear HW;go_wp2;go_ret;rw[FIN.out];exact⟨rfl,by rw[<-HB.out];exact B0⟩
theorem samq_ok:∀ N,SameQOk N -- 225
 | 0=>fun e e2 ao ao2 cap cap2 w h=>absurd h (Nat.not_lt_zero _)
 | N+1=>samq_step (samq_ok N)
end Go.Proofs.YtkhgahljbpmfaaaGreatDoor

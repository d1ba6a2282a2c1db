import Derived.Test.YtbjdkekhnajafaaGreatDoorSynG
import Derived.Lib.AppendStr
import Derived.RegionTactic
import Derived.ChangeAlike
import Derived.BigRegion
import Derived.Shelf.Strconv.Itoa3
import Derived.Lib.ItoaLen
import Derived.Lib.SmallJoins
import Derived.Lib.Small
import Derived.Lib.AppendIntMem
import Derived.Deep.RegionHeld
set_option maxRecDepth 100000
set_option maxHeartbeats 8000000
namespace Go.Proofs.YtbjdkekhnajafaaGreatDoor
open Go.ChangeShapes Go.WideShapes Go.ChangeAt Go.RowKit
set_option linter.unusedVariables false
set_option linter.unusedSimpArgs false
def hFs:Fs->Bool->Nat->Option Nat
 | ⟨none⟩,_,c=>some c
 | ⟨some ⟨k,n,nm,a,ks,r⟩⟩,first,c =>
  if isSetK k != first then none
  else if 2000<c+1 then none
  else if numB k n&&namB k nm&&kidB k n ks.len then
   match hFs ks (k==21) (c+1) with
   | none=>none
   | some c'=>hFs r false c'
  else none
def hE (e:Ex)(c:Nat):Option Nat:=if 2000<c+1 then none else if numB e.k e.n&&namB e.k e.nm&&kidB e.k e.n e.kids.len then hFs e.kids (e.k==21) (c+1) else none
def Fs.size:Fs->Nat
 | ⟨none⟩=>0
 | ⟨some ⟨_,_,_,_,ks,r⟩⟩=>ks.size+r.size+1
def Fs.short:Fs->Prop
 | ⟨none⟩=>True
 | ⟨some ⟨_,_,nm,_,ks,r⟩⟩=>nm.length<=maxLen/\ks.len<=1000000000/\ks.short/\r.short
theorem Fs.size_app:∀ (x y:Fs),(x.app y).size=x.size+y.size
 | ⟨none⟩,y=>by simp[Fs.app,Fs.size]
 | ⟨some ⟨k,n,nm,a,ks,r⟩⟩,y=>by simp only[Fs.app,Fs.size];rw[Fs.size_app r y];omega
theorem Fs.app_short:∀ {x y:Fs},(x.app y).short->y.short
 | ⟨none⟩,y,h=>h
 | ⟨some ⟨k,n,nm,a,ks,r⟩⟩,y,h=>Fs.app_short h.2.2.2
theorem hFs_le:∀ (f:Fs) (b:Bool) (c c':Nat),c<=2000->hFs f b c=some c'->c'<=2000
 | ⟨none⟩,b,c,c',h,e=>by
  unfold hFs at e;injection e with e
  omega
 | ⟨some ⟨k,n,nm,a,ks,r⟩⟩,b,c,c',h,e=>by
  unfold hFs at e;split at e
  ·cases e
  ·split at e
   ·cases e
   ·split at e
    ·split at e
     ·cases e
     ·rename_i c2 h2
      exact hFs_le r false c2 c' (hFs_le ks _ (c+1) c2 (by omega) h2) e
    ·cases e
theorem hE_le {e:Ex}{c c':Nat}(h:hE e c=some c'):c'<=2000:=by
 unfold hE at h;split at h
 ·cases h
 ·split at h
  ·exact hFs_le _ _ _ _ (by omega) h
  ·cases h
theorem Fs.app_assoc:∀ (x y z:Fs),(x.app y).app z=x.app (y.app z)
 | ⟨none⟩,y,z=>rfl
 | ⟨some ⟨k,n,nm,a,ks,r⟩⟩,y,z=>by simp only[Fs.app];rw[Fs.app_assoc r y z]
theorem Fc.split {w:World}{P:Nat->Prop}:∀ {x y:Fs}{zs:List Value},Fc w P (x.app y) zs->∃zx zy,zs=zx++zy/\Fc w P x zx/\Fc w P y zy
 | ⟨none⟩,y,zs,h=>⟨[],zs,rfl,rfl,h⟩
 | ⟨some ⟨k,n,nm,a,ks,r⟩⟩,y,zs,h=>by
  obtain⟨ao,cap,ys,rfl,h1,h2⟩:=h;obtain⟨zx,zy,rfl,h3,h4⟩:=Fc.split h2;exact⟨_,zy,rfl,⟨ao,cap,zx,rfl,h1,h3⟩,h4⟩
abbrev Nf (fb:Nat):Nat->Prop:=fun b=>b≠fb
theorem Sl.keepF {fb:Nat}{w w':World}{f:Fs}{ao:Option Addr}(h:Sl w (Nf fb) f ao)(k:Keep fb w w'):Sl w' (Nf fb) f ao:=h.mono (fun i hp hl=>k.block i hl hp) k.size (fun _ h _=>h)
theorem run_append_where_str {P:Program}(w:World)(t u ty e:TypeId)(i:TypeInfo)(ht:P.underlying t=some (.slice e))(hu:P.underlying u=some .string)(hi:P.info? e=some i)(hz:i.zero=some (.int .u8 0))
  (hsize:i.size=1) (hby:i.bytes=1) (v:Value) (n:Nat) (xs:List Value) (hown:w.ownsRow 0 e 1 v n xs) (s:ByteArray) (h63:n+s.size<=maxLen) (hbytes:n+s.size<=140737488355328) :
  ∃v' w',(Builtin.append_ #[t,u] ty #[v,.string s]).run P w=.ok v' w'/\w'.ownsRow 0 e 1 v' (n+s.size) (xs++Go.Lib.strCells s)/\w.grownBy w' v.ownBlock /\
   (v'.ownBlock=v.ownBlock\/∃k,v'.ownBlock=some k/\w.heap.size<=k):=by
 obtain⟨v',w',hr,ho,hg,h4⟩:=Go.Lib.run_append_own_string (P:=P) w 0 t u ty e i ht hu hi hz hsize hby v n xs hown s h63 hbytes (Nat.zero_le _);refine⟨v',w',hr,ho,hg,?_⟩;have h63':n+s.size<=9223372036854775807:=by simp only[maxLen] at h63;omega
 rcases hown.2 with ⟨rfl,rfl⟩|⟨g,cap,cur,rfl,hbg,hgb,hnc,hcm,hcs,htake⟩
 ·by_cases hm:s.size=0
  ·have h5:=h4.2 ⟨rfl,hm⟩;subst h5;exact .inl rfl
  ·have hr':=run_append_nil_string (P:=P) w t u ty e i (.int .u8 0) ht hu hi hz s (by omega) (by omega) (by rw[hby];omega);rw[hr'] at hr;injection hr with e1 e2
   subst e1;exact .inr ⟨_,rfl,Nat.le_refl _⟩
 ·by_cases hroom:n+s.size<=cap
  ·have hcs':cur.size=cap:=by simpa using hcs
   have hr':=Go.Lib.run_append_room_string (P:=P) w t u ty e i ht hu hi hsize g n cap cur hgb s hroom (by omega);rw[hr'] at hr;injection hr with e1 e2
   subst e1;exact .inl rfl
  ·have holds:∀ j u,xs[j]?=some u->w.cell? ((⟨g,0,none⟩:Addr).add j)=some u:=hown.cells (g:=g) rfl;have hr':=Go.Lib.run_append_grow_string (P:=P) w t u ty e i (.int .u8 0) ht hu hi hz ⟨g,0,none⟩ n cap xs (by rw[hsize];simpa using hown.1) holds s (by omega) (by omega) (by rw[hby];exact growslice_fits (by omega) (by omega));rw[hr'] at hr;injection hr with e1 e2
   subst e1;exact .inr ⟨_,rfl,Nat.le_refl _⟩
theorem wpList_append_str {P:Program}{w:World}{ops:Array Oper}{rest:List Oper}{op:Oper}{a:Act}{Q:Exit->Act->World->Prop}(hgd:op.guard=none)(sl x:Operand)(t u:TypeId)
  (ho:op.op=.call { callee:=.builtin .append,args:=#[sl,x],argTypes:=#[t,u] })
  (e:TypeId) (i:TypeInfo) (ht:P.underlying t=some (.slice e)) (hu:P.underlying u=some .string) (hi:P.info? e=some i) (hz:i.zero=some (.int .u8 0)) (hsize:i.size=1) (hby:i.bytes=1)
  (o:Nat->Nat) (lb:Nat) (v:Value) (n:Nat) (xs:List Value) (hs:a.eval sl=v) (hrow:Row w o lb e 1 v n xs) (s:ByteArray) (hx:a.eval x=.string s) (h63:n+s.size<=maxLen) (hbytes:n+s.size<=140737488355328)
  (h:∀ v' w' o',Row w' o' lb e 1 v' (n+s.size) (xs++Go.Lib.strCells s)->Step (fun k=>k=lb) w o w' o'->wpList P ops Q rest (a.put op.dst v') w'):wpList P ops Q (op::rest) a w:=by
 refine wpList_plain hgd fun _ hK=>?_;obtain⟨v',w',hr,h2,h3,h4⟩:=run_append_where_str (P:=P) w t u op.type e i ht hu hi hz hsize hby v n xs hrow.1 s h63 hbytes;unfold Oper.wp execOp;simp only[ho,resolve,invoke,builtin,Sem.run_bind,Sem.run_pure,Result.andThen_ok,List.map_toArray,List.map_cons,List.map_nil,hs,hx,hr];have hst:Step (fun k=>k=lb) w o w' (newLab w o lb):=Step.appended h3 rfl hrow.2;have hrow':Row w' (newLab w o lb) lb e 1 v' (n+s.size) (xs++Go.Lib.strCells s):=by
  refine⟨h2,fun k hk=>?_⟩;rcases h4 with h4|⟨k',h4,hk'⟩
  ·rw[h4] at hk;rw[newLab_old (hrow.lt hk)];exact hrow.2 k hk
  ·rw[h4] at hk;injection hk with hk
   subst hk;exact newLab_new hk'
 exact hK _ _ (h v' w' _ hrow' hst)
def byL (t:List UInt8):List Value:=t.map fun b=>Value.int .u8 b.toNat
theorem byL_app (s t:List UInt8):byL s++Go.Lib.strCells ⟨t.toArray⟩=byL (s++t):=by simp[byL,Go.Lib.strCells]
theorem size_mk (t:List UInt8):(ByteArray.mk t.toArray).size=t.length:=by simp[ByteArray.size]
abbrev I12:Nat->Prop:=fun k=>k=1\/k=2
theorem infoU8:(Tryz.prog.info? 5).map (fun i=>(i.zero,i.size,i.bytes))=some (some (.int .u8 0),1,1):=by kernel_rfl
structure St where
 t:List UInt8
 a:Nat
 m:Nat
 b:Nat
 n:Nat
def St.lay (s:St)(x:List UInt8):St:=⟨s.t++x,s.a,s.m,s.b,s.n⟩
def St.ent (s:St):St:=⟨s.t,s.a+1,max s.m (s.a+1),s.b,s.n⟩
def St.lea (s:St):St:=⟨s.t,s.a-1,s.m,s.b,s.n⟩
def St.qent (s:St):St:=⟨s.t,s.a,s.m,s.b+1,max s.n (s.b+1)⟩
def St.qlea (s:St):St:=⟨s.t,s.a,s.m,s.b-1,s.n⟩
def qword (n:Int):List UInt8:=match quantOf n with|some x=>x.1|none=>[]
def cword (n:Int):List UInt8:=match callOf n with|some x=>x.1|none=>[]
abbrev Sep:=Nat->List UInt8 × Nat
def comS:Sep:=fun i=>(if i=0 then [] else [44,32],0)
def ifS:Sep:=fun i=>(if i=0 then [105,102,32] else if i=1 then [32,116,104,101,110,32] else [32,101,108,115,101,32],0)
def quS (n:Int)(nm:List UInt8):Sep:=fun i=>(if i=0 then qword n++[32]++nm++[32,105,110,32] else [58,32],0)
def opS (k:Int):Sep:=fun i=>match opOf k with|some x=>if i=0 then ([],x.2.2.2.1) else ([32]++x.1++[32],x.2.2.2.2)|none=>([],0)
def wPlain (k n:Int)(nm:List UInt8)(K:Sep->St->St)(s:St):St :=
 if k=1 then s.lay (Go.Lib.itoa n)
 else if k=2 then s.lay (Go.Lib.formatBool (n==1))
 else if k=3 then (s.lay [64]).lay (Go.Lib.itoa n)
 else if k=4\/k=23 then s.lay nm
 else if k=22 then s.lay [118,101,114,116,105,99,101,115]
 else K (opS k) s
def wList (x y:List UInt8)(K:Sep->St->St)(s:St):St:=((K comS (s.ent.lay x)).lay y).lea
def wNode (k n:Int)(nm:List UInt8)(K:Sep->St->St)(s:St):St :=
 if k=7 then (K (fun _=>([110,111,116,32],3)) s.ent).lea
 else if k=6 then (K (fun _=>([45],7)) s.ent).lea
 else if k=19 then (K ifS s.ent).lea
 else if k=21 then ((K (quS n nm) s.ent.qent).qlea).lea
 else if k=20 then wList [40] [41] K (s.lay (cword n))
 else if k=24 then wList [40] [41] K (s.lay [97,114,111,117,110,100])
 else if k=25 then wList [123] [125] K s
 else wPlain k n nm K s
def wE (k n:Int)(nm:List UInt8)(asked:Nat)(K:Sep->St->St)(s:St):St :=
 if rowOf k<asked then ((wNode k n nm K (s.ent.lay [40])).lay [41]).lea else wNode k n nm K s
def wFs:Fs->Sep->Nat->St->St
 | ⟨none⟩,_,_,s=>s
 | ⟨some ⟨k,n,nm,a,ks,r⟩⟩,f,i,s=>wFs r f (i+1) (wE k n nm (f i).2 (fun g s=>wFs ks g 0 s) (s.lay (f i).1))
def wEx (e:Ex)(asked:Nat)(s:St):St:=wE e.k e.n e.nm asked (fun g s=>wFs e.kids g 0 s) s
theorem qword_len (n:Int):(qword n).length<=5:=by
 unfold qword;split
 ·rename_i x h
  have hm:=List.mem_of_find?_eq_some h
  have:∀ x ∈ quantsL,x.1.length<=5:=by decide
  exact this x hm
 ·simp
theorem cword_len (n:Int):(cword n).length<=10:=by
 unfold cword;split
 ·rename_i x h
  have hm:=List.mem_of_find?_eq_some h
  have:∀ x ∈ callsL,x.1.length<=10:=by decide
  exact this x hm
 ·simp
abbrev L0 (o:Nat->Nat):Nat->Prop:=fun b=>o b=0
theorem Sl.stp {w w':World}{o o':Nat->Nat}{f:Fs}{ao:Option Addr}(h:Sl w (L0 o) f ao)(s:Step I12 w o w' o'):Sl w' (L0 o') f ao :=
 h.mono (fun i hp hl=>s.block i hl (fun hi=>by rcases hi with hi|hi<;>(have hp:o i=0:=hp;omega))) s.size (fun i hp hl=>(s.lab i hl).trans hp)
theorem Blk.stp {w w':World}{o o':Nat->Nat}{b:Nat}{ob:Obj}(h:Blk w o 0 b ob)(s:Step I12 w o w' o'):Blk w' o' 0 b ob:=h.step s (by simp[I12])
theorem Step.ofB {I:Nat->Prop}{w w':World}(o:Nat->Nat)(b:Below w.heap.size w w'):Step I w o w' o:=⟨b.os,b.tape,b.output,b.size,fun _ _=>rfl,fun k hk _=>b.block k hk⟩
theorem boxStep (I:Nat->Prop)(w:World)(o:Nat->Nat)(ob:Obj):Step I w o (w.alloc ob) (newLab w o 0):=((Step.refl I w o).labelled 0).alloc ob
theorem boxBlk (w:World)(o:Nat->Nat)(cs:Array Value)(t:TypeId):Blk (w.alloc (.cells cs t)) (newLab w o 0) 0 w.heap.size (.cells cs t (0,0)):=⟨heap_alloc_new w _,newLab_new (Nat.le_refl _)⟩
def okP (k n:Int)(nm:List UInt8)(m:Nat):Prop:=numB k n=true/\namB k nm=true/\kidB k n m=true/\nm.length<=12/\-9223372036854775808<=n/\n<=9223372036854775807
def Fs.okA:Fs->Prop
 | ⟨none⟩=>True
 | ⟨some ⟨k,n,nm,_,ks,r⟩⟩=>okP k n nm ks.len/\ks.okA/\r.okA
def Ex.okA (e:Ex):Prop:=okP e.k e.n e.nm e.kids.len/\e.kids.okA
def Fs.ex (x:Ex)(r:Fs):Fs:=.cons x.k x.n x.nm x.a x.kids r
theorem okA_ex {x:Ex}{r:Fs}(h:(Fs.ex x r).okA):x.okA/\r.okA:=⟨⟨h.1,h.2.1⟩,h.2.2⟩
theorem size_ex (x:Ex)(r:Fs):(Fs.ex x r).size=x.kids.size+r.size+1:=rfl
theorem len_ex (x:Ex)(r:Fs):(Fs.ex x r).len=r.len+1:=rfl
theorem len1:∀ {f:Fs},f.len=1->∃x,f=Fs.ex x .nil
 | ⟨none⟩,h=>by cases h
 | ⟨some ⟨k,n,nm,a,ks,⟨none⟩⟩⟩,h=>⟨⟨k,n,nm,a,ks⟩,rfl⟩
 | ⟨some ⟨_,_,_,_,_,(⟨some ⟨_,_,_,_,_,_⟩⟩)⟩⟩,h=>by simp[Fs.len] at h
theorem len2:∀ {f:Fs},f.len=2->∃x y,f=Fs.ex x (Fs.ex y .nil)
 | ⟨none⟩,h=>by cases h
 | ⟨some ⟨k,n,nm,a,ks,r⟩⟩,h=>by
  obtain⟨y,rfl⟩:=len1 (f:=r) (by simp only[Fs.len] at h;omega);exact⟨⟨k,n,nm,a,ks⟩,y,rfl⟩
theorem len3:∀ {f:Fs},f.len=3->∃x y z,f=Fs.ex x (Fs.ex y (Fs.ex z .nil))
 | ⟨none⟩,h=>by cases h
 | ⟨some ⟨k,n,nm,a,ks,r⟩⟩,h=>by
  obtain⟨y,z,rfl⟩:=len2 (f:=r) (by simp only[Fs.len] at h;omega);exact⟨⟨k,n,nm,a,ks⟩,y,z,rfl⟩
theorem Sl.kidP {w:World}{P:Nat->Prop}{x r:Fs}{y:Ex}{ao:Option Addr}(h:Sl w P (x.app (Fs.ex y r)) ao)(i:Nat)(hi:x.len=i):∃b off ak ck,ao=some ⟨b,off,none⟩/\w.cell? ⟨b,off+i*5,none⟩=some (.int .i64 y.k)/\w.cell? ⟨b,off+i*5+1,none⟩=some (.int .i64 y.n)/\w.cell? ⟨b,off+i*5+2,none⟩=some (stv y.nm)/\w.cell? ⟨b,off+i*5+3,none⟩=some (.slice ak y.kids.len ck)/\w.cell? ⟨b,off+i*5+4,none⟩=some (.int .i64 y.a)/\Sl w P y.kids ak:=by
 subst hi;rcases h with h|⟨b,off,zs,rfl,hp,hlt,hc,hf⟩
 ·cases x using Fs.on with
  | nil=>cases h
  | cons k n nm a ks r=>cases h
 ·obtain⟨zx,zy,rfl,h3,h4⟩:=Fc.split hf;have hl:=h3.len;obtain⟨ak,ck,ys,rfl,h5,h6⟩:=h4;have hc':∀ j u,(.int .i64 y.k::.int .i64 y.n::stv y.nm::.slice ak y.kids.len ck::.int .i64 y.a::ys:List Value)[j]?=some u->w.cell? ⟨b,off+x.len*5+j,none⟩=some u:=fun j u hu=>by
   have:=hc (x.len*5+j) u (by rw[List.getElem?_append_right (by omega),hl,Nat.add_sub_cancel_left];exact hu)
   rw[Nat.add_assoc];exact this
  exact⟨b,off,ak,ck,rfl,hc' 0 _ rfl,hc' 1 _ rfl,hc' 2 _ rfl,hc' 3 _ rfl,hc' 4 _ rfl,h5⟩
def lastI:List (List UInt8)->List UInt8->Nat->Int->Int
 | [],_,_,d=>d
 | b::r,nm,i,d=>lastI r nm (i+1) (if b=nm then (i:Int) else d)
def innB (pk:Int)(pn:List UInt8)(i:Nat)(bd:List (List UInt8)):List (List UInt8):=if pk=21/\i=1 then bd++[pn] else bd
def ofF:Fs->Int->List UInt8->Nat->List (List UInt8)->Fs
 | ⟨none⟩,_,_,_,_=>.nil
 | ⟨some ⟨k,n,nm,a,ks,r⟩⟩,pk,pn,i,bd =>
  if k=4 then .cons 5 (lastI (innB pk pn i bd) nm 0 n) [] 0 .nil (ofF r pk pn (i+1) bd)
  else .cons k n (if k=23 then nm else []) 0 (ofF ks k nm 0 (innB pk pn i bd)) (ofF r pk pn (i+1) bd)
def ofE (e:Ex)(bd:List (List UInt8)):Ex :=
 if e.k=4 then ⟨5,lastI bd e.nm 0 e.n,[],0,.nil⟩ else ⟨e.k,e.n,if e.k=23 then e.nm else [],0,ofF e.kids e.k e.nm 0 bd⟩
theorem of_cons (k n:Int)(nm:List UInt8)(a:Int)(ks r:Fs)(pk:Int)(pn:List UInt8)(i:Nat)(bd:List (List UInt8)) :
  ofF (.cons k n nm a ks r) pk pn i bd=Fs.ex (ofE ⟨k,n,nm,a,ks⟩ (innB pk pn i bd)) (ofF r pk pn (i+1) bd):=by
 conv=>lhs;unfold ofF
 unfold ofE;simp only;split<;>rfl
theorem ofF_len:∀ (f:Fs) (pk:Int) (pn:List UInt8) (i:Nat) (bd:List (List UInt8)),(ofF f pk pn i bd).len=f.len
 | ⟨none⟩,pk,pn,i,bd=>rfl
 | ⟨some ⟨k,n,nm,a,ks,r⟩⟩,pk,pn,i,bd=>by
  have h:=of_cons k n nm a ks r pk pn i bd;show (ofF (.cons k n nm a ks r) pk pn i bd).len=r.len+1;rw[h];show (ofF r pk pn (i+1) bd).len+1=_;rw[ofF_len r pk pn (i+1) bd]
theorem ofF_short:∀ (f:Fs) (pk:Int) (pn:List UInt8) (i:Nat) (bd:List (List UInt8)),f.short->(ofF f pk pn i bd).short
 | ⟨none⟩,pk,pn,i,bd,h=>trivial
 | ⟨some ⟨k,n,nm,a,ks,r⟩⟩,pk,pn,i,bd,h=>by
  have h2:=ofF_short r pk pn (i+1) bd h.2.2.2;have h1:=ofF_short ks k nm 0 (innB pk pn i bd) h.2.2.1;unfold ofF;split
  ·exact⟨by simp,by show 0<=_;omega,trivial,h2⟩
  ·refine⟨?_,by rw[ofF_len];exact h.2.1,h1,h2⟩;split
   ·exact h.1
   ·simp
theorem ofE_len (e:Ex)(bd:List (List UInt8)):(ofE e bd).kids.len<=e.kids.len:=by
 unfold ofE;split
 ·show 0<=_;omega
 ·rw[ofF_len];exact Nat.le_refl _
theorem ofE_short (e:Ex)(bd:List (List UInt8))(h:e.kids.short):(ofE e bd).kids.short:=by
 unfold ofE;split
 ·trivial
 ·exact ofF_short _ _ _ _ _ h
theorem ofE_nm (e:Ex)(bd:List (List UInt8))(h:e.nm.length<=maxLen):(ofE e bd).nm.length<=maxLen:=by
 unfold ofE;split
 ·simp
 ·simp only;split
  ·exact h
  ·simp
theorem Sl.kidQ {P:Nat->Prop}{w:World}{x r:Fs}{k n:Int}{nm:List UInt8}{a:Int}{ks:Fs}{ao:Option Addr}(h:Sl w P (x.app (.cons k n nm a ks r)) ao):∃b off ak ck,ao=some ⟨b,off,none⟩/\b<w.heap.size/\P b/\w.cell? ⟨b,off+x.len*5,none⟩=some (.int .i64 k)/\w.cell? ⟨b,off+x.len*5+1,none⟩=some (.int .i64 n)/\w.cell? ⟨b,off+x.len*5+2,none⟩=some (stv nm)/\w.cell? ⟨b,off+x.len*5+3,none⟩=some (.slice ak ks.len ck)/\w.cell? ⟨b,off+x.len*5+4,none⟩=some (.int .i64 a)/\Sl w P ks ak:=by
 rcases h with h|⟨b,off,zs,rfl,hp,hlt,hc,hf⟩
 ·cases x using Fs.on with
  | nil=>cases h
  | cons k n nm a ks r=>cases h
 ·obtain⟨zx,zy,rfl,h3,h4⟩:=Fc.split hf;have hl:=h3.len;obtain⟨ak,ck,ys,rfl,h5,h6⟩:=h4;have hc':∀ j u,(.int .i64 k::.int .i64 n::stv nm::.slice ak ks.len ck::.int .i64 a::ys:List Value)[j]?=some u->w.cell? ⟨b,off+x.len*5+j,none⟩=some u:=fun j u hu=>by
   have:=hc (x.len*5+j) u (by rw[List.getElem?_append_right (by omega),hl,Nat.add_sub_cancel_left];exact hu)
   rw[Nat.add_assoc];exact this
  exact⟨b,off,ak,ck,rfl,hlt,hp,hc' 0 _ rfl,hc' 1 _ rfl,hc' 2 _ rfl,hc' 3 _ rfl,hc' 4 _ rfl,h5⟩
abbrev SlA (w:World)(f:Fs)(ao:Option Addr):Prop:=Sl w (fun _=>True) f ao
theorem consR_inl {x:Tk}{X:Res}{e:Nat × Nat}(h:consR x X=.inl e):X=.inl e:=by
 cases X with
 | inl e'=>exact h
 | inr l=>cases h
theorem consR_inr {x:Tk}{X:Res}{ts:List Tk}(h:consR x X=.inr ts):∃us,X=.inr us/\ts=x::us:=by
 cases X with
 | inl e=>cases h
 | inr l =>
  refine⟨l,rfl,?_⟩;injection h with h
  exact h.symm
theorem shut_inl {k:Nat}{t:List UInt8}{a e q:Nat}{X:Res}(h:shutP k t a X=.inl (e,q)):(k≠0/\ptok k t a=.inl e/\q=a)\/(X=.inl (e,q)/\(k=0\/∃x,ptok k t a=.inr x)):=by
 unfold shutP at h;by_cases hk:k=0
 ·rw[if_pos hk] at h;exact .inr ⟨h,.inl hk⟩
 ·rw[if_neg hk] at h;cases hp:ptok k t a with
  | inl e' =>
   rw[hp] at h;simp only at h;injection h with h
   injection h with h1 h2
   exact .inl ⟨hk,by rw[h1],h2.symm⟩
  | inr x =>
   rw[hp] at h;exact .inr ⟨consR_inl h,.inr ⟨x,rfl⟩⟩
theorem shut_inr {k:Nat}{t:List UInt8}{a:Nat}{X:Res}{ts:List Tk}(h:shutP k t a X=.inr ts):(k=0/\X=.inr ts)\/(k≠0/\∃x us,ptok k t a=.inr x/\X=.inr us/\ts=x::us):=by
 unfold shutP at h;by_cases hk:k=0
 ·rw[if_pos hk] at h;exact .inl ⟨hk,h⟩
 ·rw[if_neg hk] at h;cases hp:ptok k t a with
  | inl e'=>rw[hp] at h;cases h
  | inr x =>
   rw[hp] at h;obtain⟨us,h1,h2⟩:=consR_inr h;exact .inr ⟨hk,x,us,rfl,h1,h2⟩
theorem err_place (k:Nat)(t:List UInt8)(a p:Nat)(l:List UInt8)(e q:Nat)(h:lexL k t a p l=.inl (e,q)):(k≠0/\q=a)\/(p<=q/\q<p+l.length):=by
 induction l generalizing k t a p with
 | nil =>
  rcases shut_inl h with ⟨h1,_,h2⟩|⟨h1,_⟩
  ·exact .inl ⟨h1,h2⟩
  ·cases h1
 | cons c r ih =>
  simp only[List.length_cons];cases ht:tks k t c.toNat
  ·rw[lexL_no ht] at h;rcases shut_inl h with ⟨h1,_,h2⟩|⟨h1,_⟩
   ·exact .inl ⟨h1,h2⟩
   ·rcases ih _ _ _ _ h1 with ⟨_,h2⟩|⟨h2,h3⟩
    ·exact .inr ⟨by omega,by omega⟩
    ·exact .inr ⟨by omega,by omega⟩
  ·rw[lexL_yes ht] at h;rcases ih _ _ _ _ h with h2|⟨h2,h3⟩
   ·exact .inl h2
   ·exact .inr ⟨by omega,by omega⟩
theorem err_kind (k:Nat)(t:List UInt8)(a p:Nat)(l:List UInt8)(e q:Nat)(h:lexL k t a p l=.inl (e,q)):e=110\/e=111\/e=112:=by
 induction l generalizing k t a p with
 | nil =>
  rcases shut_inl h with ⟨h1,h2,_⟩|⟨h1,_⟩
  ·exact ptok_err h2
  ·cases h1
 | cons c r ih =>
  cases ht:tks k t c.toNat
  ·rw[lexL_no ht] at h;rcases shut_inl h with ⟨h1,h2,_⟩|⟨h1,_⟩
   ·exact ptok_err h2
   ·exact ih _ _ _ _ h1
  ·rw[lexL_yes ht] at h;exact ih _ _ _ _ h
theorem scan_short {l:List UInt8}(h:l.length<=2000):scanA l=lexA l:=by
 unfold scanA;rw[if_neg (by omega)]
theorem scan_err {l:List UInt8}{e q:Nat}(h:scanA l=.inl (e,q))(he:e≠113):l.length<=2000/\lexA l=.inl (e,q)/\q<l.length/\(e=110\/e=111\/e=112):=by
 unfold scanA at h;split at h
 ·injection h with h
  injection h with h1 h2
  omega
 ·refine⟨by omega,h,?_,err_kind _ _ _ _ _ _ _ h⟩;rcases err_place _ _ _ _ _ _ _ h with ⟨h1,_⟩|⟨_,h1⟩
  ·exact absurd rfl h1
  ·omega
theorem ptok_inr {k:Nat}{t:List UInt8}{a:Nat}{x:Tk}(h:ptok k t a=.inr x):x.a=a/\∀ a',ptok k t a'=.inr ⟨x.k,x.n,x.t,a'⟩:=by
 unfold ptok at h ⊢;split at h
 ·unfold wrdT at h ⊢;split at h
  ·rename_i h1
   injection h with h
   subst h;exact⟨rfl,fun a'=>by rw[if_pos h1]⟩
  ·rename_i h1
   split at h
   ·rename_i h2
    injection h with h
    subst h;exact⟨rfl,fun a'=>by rw[if_neg h1,if_pos h2]⟩
   ·cases h
 ·unfold numT at h ⊢;cases ha:Lib.atoiAll t with
  | ok v =>
   rw[ha] at h;simp only at h ⊢;split at h
   ·cases h
   ·rename_i h1
    injection h with h
    subst h;exact⟨rfl,fun a'=>by rw[if_neg h1]⟩
  | _=>rw[ha] at h;cases h
 ·unfold sgnT at h ⊢;split at h
  ·cases h
  ·rename_i h1
   injection h with h
   subst h;exact⟨rfl,fun a'=>by rw[if_neg h1]⟩
 ·cases h
theorem tok_places (k:Nat)(t:List UInt8)(a p:Nat)(l:List UInt8)(ts:List Tk)(h:lexL k t a p l=.inr ts)(ha:a<=p):∀ x,x ∈ ts->x.a<=p+l.length:=by
 induction l generalizing k t a p ts with
 | nil =>
  intro x hx;rcases shut_inr h with ⟨rfl,h1⟩|⟨hk,y,us,hp,h1,h2⟩
  ·injection h1 with h1
   subst h1;simp at hx;subst hx;exact Nat.le_refl _
  ·injection h1 with h1
   subst h1 h2;simp at hx;rcases hx with rfl|rfl
   ·have:=(ptok_inr hp).1
    simp;omega
   ·exact Nat.le_refl _
 | cons c r ih =>
  have e1:p+(c::r).length=p+1+r.length:=by simp;omega
  rw[e1];cases ht:tks k t c.toNat
  ·rw[lexL_no ht] at h;rcases shut_inr h with ⟨rfl,h1⟩|⟨hk,y,us,hp,h1,h2⟩
   ·exact ih _ _ _ _ _ h1 (by omega)
   ·subst h2;intro x hx;rcases List.mem_cons.1 hx with rfl|hx
    ·have:=(ptok_inr hp).1
     omega
    ·exact ih _ _ _ _ _ h1 (by omega) x hx
  ·rw[lexL_yes ht] at h;exact ih _ _ _ _ _ h (by omega)
theorem tok_count (k:Nat)(t:List UInt8)(a p:Nat)(l:List UInt8)(ts:List Tk)(h:lexL k t a p l=.inr ts):ts.length<=l.length+2/\0<ts.length/\(k=0->ts.length<=l.length+1):=by
 induction l generalizing k t a p ts with
 | nil =>
  rcases shut_inr h with ⟨rfl,h1⟩|⟨hk,y,us,hp,h1,h2⟩
  ·injection h1 with h1
   subst h1;simp
  ·injection h1 with h1
   subst h1 h2;simp[hk]
 | cons c r ih =>
  simp only[List.length_cons];cases ht:tks k t c.toNat
  ·rw[lexL_no ht] at h;rcases shut_inr h with ⟨rfl,h1⟩|⟨hk,y,us,hp,h1,h2⟩
   ·have:=ih _ _ _ _ _ h1
    exact⟨by omega,by omega,fun _=>by omega⟩
   ·subst h2
    have:=ih _ _ _ _ _ h1
    simp only[List.length_cons];exact⟨by omega,by omega,fun h=>absurd h hk⟩
  ·rw[lexL_yes ht] at h
   have:=ih _ _ _ _ _ h
   exact⟨by omega,by omega,fun h=>by have:=this.2.2 h;omega⟩
theorem scan_ok {l:List UInt8}{ts:List Tk}(h:scanA l=.inr ts):l.length<=2000/\lexA l=.inr ts/\ts.length<=2001/\ts.length<=l.length+1/\0<ts.length/\(∀ x,x ∈ ts->x.a<=l.length):=by
 unfold scanA at h;split at h
 ·cases h
 ·have h1:=tok_count _ _ _ _ _ _ h;have h2:=tok_places _ _ _ _ _ _ h (Nat.le_refl _);have h3:=h1.2.2 rfl;exact⟨by omega,h,by omega,h3,h1.2.1,fun x hx=>by have:=h2 x hx;omega⟩
theorem scan_err_pos {l:List UInt8}{e q:Nat}(h:scanA l=.inl (e,q)):e≠0:=by
 by_cases he:e=113
 ·omega
 ·have:=(scan_err h he).2.2.2
  omega
def WFT (ts:List Tk):Prop:=∃e,ts.getLast?=some e/\e.k=0/\e.t=[]
theorem WFT.tail {x:Tk}{r:List Tk}(h:WFT (x::r))(hx:x.t≠[]\/x.k≠0):WFT r:=by
 obtain⟨e,h1,h2,h3⟩:=h;cases r with
 | nil =>
  simp at h1;subst h1;rcases hx with hx|hx
  ·exact absurd h3 hx
  ·exact absurd h2 hx
 | cons y l=>exact⟨e,by rw[List.getLast?_cons_cons] at h1;exact h1,h2,h3⟩
theorem WFT.ne {ts:List Tk}(h:WFT ts):ts≠[]:=by
 obtain⟨e,h1,_⟩:=h;intro e2;subst e2;cases h1
def Fine {α:Type}(b:Nat)(r:Rs α):Prop :=
 match r with
 | ⟨none⟩=>False
 | ⟨some (.inl (_,_))⟩=>True
 | ⟨some (.inr (_,t))⟩=>WFT t/\t.length<b
theorem Fine.bind {α β:Type}{b c:Nat}{r:Rs α}{f:α->List Tk->Rs β}(h:Fine b r)(hf:∀ x t,WFT t->t.length<b->Fine c (f x t)):Fine c (r.bind f):=by
 cases r using Rs.on with
 | out=>exact h.elim
 | bad e a=>exact trivial
 | ok x t=>exact hf x t h.1 h.2
theorem fine_pass {s:List UInt8}(hs:s≠[]){ts:List Tk}(h:WFT ts):Fine ts.length (passT s ts):=by
 cases ts with
 | nil=>exact absurd rfl h.ne
 | cons x r =>
  simp only[passT];by_cases hx:x.t=s
  ·rw[if_pos hx];exact⟨h.tail (.inl (by rw[hx];exact hs)),by simp⟩
  ·rw[if_neg hx];exact trivial
theorem fine_kind {k:Nat}(hk:k≠0){ts:List Tk}(h:WFT ts):Fine ts.length (passK k ts):=by
 cases ts with
 | nil=>exact absurd rfl h.ne
 | cons x r =>
  simp only[passK];by_cases hx:x.k=k
  ·rw[if_pos hx];exact⟨h.tail (.inr (by rw[hx];exact hk)),by simp⟩
  ·rw[if_neg hx];exact trivial
theorem fine_enter {s:List UInt8}(hs:s≠[])(o:Nat){ts:List Tk}(h:WFT ts):Fine ts.length (enterT s o ts):=by
 cases ts with
 | nil=>exact absurd rfl h.ne
 | cons x r =>
  simp only[enterT];by_cases hx:x.t=s
  ·rw[if_pos hx];by_cases ho:o=64
   ·rw[if_pos ho];exact trivial
   ·rw[if_neg ho];exact⟨h.tail (.inl (by rw[hx];exact hs)),by simp⟩
  ·rw[if_neg hx];exact trivial
section
variable {rec:Rdr}{n:Nat}
theorem fine_rec1 (H:∀ row o q ts,row<=8->WFT ts->10*ts.length+(9-row)<=n->Fine ts.length (rec row o q ts)){o q:Nat}{ts:List Tk}(h:WFT ts)(hn:10*ts.length+8<=n):Fine ts.length (rec 1 o q ts):=H 1 o q ts (by omega) h (by omega)
theorem fine_argsL (H:∀ row o q ts,row<=8->WFT ts->10*ts.length+(9-row)<=n->Fine ts.length (rec row o q ts)):∀ (j:Nat) (o q:Nat) (acc:Fs) (ts:List Tk) (b:Nat),WFT ts->10*ts.length+8<=n->ts.length<b->Fine b (argsL rec j o q acc ts)
 | 0,o,q,acc,ts,b,h,hn,hb=>⟨h,hb⟩
 | j+1,o,q,acc,ts,b,h,hn,hb=>by
  unfold argsL;refine(fine_pass (by simp) h).bind fun _ t1 h1 l1=>?_;refine(fine_rec1 H h1 (by omega)).bind fun e t2 h2 l2=>?_;exact fine_argsL H j o q _ t2 b h2 (by omega) (by omega)
theorem fine_args (H:∀ row o q ts,row<=8->WFT ts->10*ts.length+(9-row)<=n->Fine ts.length (rec row o q ts))(many o q:Nat){ts:List Tk}(h:WFT ts)(hn:10*ts.length<=n):Fine ts.length (argsR rec many o q ts):=by
 unfold argsR;refine(fine_enter (by simp) o h).bind fun _ t1 h1 l1=>?_;refine(fine_rec1 H h1 (by omega)).bind fun e t2 h2 l2=>?_;refine(fine_argsL H (many-1) (o+1) q _ t2 (t2.length+1) h2 (by omega) (by omega)).bind fun ks t3 h3 l3=>?_;refine(fine_pass (by simp) h3).bind fun _ t4 h4 l4=>?_;exact⟨h4,by omega⟩
theorem fine_choice (H:∀ row o q ts,row<=8->WFT ts->10*ts.length+(9-row)<=n->Fine ts.length (rec row o q ts))(o q:Nat){ts:List Tk}(h:WFT ts)(hn:10*ts.length<=n):Fine ts.length (choiceR rec o q ts):=by
 unfold choiceR;refine(fine_enter (by simp) o h).bind fun _ t1 h1 l1=>?_;refine(fine_rec1 H h1 (by omega)).bind fun e t2 h2 l2=>?_;refine(fine_pass (by simp) h2).bind fun _ t3 h3 l3=>?_;refine(fine_rec1 H h3 (by omega)).bind fun e t4 h4 l4=>?_;refine(fine_pass (by simp) h4).bind fun _ t5 h5 l5=>?_;refine(fine_rec1 H h5 (by omega)).bind fun e t6 h6 l6=>?_;exact⟨h6,by omega⟩
theorem fine_memL (H:∀ row o q ts,row<=8->WFT ts->10*ts.length+(9-row)<=n->Fine ts.length (rec row o q ts)):∀ (m:Nat) (o q:Nat) (acc:Fs) (ts:List Tk) (b:Nat),WFT ts->10*ts.length+8<=n->ts.length<m->ts.length<b->Fine b (memL rec m o q acc ts)
 | 0,o,q,acc,ts,b,h,hn,hm,hb=>by omega
 | m+1,o,q,acc,ts,b,h,hn,hm,hb=>by
  cases ts with
  | nil=>exact absurd rfl h.ne
  | cons x r =>
   unfold memL;simp only[List.length_cons] at hn hm hb;by_cases hx:x.t=[44]
   ·simp only[hx,if_true];have hr:=h.tail (.inl (by rw[hx];simp));refine(fine_rec1 H hr (by omega)).bind fun e t2 h2 l2=>?_;exact fine_memL H m o q _ t2 b h2 (by omega) (by omega) (by omega)
   ·simp only[hx,if_false];exact⟨h,by simpa using hb⟩
theorem fine_mem (H:∀ row o q ts,row<=8->WFT ts->10*ts.length+(9-row)<=n->Fine ts.length (rec row o q ts))(m o q:Nat){ts:List Tk}(h:WFT ts)(hn:10*ts.length+8<=n)(hm:ts.length<m):Fine (ts.length+1) (memR rec m o q ts):=by
 cases ts with
 | nil=>exact absurd rfl h.ne
 | cons x r =>
  unfold memR;by_cases hx:x.t=[125]
  ·simp only[hx,if_true];exact⟨h,by omega⟩
  ·simp only[hx,if_false];refine(fine_rec1 H h hn).bind fun e t1 h1 l1=>?_;exact fine_memL H m o q _ t1 _ h1 (by omega) (by omega) (by omega)
theorem fine_set (H:∀ row o q ts,row<=8->WFT ts->10*ts.length+(9-row)<=n->Fine ts.length (rec row o q ts))(m o q:Nat){ts:List Tk}(h:WFT ts)(hn:10*ts.length<=n)(hm:ts.length<m):Fine ts.length (setR rec m o q ts):=by
 cases ts with
 | nil=>exact absurd rfl h.ne
 | cons x r =>
  unfold setR;simp only[List.length_cons] at hn hm;by_cases hk:x.k=2
  ·simp only[hk,if_true];exact⟨h.tail (.inr (by rw[hk];decide)),by simp⟩
  simp only[hk,if_false];by_cases hv:x.t=[118,101,114,116,105,99,101,115]
  ·simp only[hv,if_true];exact⟨h.tail (.inl (by rw[hv];simp)),by simp⟩
  simp only[hv,if_false];by_cases ha:x.t=[97,114,111,117,110,100]
  ·simp only[ha,if_true];have hr:=h.tail (.inl (by rw[ha];simp));refine(fine_args H 1 o q hr (by omega)).bind fun ks t h1 l1=>?_;exact⟨h1,by simp;omega⟩
  simp only[ha,if_false];refine(fine_enter (by simp) o h).bind fun a t1 h1 l1=>?_;simp only[List.length_cons] at l1;refine(fine_mem H m (o+1) q h1 (by omega) (by omega)).bind fun ks t2 h2 l2=>?_;refine(fine_pass (by simp) h2).bind fun _ t3 h3 l3=>?_;exact⟨h3,by simp;omega⟩
theorem fine_quant (H:∀ row o q ts,row<=8->WFT ts->10*ts.length+(9-row)<=n->Fine ts.length (rec row o q ts))(m:Nat){s:List UInt8}(hs:s≠[])(k o q:Nat){ts:List Tk}(h:WFT ts)(hn:10*ts.length<=n)(hm:ts.length<m):Fine ts.length (quantR rec m s k o q ts):=by
 cases ts with
 | nil=>exact absurd rfl h.ne
 | cons x r =>
  unfold quantR;by_cases h4:q=4
  ·simp only[h4,if_true];exact trivial
  simp only[h4,if_false];refine(fine_enter hs o h).bind fun _ t1 h1 l1=>?_;refine(fine_kind (by decide) h1).bind fun _ t2 h2 l2=>?_;refine(fine_pass (by simp) h2).bind fun _ t3 h3 l3=>?_;refine(fine_set H m (o+1) (q+1) h3 (by omega) (by omega)).bind fun e t4 h4 l4=>?_;refine(fine_pass (by simp) h4).bind fun _ t5 h5 l5=>?_;refine(fine_rec1 H h5 (by omega)).bind fun e t6 h6 l6=>?_;exact⟨h6,by omega⟩
theorem fine_atom (H:∀ row o q ts,row<=8->WFT ts->10*ts.length+(9-row)<=n->Fine ts.length (rec row o q ts))(m o q:Nat){ts:List Tk}(h:WFT ts)(hn:10*ts.length<=n)(hm:ts.length<m):Fine ts.length (atomR rec m o q ts):=by
 cases ts with
 | nil=>exact absurd rfl h.ne
 | cons x r =>
  unfold atomR;have hl:r.length<(x::r).length:=by simp
  simp only;by_cases h1:x.k=1
  ·simp only[h1,if_true];exact⟨h.tail (.inr (by rw[h1];decide)),hl⟩
  simp only[h1,if_false];by_cases h2:x.k=2
  ·simp only[h2,if_true];exact⟨h.tail (.inr (by rw[h2];decide)),hl⟩
  simp only[h2,if_false];by_cases h3:x.t=[102,97,108,115,101]
  ·simp only[h3,if_true];exact⟨h.tail (.inl (by rw[h3];simp)),hl⟩
  simp only[h3,if_false];by_cases h4:x.t=[116,114,117,101]
  ·simp only[h4,if_true];exact⟨h.tail (.inl (by rw[h4];simp)),hl⟩
  simp only[h4,if_false];by_cases h5:x.t=[64]
  ·simp only[h5,if_true];have hr:=h.tail (.inl (by rw[h5];simp));refine(fine_kind (by decide) hr).bind fun _ t2 k2 l2=>?_;exact⟨k2,by omega⟩
  simp only[h5,if_false];by_cases h6:x.t=[40]
  ·simp only[h6,if_true];refine(fine_args H 1 o q h hn).bind fun ks t1 k1 l1=>?_;exact⟨k1,l1⟩
  simp only[h6,if_false];by_cases h7:x.t=[105,102]
  ·simp only[h7,if_true];exact fine_choice H o q h hn
  simp only[h7,if_false];cases hc:callAt x.t with
  | some z =>
   obtain⟨a,k,many⟩:=z;have hx:x.t≠[]:=fun e=>by rw[e] at hc;cases hc
   have hr:=h.tail (.inl hx);simp only[List.length_cons] at hn;refine(fine_args H many o q hr (by omega)).bind fun ks t1 k1 l1=>?_;exact⟨k1,by omega⟩
  | none =>
   cases hq:quantAt x.t with
   | some z =>
    obtain⟨a,k⟩:=z;have hx:x.t≠[]:=fun e=>by rw[e] at hq;cases hq
    exact fine_quant H m hx k o q h hn hm
   | none=>exact trivial
theorem fine_pref (H:∀ row o q ts,row<=8->WFT ts->10*ts.length+(9-row)<=n->Fine ts.length (rec row o q ts)){s:List UInt8}(hs:s≠[])(k:Int)(row o q:Nat)(hrow:row<=7){ts:List Tk}(h:WFT ts)(hn:10*ts.length+(8-row)<=n):Fine ts.length (prefR rec s k row o q ts):=by
 cases ts with
 | nil=>exact absurd rfl h.ne
 | cons x r =>
  unfold prefR;by_cases hx:x.t=s
  ·simp only[hx,if_true];by_cases ho:o=64
   ·simp only[ho,if_true];exact trivial
   ·simp only[ho,if_false];have hr:=h.tail (.inl (by rw[hx];exact hs));simp only[List.length_cons] at hn;refine(H row (o+1) q r (by omega) hr (by omega)).bind fun e t2 h2 l2=>?_;exact⟨h2,by simp;omega⟩
  ·simp only[hx,if_false];exact H (row+1) o q _ (by omega) h (by omega)
theorem fine_chainL (H:∀ row o q ts,row<=8->WFT ts->10*ts.length+(9-row)<=n->Fine ts.length (rec row o q ts)):∀ (m row o q:Nat) (left:Ex) (ts:List Tk) (b:Nat),WFT ts->10*ts.length+8<=n->ts.length<m->ts.length<b->Fine b (chainL rec m row o q left ts)
 | 0,row,o,q,left,ts,b,h,hn,hm,hb=>by omega
 | m+1,row,o,q,left,ts,b,h,hn,hm,hb=>by
  cases ts with
  | nil=>exact absurd rfl h.ne
  | cons x r =>
   unfold chainL;simp only;cases hz:opAt x.t row with
   | none=>exact⟨h,hb⟩
   | some z =>
    obtain⟨zt,zk,zr,zl,zz⟩:=z;have hx:x.t≠[]:=fun e=>by
     have h1:=List.mem_of_find?_eq_some hz;have h2:=List.find?_some hz;simp at h2;have h3:=h2.1;rw[e] at h3;simp only[opsL,List.mem_cons,List.not_mem_nil,or_false,Prod.mk.injEq] at h1;rcases h1 with ⟨h,_⟩|⟨h,_⟩|⟨h,_⟩|⟨h,_⟩|⟨h,_⟩|⟨h,_⟩|⟨h,_⟩|⟨h,_⟩|⟨h,_⟩|⟨h,_⟩|⟨h,_⟩<;>(rw[h3] at h;cases h)
    have hz8:zz<=8:=by
     have h1:=List.mem_of_find?_eq_some hz;simp only[opsL,List.mem_cons,List.not_mem_nil,or_false,Prod.mk.injEq] at h1;rcases h1 with h|h|h|h|h|h|h|h|h|h|h<;>(have:=h.2.2.2.2;omega)
    have hr:=h.tail (.inl hx);simp only[List.length_cons] at hn hm hb;refine(H zz o q r hz8 hr (by omega)).bind fun e t2 h2 l2=>?_;by_cases hlt:row<zl
    ·simp only[hlt,if_true];exact⟨h2,by omega⟩
    ·simp only[hlt,if_false];exact fine_chainL H m row o q _ t2 b h2 (by omega) (by omega) (by omega)
end
theorem fine_part:∀ (n row o q:Nat) (ts:List Tk),row<=8->WFT ts->10*ts.length+(9-row)<=n->Fine ts.length (partF n row o q ts)
 | 0,row,o,q,ts,hr,h,hn=>by
  have:=List.length_pos_iff.2 h.ne
  omega
 | n+1,row,o,q,ts,hr,h,hn=>by
  have H:=fine_part n;have hp:=List.length_pos_iff.2 h.ne;unfold partF;by_cases h3:row=3
  ·simp only[h3,if_true];exact fine_pref H (by simp) 7 3 o q (by omega) h (by omega)
  simp only[h3,if_false];by_cases h7:row=7
  ·simp only[h7,if_true];exact fine_pref H (by simp) 6 7 o q (by omega) h (by omega)
  simp only[h7,if_false];by_cases h8:row=8
  ·simp only[h8,if_true];exact fine_atom H n o q h (by omega) (by omega)
  simp only[h8,if_false];refine(H (row+1) o q ts (by omega) h (by omega)).bind fun l t h1 l1=>?_;exact fine_chainL H n row o q l t _ h1 (by omega) (by omega) l1
theorem read_fine {n:Nat}{ts:List Tk}(h:WFT ts)(hn:10*ts.length+8<=n):readF n ts≠.out:=by
 intro e;have F:Fine ts.length (readF n ts)\/readF n ts≠.out:=by
  refine .inr ?_
  have:=fine_part n 1 0 0 ts (by omega) h (by omega)
  unfold readF;cases hr:partF n 1 0 0 ts using Rs.on with
  | out=>rw[hr] at this;exact this.elim
  | bad e a=>intro h;cases h
  | ok x t =>
   rw[hr] at this;cases t with
   | nil=>exact absurd rfl this.1.ne
   | cons y l =>
    simp only[Rs.bind];by_cases hy:y.k=0
    ·simp[hy]
    ·simp[hy]
 rcases F with F|F
 ·rw[e] at F;exact F
 ·exact F e
theorem lex_wft (k:Nat)(t:List UInt8)(a p:Nat)(l:List UInt8)(ts:List Tk)(h:lexL k t a p l=.inr ts):WFT ts:=by
 induction l generalizing k t a p ts with
 | nil =>
  unfold lexL at h;rcases shut_inr h with ⟨_,h2⟩|⟨_,x,us,_,h2,rfl⟩
  ·unfold endR at h2;injection h2 with h2;subst h2;exact⟨_,rfl,rfl,rfl⟩
  ·unfold endR at h2;injection h2 with h2;subst h2;exact⟨_,rfl,rfl,rfl⟩
 | cons c r ih =>
  unfold lexL at h;split at h
  ·exact ih _ _ _ _ _ h
  ·rcases shut_inr h with ⟨_,h2⟩|⟨_,x,us,_,h2,rfl⟩
   ·exact ih _ _ _ _ _ h2
   ·have:=ih _ _ _ _ _ h2
    obtain⟨e,h1,h3⟩:=this;cases us with
    | nil=>cases h1
    | cons y l=>exact⟨e,by rw[List.getLast?_cons_cons];exact h1,h3⟩
def parseA (l:List UInt8):Rs Ex :=
 match scanA l with
 | .inl (e,p)=>.bad e p
 | .inr ts=>readF 30000 ts
theorem parse_fine (l:List UInt8):parseA l≠.out:=by
 unfold parseA;cases h:scanA l with
 | inl x=>obtain⟨e,p⟩:=x;intro h;cases h
 | inr ts =>
  have hs:=scan_ok h;exact read_fine (lex_wft _ _ _ _ _ _ hs.2.1) (by omega)
end Go.Proofs.YtbjdkekhnajafaaGreatDoor

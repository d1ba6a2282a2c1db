import Derived.Test.YtejnhibajmncaaaDoorChecked
import Derived.Lib.AtoiAll
import Derived.WalkKit
import Derived.ProofKit
import Derived.OpenShut
import Derived.Deep.QuietTactic
import Derived.BigQuiet
import Derived.Shelf.Strconv.ErrVarAll
import Derived.Ground.NamesProg
import Derived.Lib.OthersKept
import Derived.Deep.MidRow
import Derived.Deep.CutBlock
import Derived.Deep.DeepCutAuto
import Derived.Laws.ResultCell
import Derived.WalkLawsBesides
import Derived.Deep.RegionHeld3
import Derived.Deep.RegionHeld
import Derived.Lib.AppendStr
import Derived.RegionTactic
import Derived.ChangeAlike
import Derived.BigRegion
import Derived.Shelf.Strconv.Itoa3
import Derived.Lib.ItoaLen
import Derived.Lib.SmallJoins
import Derived.Lib.Small
import Derived.Lib.AppendIntMem
import Derived.Lib.SliceRun
import Derived.Deep.RegionLaw
set_option maxRecDepth 100000
set_option maxHeartbeats 8000000
namespace Go.Proofs.YtejnhibajmncaaaDoor
set_option linter.unusedVariables false
def blk (r:Nat):Bool:=r==32||r==9||r==10||r==13
def sml (r:Nat):Bool:=decide (97<=r)&&decide (r<=122)
def dig (r:Nat):Bool:=decide (48<=r)&&decide (r<=57)
def wordsL:List (List UInt8) :=
 [[97,108,108],[97,110,100],[97,114,111,117,110,100],[98,108,111,99,107],[98,111,116,116,108,101,110,101,99,107],[99,111,110,110,101,99,116,101,100],[99,111,117,110,116],[100,101,103,114,101,101],[101,108,115,101],
  [102,97,108,115,101],[105,102],[105,110],[108,101,97,115,116],[109,97,120],[109,105,110],[109,111,115,116],[110,111,116],[111,114],
  [114,101,112],[115,105,122,101],[115,111,109,101],[115,117,109],[116,104,101,110],[116,111,116,97,108],[116,114,117,101],[118,97,108,117,101],[118,101,114,116,105,99,101,115]]
def wordB (t:List UInt8):Bool:=wordsL.contains t
def inn (c:UInt8):Bool:=sml c.toNat||dig c.toNat||c.toNat==95
def nameB (t:List UInt8):Bool :=
 match t with
 | []=>false
 | c::r=>decide (r.length<12)&&sml c.toNat&&r.all inn&&!wordB t
structure Tk where
 k:Nat
 n:Int
 t:List UInt8
 a:Nat
structure Nd (α:Type) where
 k:Int
 n:Int
 nm:List UInt8
 a:Int
 kids:α
 rest:α
structure Fs where
 v:Option (Nd Fs)
abbrev Fs.nil:Fs:=⟨none⟩
abbrev Fs.cons (k n:Int)(nm:List UInt8)(a:Int)(ks r:Fs):Fs:=⟨some ⟨k,n,nm,a,ks,r⟩⟩
theorem Fs.on {P:Fs->Prop}(f:Fs)(nil:P .nil)(cons:∀ k n nm a ks r,P (.cons k n nm a ks r)):P f:=by
 obtain⟨v⟩:=f;cases v with
 | none=>exact nil
 | some z=>obtain⟨k,n,nm,a,ks,r⟩:=z;exact cons k n nm a ks r
structure Ex where
 k:Int
 n:Int
 nm:List UInt8
 a:Int
 kids:Fs
def Fs.len:Fs->Nat
 | ⟨none⟩=>0
 | ⟨some ⟨_,_,_,_,_,r⟩⟩=>r.len+1
def Fs.app:Fs->Fs->Fs
 | ⟨none⟩,y=>y
 | ⟨some ⟨k,n,nm,a,ks,r⟩⟩,y=>.cons k n nm a ks (r.app y)
def one (e:Ex):Fs:=.cons e.k e.n e.nm e.a e.kids .nil
def Fs.snoc (f:Fs)(e:Ex):Fs:=f.app (one e)
theorem Fs.len_app:∀ (x y:Fs),(x.app y).len=x.len+y.len
 | ⟨none⟩,y=>by simp[Fs.app,Fs.len]
 | ⟨some ⟨k,n,nm,a,ks,r⟩⟩,y=>by simp only[Fs.app,Fs.len];rw[Fs.len_app r y];omega
theorem Fs.len_snoc (x:Fs)(e:Ex):(x.snoc e).len=x.len+1:=by unfold Fs.snoc;rw[Fs.len_app];rfl
def noEx:Ex:=⟨0,0,[],0,.nil⟩
def Fs.head:Fs->Ex
 | ⟨none⟩=>noEx
 | ⟨some ⟨k,n,nm,a,ks,_⟩⟩=>⟨k,n,nm,a,ks⟩
structure Rs (α:Type) where
 v:Option (Sum (Nat × Nat) (α × List Tk))
abbrev Rdr:=Nat->Nat->Nat->List Tk->Rs Ex
def opsL:List (List UInt8 × Nat × Nat × Nat × Nat) :=
 [([111,114],18,1,1,2),([97,110,100],17,2,2,3),([61],13,4,5,5),([33,61],14,4,5,5),([60],15,4,5,5),([60,61],16,4,5,5),([43],8,5,5,6),([45],9,5,5,6),([42],10,6,6,7),([47],11,6,6,7),([37],12,6,6,7)]
def callsL:List (List UInt8 × Nat × Nat) :=
 [([99,111,110,110,101,99,116,101,100],1,2),([98,108,111,99,107],2,2),([98,111,116,116,108,101,110,101,99,107],3,2),([115,105,122,101],4,1),([116,111,116,97,108],5,1),([108,101,97,115,116],6,1),([109,111,115,116],7,1),([118,97,108,117,101],8,1),([100,101,103,114,101,101],9,1),([114,101,112],10,1)]
def quantsL:List (List UInt8 × Nat) :=
 [([97,108,108],1),([115,111,109,101],2),([99,111,117,110,116],3),([115,117,109],4),([109,105,110],5),([109,97,120],6)]
open Go.ChangeShapes Go.WideShapes Go.ChangeAt Go.RowKit
structure Step (I:Nat->Prop)(w:World)(o:Nat->Nat)(w':World)(o':Nat->Nat):Prop where
 os:w'.os=w.os
 tape:w'.tape=w.tape
 output:w'.output=w.output
 size:w.heap.size<=w'.heap.size
 lab:∀ k,k<w.heap.size->o' k=o k
 block:∀ k,k<w.heap.size->¬I (o k)->w'.heap[k]?=w.heap[k]?
theorem Step.refl (I:Nat->Prop)(w:World)(o:Nat->Nat):Step I w o w o:=⟨rfl,rfl,rfl,Nat.le_refl _,fun _ _=>rfl,fun _ _ _=>rfl⟩
theorem Step.trans {I:Nat->Prop}{a b c:World}{o o' o'':Nat->Nat}(h:Step I a o b o')(k:Step I b o' c o''):Step I a o c o'' :=
 ⟨k.os.trans h.os,k.tape.trans h.tape,k.output.trans h.output,Nat.le_trans h.size k.size,fun i hi=>(k.lab i (Nat.lt_of_lt_of_le hi h.size)).trans (h.lab i hi),
  fun i hi hn=>(k.block i (Nat.lt_of_lt_of_le hi h.size) (by rw[h.lab i hi];exact hn)).trans (h.block i hi hn)⟩
theorem Step.mono {I J:Nat->Prop}{a b:World}{o o':Nat->Nat}(h:Step I a o b o')(hij:∀ i,I i->J i):Step J a o b o' :=
 ⟨h.os,h.tape,h.output,h.size,h.lab,fun k hk hn=>h.block k hk (fun x=>hn (hij _ x))⟩
theorem Step.alloc {I:Nat->Prop}{a w:World}{o o':Nat->Nat}(h:Step I a o w o')(ob:Obj):Step I a o (w.alloc ob) o' :=
 h.trans ⟨rfl,rfl,rfl,by simp,fun _ _=>rfl,fun k hk _=>Below.heap_alloc w ob k hk⟩
theorem Step.drewN {I:Nat->Prop}{a w:World}{o o':Nat->Nat}(h:Step I a o w o')(n:Nat):Step I a o (w.drewN n) o' :=
 ⟨h.os,h.tape,h.output,h.size,h.lab,h.block⟩
theorem Step.drew {I:Nat->Prop}{a w:World}{o o':Nat->Nat}(h:Step I a o w o'):Step I a o w.drew o' :=
 ⟨h.os,h.tape,h.output,h.size,h.lab,h.block⟩
theorem Step.setCell {I:Nat->Prop}{a w:World}{o o':Nat->Nat}(h:Step I a o w o')(p:Addr)(u:Value)(hp:I (o' p.block)):Step I a o (w.setCell p u) o' :=
 h.trans ⟨rfl,rfl,rfl,by simp,fun _ _=>rfl,fun k hk hn=>heap_setCell_other w p k u (fun e=>hn (by rw[e];exact hp))⟩
def newLab (w:World)(o:Nat->Nat)(i:Nat):Nat->Nat:=fun k=>if k<w.heap.size then o k else i
theorem newLab_old {w:World}{o:Nat->Nat}{i k:Nat}(h:k<w.heap.size):newLab w o i k=o k:=by simp[newLab,h]
theorem newLab_new {w:World}{o:Nat->Nat}{i k:Nat}(h:w.heap.size<=k):newLab w o i k=i:=by simp[newLab,Nat.not_lt.2 h]
theorem Step.labelled {I:Nat->Prop}{a w:World}{o o':Nat->Nat}(h:Step I a o w o')(i:Nat):Step I a o w (newLab w o' i) :=
 h.trans ⟨rfl,rfl,rfl,Nat.le_refl _,fun k hk=>newLab_old hk,fun _ _ _=>rfl⟩
def Row (w:World)(o:Nat->Nat)(i:Nat)(e:TypeId)(size:Nat)(v:Value)(n:Nat)(xs:List Value):Prop :=
 w.ownsRow 0 e size v n xs/\∀ k,v.ownBlock=some k->o k=i
def Blk (w:World)(o:Nat->Nat)(i:Nat)(b:Nat)(ob:Obj):Prop:=w.heap[b]?=some ob/\o b=i
theorem Blk.lt {w:World}{o:Nat->Nat}{i b:Nat}{ob:Obj}(h:Blk w o i b ob):b<w.heap.size:=lt_of_block h.1
theorem Blk.step {I:Nat->Prop}{w w':World}{o o':Nat->Nat}{i b:Nat}{ob:Obj}(h:Blk w o i b ob)(s:Step I w o w' o')(hi:¬I i):Blk w' o' i b ob :=
 ⟨(s.block b h.lt (by rw[h.2];exact hi)).trans h.1,(s.lab b h.lt).trans h.2⟩
theorem Row.lt {w:World}{o:Nat->Nat}{i:Nat}{e:TypeId}{size:Nat}{v:Value}{n:Nat}{xs:List Value}(h:Row w o i e size v n xs){k:Nat}(hk:v.ownBlock=some k):k<w.heap.size:=(h.1.lt k hk).2
theorem Row.step {I:Nat->Prop}{w w':World}{o o':Nat->Nat}{i:Nat}{e:TypeId}{size:Nat}{v:Value}{n:Nat}{xs:List Value}(h:Row w o i e size v n xs)(s:Step I w o w' o')(hi:¬I i):Row w' o' i e size v n xs:=by
 refine⟨⟨h.1.1,?_⟩,fun k hk=>(s.lab k (h.lt hk)).trans (h.2 k hk)⟩;rcases h.1.2 with hn|⟨g,cap,cur,rfl,hb,hgg,rest⟩
 ·exact .inl hn
 ·refine .inr ⟨g,cap,cur,rfl,hb,?_,rest⟩;rw[s.block g (lt_of_block hgg) (by rw[h.2 g rfl];exact hi)];exact hgg
theorem Row.nil (w:World)(o:Nat->Nat)(i:Nat)(e:TypeId)(size:Nat):Row w o i e size (.slice none 0 0) 0 []:=⟨World.ownsRow_nil _ _ _ _,fun k hk=>by simp[Value.ownBlock] at hk⟩
theorem Row.len {w:World}{o:Nat->Nat}{i:Nat}{e:TypeId}{size:Nat}{v:Value}{n:Nat}{xs:List Value}(h:Row w o i e size v n xs):xs.length=n*size:=h.1.1
theorem Row.form {w:World}{o:Nat->Nat}{i:Nat}{e:TypeId}{size:Nat}{v:Value}{n:Nat}{xs:List Value}(h:Row w o i e size v n xs):∃ao cap,v=.slice ao n cap:=by
 rcases h.1.2 with ⟨rfl,rfl⟩|⟨g,cap,cur,rfl,_⟩
 ·exact⟨_,_,rfl⟩
 ·exact⟨_,_,rfl⟩
theorem Row.pos {w:World}{o:Nat->Nat}{i:Nat}{e:TypeId}{size:Nat}{v:Value}{n:Nat}{xs:List Value}(h:Row w o i e size v n xs)(hn:0<n) :
  ∃g cap,v=.slice (some ⟨g,0,none⟩) n cap/\o g=i/\n<=cap/\cap<=maxLen/\g<w.heap.size/\(∀ j,j<n*size->w.cell? ⟨g,j,none⟩=xs[j]?)/\(∀ j,w.frozen? ⟨g,j,none⟩=false):=by
 rcases h.1.2 with ⟨rfl,rfl⟩|⟨g,cap,cur,rfl,_,hg,hc,hm,_⟩
 ·omega
 ·exact⟨g,cap,rfl,h.2 g rfl,hc,hm,lt_of_block hg,fun j hj=>h.1.cellAt j hj,fun j=>h.1.frozenAt j⟩
theorem Row.store {w:World}{o:Nat->Nat}{i:Nat}{e:TypeId}{size:Nat}{g n cap:Nat}{xs:List Value}(h:Row w o i e size (.slice (some ⟨g,0,none⟩) n cap) n xs)(j:Nat)(u:Value) :
  Row (w.setCell ⟨g,j,none⟩ u) o i e size (.slice (some ⟨g,0,none⟩) n cap) n (xs.set j u):=⟨(h.1.stored j u).1,h.2⟩
theorem run_append_where {P:Program}(w:World)(t ty e:TypeId)(i:TypeInfo)(z:Value)(size bytes:Nat)(ht:P.underlying t=some (.slice e))(hi:P.info? e=some i)(hz:i.zero=some z)
  (hsize:i.size=size) (hby:i.bytes=bytes) (hzs:z.cells.size=size) (hsz:0<size)
  (v:Value) (n:Nat) (xs:List Value) (hown:w.ownsRow 0 e size v n xs)
  (a:Addr) (m c:Nat) (news:List Value) (hl:news.length=m*size) (hnews:∀ j u,news[j]?=some u->w.cell? (a.add j)=some u) (h1:∀ u ∈ news,u.oneCell'=true)
  (h63:n+m<=maxLen) (hbytes:(n+m)*bytes<=140737488355328) (hm:0<m) :
  ∃v' w',(Builtin.append_ #[t,t] ty #[v,.slice (some a) m c]).run P w=.ok v' w'/\w'.ownsRow 0 e size v' (n+m) (xs++news)/\w.grownBy w' v.ownBlock /\
   (v'.ownBlock=v.ownBlock\/∃k,v'.ownBlock=some k/\w.heap.size<=k):=by
 obtain⟨v',w',hr,ho,hg,_⟩:=run_append_own (P:=P) w 0 t ty e i z size bytes ht hi hz hsize hby hzs hsz v n xs hown a m c news hl hnews h1 h63 hbytes (Nat.zero_le _);refine⟨v',w',hr,ho,hg,?_⟩;subst hsize;subst hby;have h63':n+m<=9223372036854775807:=by simp only[maxLen] at h63;omega
 rcases hown.2 with ⟨rfl,rfl⟩|⟨g,cap,cur,rfl,hbg,hgb,hnc,hcm,hcs,htake⟩
 ·have hr':=run_append_nil (P:=P) w t ty e i z ht hi hz a m c news hl hnews hm (by omega) (by have hb:=hbytes;simp only[Nat.zero_add] at hb;omega);rw[hr'] at hr;injection hr with e1 e2
  subst e1;exact .inr ⟨_,rfl,Nat.le_refl _⟩
 ·by_cases hroom:n+m<=cap
  ·have hfit:n*i.size+news.length<=cur.size:=by rw[hl,hcs,<-Nat.add_mul];exact Nat.mul_le_mul_right _ hroom
   have hr':=run_append_room (P:=P) w t ty e i ht hi g n cap cur hgb a m c news hl hnews h1 hroom hfit;rw[hr'] at hr;injection hr with e1 e2
   subst e1;exact .inl rfl
  ·have holds:∀ j u,xs[j]?=some u->w.cell? ((⟨g,0,none⟩:Addr).add j)=some u:=hown.cells (g:=g) rfl;have hr':=run_append_grow (P:=P) w t ty e i z ht hi hz ⟨g,0,none⟩ n cap xs hown.1 holds a m c news hl hnews (by omega) (by omega) (growslice_fits (by omega) hbytes);rw[hr'] at hr;injection hr with e1 e2
   subst e1;exact .inr ⟨_,rfl,Nat.le_refl _⟩
theorem Step.appended {I:Nat->Prop}{w w':World}{o:Nat->Nat}{i:Nat}{row:Option Nat}(hg:w.grownBy w' row)(hi:I i)(hr:∀ k,row=some k->o k=i):Step I w o w' (newLab w o i) :=
 ⟨hg.os,hg.tape,hg.output,hg.size,fun k hk=>newLab_old hk,fun k hk hn=>hg.block k hk (fun e=>hn (by rw[hr k e.symm];exact hi))⟩
theorem wpList_append_lab {P:Program}{w:World}{ops:Array Oper}{rest:List Oper}{op:Oper}{a:Act}{Q:Exit->Act->World->Prop}(hgd:op.guard=none)(s x:Operand)(t:TypeId)
  (ho:op.op=.call { callee:=.builtin .append,args:=#[s,x],argTypes:=#[t,t] })
  (e:TypeId) (i:TypeInfo) (z:Value) (size bytes:Nat) (ht:P.underlying t=some (.slice e)) (hi:P.info? e=some i) (hz:i.zero=some z)
  (hsize:i.size=size) (hby:i.bytes=bytes) (hzs:z.cells.size=size) (hsz:0<size)
  (o:Nat->Nat) (lb:Nat) (v:Value) (n:Nat) (xs:List Value) (hs:a.eval s=v) (hrow:Row w o lb e size v n xs)
  (ad:Addr) (m c:Nat) (news:List Value) (hx:a.eval x=.slice (some ad) m c) (hl:news.length=m*size) (hnews:∀ j u,news[j]?=some u->w.cell? (ad.add j)=some u) (h1:∀ u ∈ news,u.oneCell'=true)
  (hm:0<m) (h63:n+m<=maxLen) (hbytes:(n+m)*bytes<=140737488355328)
  (h:∀ g cap w' o',Row w' o' lb e size (.slice (some ⟨g,0,none⟩) (n+m) cap) (n+m) (xs++news)->Step (fun k=>k=lb) w o w' o'->wpList P ops Q rest (a.put op.dst (.slice (some ⟨g,0,none⟩) (n+m) cap)) w'):wpList P ops Q (op::rest) a w:=by
 refine wpList_plain hgd fun _ hK=>?_;obtain⟨v',w',hr,h2,h3,h4⟩:=run_append_where (P:=P) w t op.type e i z size bytes ht hi hz hsize hby hzs hsz v n xs hrow.1 ad m c news hl hnews h1 h63 hbytes hm;unfold Oper.wp execOp;simp only[ho,resolve,invoke,builtin,Sem.run_bind,Sem.run_pure,Result.andThen_ok,List.map_toArray,List.map_cons,List.map_nil,hs,hx,hr];have hst:Step (fun k=>k=lb) w o w' (newLab w o lb):=Step.appended h3 rfl hrow.2;have hrow':Row w' (newLab w o lb) lb e size v' (n+m) (xs++news):=by
  refine⟨h2,fun k hk=>?_⟩;rcases h4 with h4|⟨k',h4,hk'⟩
  ·rw[h4] at hk;rw[newLab_old (hrow.lt hk)];exact hrow.2 k hk
  ·rw[h4] at hk;injection hk with hk
   subst hk;exact newLab_new hk'
 obtain⟨g,cap,rfl,_⟩:=hrow'.pos (by omega);exact hK _ _ (h g cap w' _ hrow' hst)
theorem step_append_lab {P:Program}{w:World}{ops:Array Oper}{op:Oper}{a:Act}{K:Act->World->Prop}{Q:Exit->Act->World->Prop}{E:Prop}(hgd:op.guard=none)(s x:Operand)(t:TypeId)
  (ho:op.op=.call { callee:=.builtin .append,args:=#[s,x],argTypes:=#[t,t] })
  (e:TypeId) (i:TypeInfo) (z:Value) (size bytes:Nat) (ht:P.underlying t=some (.slice e)) (hi:P.info? e=some i) (hz:i.zero=some z)
  (hsize:i.size=size) (hby:i.bytes=bytes) (hzs:z.cells.size=size) (hsz:0<size)
  (o:Nat->Nat) (lb:Nat) (v:Value) (n:Nat) (xs:List Value) (hs:a.eval s=v) (hrow:Row w o lb e size v n xs)
  (ad:Addr) (m c:Nat) (news:List Value) (hx:a.eval x=.slice (some ad) m c) (hl:news.length=m*size) (hnews:∀ j u,news[j]?=some u->w.cell? (ad.add j)=some u) (h1:∀ u ∈ news,u.oneCell'=true)
  (hm:0<m) (h63:n+m<=maxLen) (hbytes:(n+m)*bytes<=140737488355328)
  (h:∀ g cap w' o',Row w' o' lb e size (.slice (some ⟨g,0,none⟩) (n+m) cap) (n+m) (xs++news)->Step (fun k=>k=lb) w o w' o'->K (a.put op.dst (.slice (some ⟨g,0,none⟩) (n+m) cap)) w') :
  if Region.wanted op (yielded ops a.tmps)=true then Oper.wp P op a w K Q else E:=by
 have hw:Region.wanted op (yielded ops a.tmps)=true:=by simp[Region.wanted,hgd]
 rw[if_pos hw];obtain⟨v',w',hr,h2,h3,h4⟩:=run_append_where (P:=P) w t op.type e i z size bytes ht hi hz hsize hby hzs hsz v n xs hrow.1 ad m c news hl hnews h1 h63 hbytes hm;unfold Oper.wp execOp;simp only[ho,resolve,invoke,builtin,Sem.run_bind,Sem.run_pure,Result.andThen_ok,List.map_toArray,List.map_cons,List.map_nil,hs,hx,hr];have hst:Step (fun k=>k=lb) w o w' (newLab w o lb):=Step.appended h3 rfl hrow.2;have hrow':Row w' (newLab w o lb) lb e size v' (n+m) (xs++news):=by
  refine⟨h2,fun k hk=>?_⟩;rcases h4 with h4|⟨k',h4,hk'⟩
  ·rw[h4] at hk;rw[newLab_old (hrow.lt hk)];exact hrow.2 k hk
  ·rw[h4] at hk;injection hk with hk
   subst hk;exact newLab_new hk'
 obtain⟨g,cap,rfl,_⟩:=hrow'.pos (by omega);exact h g cap w' _ hrow' hst
theorem new_one (w:World)(x:Value)(t:TypeId):∀ j u,[x][j]?=some u->(w.alloc (.cells #[x] t)).cell? ((⟨w.heap.size,0,none⟩:Addr).add j)=some u:=by
 intro j u hj
 match j,hj with
 | 0,hj=>simp at hj;subst hj;simp[Addr.add]
theorem ret_int {k:IntKind}{a b:Int}(h:a=b):Ending.returned (.int k a)=.returned (.int k b):=by rw[h]
theorem ret_bool {a b:Bool}(h:a=b):Ending.returned (.bool a)=.returned (.bool b):=by rw[h]
theorem str_ne {s t:ByteArray}(h:s≠t):(s.toList==t.toList)=false:=by
 rw[beq_eq_false_iff_ne,ByteArray.toList_eq,ByteArray.toList_eq];exact fun e=>h (ByteArray.ext (Array.toList_inj.1 e))
theorem bytes_eq {s t:ByteArray}:s.data.toList=t.data.toList ↔ s=t :=
 ⟨fun e=>ByteArray.ext (Array.toList_inj.1 e),fun e=>by rw[e]⟩
theorem b0 (w:World):Below w.heap.size w w:=Below.refl _ _
theorem b1 (w:World)(o:Obj):Below w.heap.size w (w.alloc o):=(Below.refl _ w).alloc (Nat.le_refl _) _
def wd (k:Nat):ByteArray:=⟨(wordsL.getD k []).toArray⟩
theorem wordB_yes {t:List UInt8}(k:Nat)(hk:k<27)(h:t=wordsL.getD k []):wordB t=true:=by
 subst h;have hl:wordsL.length=27:=rfl;unfold wordB;rw[List.contains_iff_mem];simp only[List.getD,List.getElem?_eq_getElem (by omega:k<wordsL.length),Option.getD_some];exact List.getElem_mem _
theorem wordB_no {t:List UInt8}(h:∀ k,k<27->¬t=wordsL.getD k []):wordB t=false:=by
 rw[<-Bool.not_eq_true];unfold wordB;rw[List.contains_iff_mem,List.mem_iff_getElem];rintro ⟨k,hk,e⟩;have hl:wordsL.length=27:=rfl;refine h k (by omega) ?_;simp only[List.getD,List.getElem?_eq_getElem hk,Option.getD_some];exact e.symm
def nmc (j:Nat)(c:UInt8):Bool:=sml c.toNat||(j != 0&&(dig c.toNat||c.toNat==95))
theorem nameB_iff (l:List UInt8):nameB l=true ↔ 0<l.length/\l.length<=12/\(∀ j (h:j<l.length),nmc j l[j]=true)/\wordB l=false:=by
 cases l with
 | nil=>simp[nameB]
 | cons c r =>
  simp only[nameB,Bool.and_eq_true,decide_eq_true_eq,List.all_eq_true,Bool.not_eq_true',List.length_cons];constructor
  ·rintro ⟨⟨⟨h1,h2⟩,h3⟩,h4⟩;refine⟨by omega,by omega,fun j h=>?_,h4⟩;cases j with
   | zero=>simp[nmc,h2]
   | succ j =>
    have:=h3 (r[j]'(by omega)) (List.getElem_mem _)
    simp only[inn] at this;simp[nmc];simpa [Bool.or_eq_true,or_assoc] using this
  ·rintro ⟨h1,h2,h3,h4⟩;refine⟨⟨⟨by omega,?_⟩,fun x hx=>?_⟩,h4⟩
   ·have:=h3 0 (by omega)
    simpa [nmc] using this
   ·obtain⟨j,hj,rfl⟩:=List.mem_iff_getElem.1 hx
    have:=h3 (j+1) (by omega)
    simp only[nmc,List.getElem_cons_succ] at this;simp only[inn];simpa [Bool.or_eq_true,or_assoc] using this
theorem nameB_not {l:List UInt8}(j:Nat)(h:j<l.length)(hn:nmc j l[j]=false):nameB l=false:=by
 rw[<-Bool.not_eq_true,nameB_iff];rintro ⟨_,_,h3,_⟩
 have:=h3 j h
 rw[hn] at this;cases this
theorem data_get (s:ByteArray)(j:Nat)(h:j<s.size)(h':j<s.data.toList.length):s.data.toList[j]=s[j]:=by
 rw[Array.getElem_toList];rfl
theorem data_len (s:ByteArray):s.data.toList.length=s.size:=Array.length_toList
theorem b2 (w:World)(A B:Obj):Below w.heap.size w ((w.alloc A).alloc B):=(b1 _ _).trans ((b1 _ _).mono (by simp))
theorem Blk.set {w:World}{o:Nat->Nat}{i b:Nat}{cs:Array Value}{t:TypeId}(h:Blk w o i b (.cells cs t (0,0)))(j:Nat)(u:Value):Blk (w.setCell ⟨b,j,none⟩ u) o i b (.cells (cs.setIfInBounds j u) t (0,0)) :=
 ⟨heap_setCell_same w b j cs t u h.1,h.2⟩
theorem setStep (I:Nat->Prop)(w:World)(o:Nat->Nat)(p:Addr)(u:Value)(hp:I (o p.block)):Step I w o (w.setCell p u) o:=(Step.refl I w o).setCell p u hp
theorem Step.ofBelow {I:Nat->Prop}{w w':World}(o:Nat->Nat)(h:Below w.heap.size w w'):Step I w o w' o:=⟨h.os,h.tape,h.output,h.size,fun _ _=>rfl,fun k hk _=>h.block k hk⟩
theorem info_parts {P:Program}{t:TypeId}{z:Option Value}{s b:Nat}(h:(P.info? t).map (fun i=>(i.zero,i.size,i.bytes))=some (z,s,b)):∃i,P.info? t=some i/\i.zero=z/\i.size=s/\i.bytes=b:=by
 cases hi:P.info? t with
 | none=>rw[hi] at h;cases h
 | some i =>
  rw[hi] at h;injection h with h
  exact⟨i,rfl,(congrArg (·.1) h),(congrArg (·.2.1) h),(congrArg (·.2.2) h)⟩
theorem bdr {B:Nat}{w w':World}(h:Below B w w')(n:Nat):Below B w (w'.drewN n):=⟨h.os,h.tape,h.output,h.size,h.block⟩
abbrev stv (t:List UInt8):Value:=.string ⟨t.toArray⟩
def Fc (w:World)(P:Nat->Prop):Fs->List Value->Prop
 | ⟨none⟩,xs=>xs=[]
 | ⟨some ⟨k,n,nm,a,ks,r⟩⟩,xs=>∃ao cap ys,xs=.int .i64 k::.int .i64 n::stv nm::.slice ao ks.len cap::.int .i64 a::ys /\
   (ks=.nil\/∃b off zs,ao=some ⟨b,off,none⟩/\P b/\b<w.heap.size/\(∀ j u,zs[j]?=some u->w.cell? ⟨b,off+j,none⟩=some u)/\Fc w P ks zs)/\Fc w P r ys
def Sl (w:World)(P:Nat->Prop)(ks:Fs)(ao:Option Addr):Prop :=
 ks=.nil\/∃b off zs,ao=some ⟨b,off,none⟩/\P b/\b<w.heap.size/\(∀ j u,zs[j]?=some u->w.cell? ⟨b,off+j,none⟩=some u)/\Fc w P ks zs
theorem Blk.cells5 {w:World}{o:Nat->Nat}{i b:Nat}{a0 a1 a2 a3 a4:Value}{t:TypeId}(h:Blk w o i b (.cells #[a0,a1,a2,a3,a4] t (0,0))) :
  w.cell? ⟨b,0,none⟩=some a0/\w.cell? ⟨b,1,none⟩=some a1/\w.cell? ⟨b,2,none⟩=some a2/\w.cell? ⟨b,3,none⟩=some a3/\w.cell? ⟨b,4,none⟩=some a4/\∀ j,w.frozen? ⟨b,j,none⟩=false:=by
 refine⟨?_,?_,?_,?_,?_,fun j=>frozen_of_row w b j _ t h.1⟩<;>simp[cell_of_row w b _ _ t (0,0) h.1]
def opOf (t:Int):Option (List UInt8 × Nat × Nat × Nat × Nat):=opsL.find? fun x=>(x.2.1:Int)==t
def callOf (t:Int):Option (List UInt8 × Nat × Nat):=callsL.find? fun x=>(x.2.1:Int)==t
def quantOf (t:Int):Option (List UInt8 × Nat):=quantsL.find? fun x=>(x.2:Int)==t
set_option linter.unusedSimpArgs false
def isSetK (k:Int):Bool:=k==22||k==23||k==24||k==25
def numB (k n:Int):Bool:=if k==1||k==3 then decide (0<=n) else if k==2 then n==0||n==1 else if k==20 then (callOf n).isSome else if k==21 then (quantOf n).isSome else n==0
def namB (k:Int)(nm:List UInt8):Bool:=if k==4||k==23||k==21 then nameB nm else nm==[]
def kidB (k n:Int)(m:Nat):Bool:=if k==1||k==2||k==3||k==4||k==22||k==23 then (m:Int)==0 else if k==6||k==7||k==24 then (m:Int)==1 else if k==21 then (m:Int)==2 else if k==19 then (m:Int)==3 else if k==20 then (match callOf n with|some x=>(m:Int)==(x.2.2:Nat)|none=>(m:Int)==0) else if k==25 then true else (opOf k).isSome&&(m:Int)==2
theorem box5 {w:World}{b:Nat}{a0 a1 a2 a3 a4:Value}{t:TypeId}(h:w.heap[b]?=some (.cells #[a0,a1,a2,a3,a4] t (0,0))) :
  w.cell? ⟨b,0,none⟩=some a0/\w.cell? ⟨b,1,none⟩=some a1/\w.cell? ⟨b,2,none⟩=some a2/\w.cell? ⟨b,3,none⟩=some a3/\w.cell? ⟨b,4,none⟩=some a4/\∀ j,w.frozen? ⟨b,j,none⟩=false:=Blk.cells5 (o:=fun _=>0) (i:=0) ⟨h,rfl⟩
def hFs:Fs->Bool->Nat->Option Nat
 | ⟨none⟩,_,c=>some c
 | ⟨some ⟨k,n,nm,a,ks,r⟩⟩,first,c =>
  if isSetK k != first then none
  else if 2000<c+1 then none
  else if numB k n&&namB k nm&&kidB k n ks.len then
   match hFs ks (k==21) (c+1) with
   | none=>none
   | some c'=>hFs r false c'
  else none
def hE (e:Ex)(c:Nat):Option Nat:=if 2000<c+1 then none else if numB e.k e.n&&namB e.k e.nm&&kidB e.k e.n e.kids.len then hFs e.kids (e.k==21) (c+1) else none
def Fs.size:Fs->Nat
 | ⟨none⟩=>0
 | ⟨some ⟨_,_,_,_,ks,r⟩⟩=>ks.size+r.size+1
def Fs.short:Fs->Prop
 | ⟨none⟩=>True
 | ⟨some ⟨_,_,nm,_,ks,r⟩⟩=>nm.length<=maxLen/\ks.len<=1000000000/\ks.short/\r.short
theorem Fs.size_app:∀ (x y:Fs),(x.app y).size=x.size+y.size
 | ⟨none⟩,y=>by simp[Fs.app,Fs.size]
 | ⟨some ⟨k,n,nm,a,ks,r⟩⟩,y=>by simp only[Fs.app,Fs.size];rw[Fs.size_app r y];omega
theorem Fs.app_short:∀ {x y:Fs},(x.app y).short->y.short
 | ⟨none⟩,y,h=>h
 | ⟨some ⟨k,n,nm,a,ks,r⟩⟩,y,h=>Fs.app_short h.2.2.2
theorem Fs.app_assoc:∀ (x y z:Fs),(x.app y).app z=x.app (y.app z)
 | ⟨none⟩,y,z=>rfl
 | ⟨some ⟨k,n,nm,a,ks,r⟩⟩,y,z=>by simp only[Fs.app];rw[Fs.app_assoc r y z]
def sameF:Fs->Fs->Bool
 | ⟨none⟩,⟨none⟩=>true
 | ⟨some ⟨k,n,nm,_,ks,r⟩⟩,⟨some ⟨k',n',nm',_,ks',r'⟩⟩=>k==k'&&n==n'&&nm==nm'&&sameF ks ks'&&sameF r r'
 | _,_=>false
def sameE (a b:Ex):Bool:=a.k==b.k&&a.n==b.n&&a.nm==b.nm&&sameF a.kids b.kids
theorem sameF_len:∀ (x y:Fs),x.len≠y.len->sameF x y=false
 | ⟨none⟩,⟨none⟩,h=>absurd rfl h
 | ⟨none⟩,⟨some ⟨k',n',nm',a',ks',r'⟩⟩,h=>rfl
 | ⟨some ⟨k,n,nm,a,ks,r⟩⟩,⟨none⟩,h=>rfl
 | ⟨some ⟨k,n,nm,a,ks,r⟩⟩,⟨some ⟨k',n',nm',a',ks',r'⟩⟩,h=>by
  have h2:r.len≠r'.len:=fun e=>h (by simp only[Fs.len,e]);simp only[sameF,sameF_len r r' h2,Bool.and_false]
theorem sameF_self:∀ (x:Fs),sameF x x=true
 | ⟨none⟩=>rfl
 | ⟨some ⟨k,n,nm,a,ks,r⟩⟩=>by simp[sameF,sameF_self ks,sameF_self r]
def nmP (k:Int)(nm:List UInt8):Bool:=if k==23 then nameB nm else nm==[]
def nuP (nc:Nat)(k n:Int)(ar:Nat):Bool :=
 if k==1 then true else if k==2 then n==0||n==1 else if k==3 then decide (0<=n) else if k==5 then decide (0<=n)&&decide (n<(ar:Int))
 else if k==20 then decide (1<=n)&&decide (n<=10) else if k==21 then decide (1<=n)&&decide (n<=6) else if k==26 then decide (0<=n)&&decide (n<(nc:Int)) else n==0
def wkP (ks:List Int)(i:Nat):Int :=
 match ks[i]? with
 | some k=>if k=4 then 0 else k
 | none=>0
def formP (k n:Int)(ks:List Int):List Int × Int :=
 if k=1 then ([],1) else if k=2 then ([],2) else if k=3\/k=5 then ([],3) else if k=6 then ([1],1) else if k=7 then ([2],2)
 else if 8<=k/\k<=12 then ([1,1],1) else if k=15\/k=16 then ([1,1],2) else if k=17\/k=18 then ([2,2],2)
 else if k=13\/k=14 then ([wkP ks 0,wkP ks 0],2) else if k=19 then ([2,wkP ks 1,wkP ks 1],wkP ks 1)
 else if k=20 then (if n=1\/n=2 then ([3,3],2) else if n=3 then ([3,3],1) else if n=10 then ([3],3) else ([3],1))
 else if k=21 then (if n=1\/n=2 then ([4,2],2) else if n=3 then ([4,2],1) else ([4,1],1))
 else if k=26 then ([wkP ks 0],wkP ks 0) else if k=22\/k=23 then ([],4) else if k=24 then ([3],4) else if k=25 then (List.replicate ks.length 3,4) else ([],0)
def hgF:Fs->Int->Int
 | ⟨none⟩,_=>0
 | ⟨some ⟨k,n,_,_,ks,r⟩⟩,ar=>max (max (if k=5/\n<ar then n+1 else 0) (hgF ks ar)) (hgF r ar)
def hgE (e:Ex)(ar:Int):Int:=max (if e.k=5/\e.n<ar then e.n+1 else 0) (hgF e.kids ar)
abbrev Rg:=Nat × (Nat->Option Ex)
def spotP (pk:Int)(i ar wi:Nat):Nat × Nat:=if pk=21 then (if i=0 then ar else ar+1,wi+1) else (ar,wi)
def keepP (cells:List Int)(n:Int)(ks:Fs)(ar:Nat)(s:Rg):Option Rg :=
 match cells[n.toNat]? with
 | none=>none
 | some lv =>
  if (ar:Int)<lv\/lv<hgE ks.head ar then none else
  match s.2 n.toNat with
  | none=>some (s.1,fun i=>if i=n.toNat then some ks.head else s.2 i)
  | some x=>if sameE x ks.head then some s else none
def rgF (cells:List Int):Fs->Int->Nat->Nat->Nat->Rg->Option (Rg × List Int)
 | ⟨none⟩,_,_,_,_,s=>some (s,[])
 | ⟨some ⟨k,n,nm,a,ks,r⟩⟩,pk,i,ar,wi,s =>
  if 4096<s.1+1\/4<(spotP pk i ar wi).2\/nmP k nm=false\/nuP cells.length k n (spotP pk i ar wi).1=false then none else
  match rgF cells ks k 0 (spotP pk i ar wi).1 (spotP pk i ar wi).2 (s.1+1,s.2) with
  | none=>none
  | some (s1,kd) =>
   if (formP k n kd).2=0\/(formP k n kd).1≠kd then none else
   match (if k=26 then keepP cells n ks (spotP pk i ar wi).1 s1 else some s1) with
   | none=>none
   | some s2 =>
    match rgF cells r pk (i+1) ar wi s2 with
    | none=>none
    | some (s3,rest)=>some (s3,(formP k n kd).2::rest)
def kindP (cells:List Int)(e:Ex):Int :=
 if 256<cells.length\/cells.any (fun c=>decide (c<0)||decide (4<c))=true then 0 else
 match rgF cells (one e) 0 0 0 0 (0,fun _=>none) with
 | some (_,[k])=>if k=4 then 0 else k
 | _=>0
theorem rgF_len (cells:List Int):∀ (f:Fs) (pk:Int) (i ar wi:Nat) (s s':Rg) (kd:List Int),rgF cells f pk i ar wi s=some (s',kd)->kd.length=f.len
 | ⟨none⟩,pk,i,ar,wi,s,s',kd,h=>by
  simp only[rgF] at h;injection h with h
  injection h with h1 h2
  subst h2;rfl
 | ⟨some ⟨k,n,nm,a,ks,r⟩⟩,pk,i,ar,wi,s,s',kd,h=>by
  unfold rgF at h;split at h
  ·cases h
  ·split at h
   ·cases h
   ·split at h
    ·cases h
    ·split at h
     ·cases h
     ·split at h
      ·cases h
      ·rename_i s3 rest h5
       injection h with h
       injection h with h1 h2
       subst h2
       have:=rgF_len cells r pk (i+1) ar wi _ _ _ h5
       simp only[List.length_cons,Fs.len];omega
structure St where
 t:List UInt8
 a:Nat
 m:Nat
 b:Nat
 n:Nat
abbrev L0 (o:Nat->Nat):Nat->Prop:=fun b=>o b=0
def Fs.ex (x:Ex)(r:Fs):Fs:=.cons x.k x.n x.nm x.a x.kids r
theorem len1:∀ {f:Fs},f.len=1->∃x,f=Fs.ex x .nil
 | ⟨none⟩,h=>by cases h
 | ⟨some ⟨k,n,nm,a,ks,⟨none⟩⟩⟩,h=>⟨⟨k,n,nm,a,ks⟩,rfl⟩
 | ⟨some ⟨_,_,_,_,_,(⟨some ⟨_,_,_,_,_,_⟩⟩)⟩⟩,h=>by simp[Fs.len] at h
theorem len2:∀ {f:Fs},f.len=2->∃x y,f=Fs.ex x (Fs.ex y .nil)
 | ⟨none⟩,h=>by cases h
 | ⟨some ⟨k,n,nm,a,ks,r⟩⟩,h=>by
  obtain⟨y,rfl⟩:=len1 (f:=r) (by simp only[Fs.len] at h;omega);exact⟨⟨k,n,nm,a,ks⟩,y,rfl⟩
theorem len3:∀ {f:Fs},f.len=3->∃x y z,f=Fs.ex x (Fs.ex y (Fs.ex z .nil))
 | ⟨none⟩,h=>by cases h
 | ⟨some ⟨k,n,nm,a,ks,r⟩⟩,h=>by
  obtain⟨y,z,rfl⟩:=len2 (f:=r) (by simp only[Fs.len] at h;omega);exact⟨⟨k,n,nm,a,ks⟩,y,z,rfl⟩
def Fs.rng:Fs->Prop
 | ⟨none⟩=>True
 | ⟨some ⟨_,n,_,_,ks,r⟩⟩=>-9223372036854775808<=n/\n<=9223372036854775807/\ks.rng/\r.rng
structure Ex.fit (e:Ex):Prop where
 nm:e.nm.length<=maxLen
 sh:e.kids.short
 len:e.kids.len<=1000000000
 n1:-9223372036854775808<=e.n
 n2:e.n<=9223372036854775807
 rng:e.kids.rng
def s0:St:=⟨[],0,0,0,0⟩
def giveT (n:Int):Int:=if n=1\/n=2 then 2 else if n=10 then 3 else 1
def bodyT (n:Int):Int:=if n<=3 then 2 else 1
def wholeT (n:Int):Int:=if n<=2 then 2 else 1
theorem gives_q (n:Int)(w:World):Calls Tryd.prog 45 #[.int .i64 n] w fun x w'=>x=.returned (.int .i64 (giveT n))/\w'=w:=by
 unfold giveT;by_cases h1:n=1
 ·subst h1;go_enter Tryd.func45,Tryd.ntmps45;go_wp2;go_ret;exact⟨rfl,rfl⟩
 ·by_cases h2:n=2
  ·subst h2;go_enter Tryd.func45,Tryd.ntmps45;go_wp2;go_ret;exact⟨rfl,rfl⟩
  ·rw[if_neg (by omega)];have b1:(n==1)=false:=by simpa using h1
   have b2:(n==2)=false:=by simpa using h2
   by_cases h3:n=10
   ·subst h3;go_enter Tryd.func45,Tryd.ntmps45;go_wp2;go_ret;exact⟨rfl,rfl⟩
   ·rw[if_neg h3];have b3:(n==10)=false:=by simpa using h3
    clear h1 h2 h3;go_enter Tryd.func45,Tryd.ntmps45;go_wp2;go_ret;exact⟨rfl,rfl⟩
theorem body_q (n:Int)(w:World):Calls Tryd.prog 67 #[.int .i64 n] w fun x w'=>x=.returned (.int .i64 (bodyT n))/\w'=w:=by
 unfold bodyT;by_cases h1:n<=3
 ·rw[if_pos h1];go_enter Tryd.func67,Tryd.ntmps67;go_wp2;go_ret;exact⟨rfl,rfl⟩
 ·rw[if_neg h1];go_enter Tryd.func67,Tryd.ntmps67;go_wp2;go_ret;exact⟨rfl,rfl⟩
theorem whole_q (n:Int)(w:World):Calls Tryd.prog 68 #[.int .i64 n] w fun x w'=>x=.returned (.int .i64 (wholeT n))/\w'=w:=by
 unfold wholeT;by_cases h1:n<=2
 ·rw[if_pos h1];go_enter Tryd.func68,Tryd.ntmps68;go_wp2;go_ret;exact⟨rfl,rfl⟩
 ·rw[if_neg h1];go_enter Tryd.func68,Tryd.ntmps68;go_wp2;go_ret;exact⟨rfl,rfl⟩
theorem len0:∀ {f:Fs},f.len=0->f=.nil
 | ⟨none⟩,_=>rfl
 | ⟨some ⟨k,n,nm,a,ks,r⟩⟩,h=>by simp[Fs.len] at h
def rgE (cells:List Int)(e:Ex)(ar wi:Nat)(s:Rg):Option (Rg × Int) :=
 if 4096<s.1+1\/4<wi\/nmP e.k e.nm=false\/nuP cells.length e.k e.n ar=false then none else
 match rgF cells e.kids e.k 0 ar wi (s.1+1,s.2) with
 | none=>none
 | some (s1,kd) =>
  if (formP e.k e.n kd).2=0\/(formP e.k e.n kd).1≠kd then none else
  match (if e.k=26 then keepP cells e.n e.kids ar s1 else some s1) with
  | none=>none
  | some s2=>some (s2,(formP e.k e.n kd).2)
theorem rg_ex (cells:List Int)(x:Ex)(r:Fs)(pk:Int)(i ar wi:Nat)(s:Rg) :
  rgF cells (Fs.ex x r) pk i ar wi s=(match rgE cells x (spotP pk i ar wi).1 (spotP pk i ar wi).2 s with
   | none=>none
   | some (s2,k)=>match rgF cells r pk (i+1) ar wi s2 with
    | none=>none
    | some (s3,rest)=>some (s3,k::rest)):=by
 obtain⟨k,n,nm,a,ks⟩:=x;unfold Fs.ex
 conv=>lhs;unfold rgF
 unfold rgE;simp only;by_cases h1:4096<s.1+1\/4<(spotP pk i ar wi).2\/nmP k nm=false\/nuP cells.length k n (spotP pk i ar wi).1=false
 ·rw[if_pos h1,if_pos h1]
 ·rw[if_neg h1,if_neg h1];cases rgF cells ks k 0 (spotP pk i ar wi).1 (spotP pk i ar wi).2 (s.1+1,s.2) with
  | none=>rfl
  | some z =>
   obtain⟨s1,kd⟩:=z;simp only;by_cases h2:(formP k n kd).2=0\/(formP k n kd).1≠kd
   ·rw[if_pos h2,if_pos h2]
   ·rw[if_neg h2,if_neg h2];cases (if k=26 then keepP cells n ks (spotP pk i ar wi).1 s1 else some s1) with
    | none=>rfl
    | some s2=>rfl
theorem rgE_pos {cells:List Int}{e:Ex}{ar wi:Nat}{s s':Rg}{k:Int}(h:rgE cells e ar wi s=some (s',k)):k≠0:=by
 unfold rgE at h;split at h
 ·cases h
 ·split at h
  ·cases h
  ·split at h
   ·cases h
   ·rename_i h2
    split at h
    ·cases h
    ·injection h with h
     injection h with _ h
     intro h3;exact h2 (.inl (h.trans h3))
abbrev Dg:=Option Rg
def musD (cells:List Int)(st:Dg)(m:Int)(e:Ex)(ar wi:Nat):Dg :=
 match st with
 | none=>none
 | some s=>match rgE cells e ar wi s with
  | none=>none
  | some (s',k)=>if k=m then some s' else none
def musDL (cells:List Int):Fs->Dg->Int->Nat->Nat->Dg
 | ⟨none⟩,st,_,_,_=>st
 | ⟨some ⟨k,n,nm,a,ks,r⟩⟩,st,m,ar,wi=>musDL cells r (musD cells st m ⟨k,n,nm,a,ks⟩ ar wi) m ar wi
theorem musDL_none (cells:List Int):∀ (f:Fs) (m:Int) (ar wi:Nat),musDL cells f none m ar wi=none
 | ⟨none⟩,m,ar,wi=>rfl
 | ⟨some ⟨k,n,nm,a,ks,r⟩⟩,m,ar,wi=>musDL_none cells r m ar wi
def anD (r:Dg)(g:Int):Option (Rg × Int):=match r with|none=>none|some s=>some (s,g)
theorem rg_list (cells:List Int)(pk m:Int)(ar wi:Nat)(hk:pk≠21):∀ (f:Fs) (i:Nat) (s:Rg),
  musDL cells f (some s) m ar wi=(match rgF cells f pk i ar wi s with|none=>none|some (s',kd)=>if kd=List.replicate f.len m then some s' else none)
 | ⟨none⟩,i,s=>by simp[musDL,rgF,Fs.len]
 | ⟨some ⟨k,n,nm,a,ks,r⟩⟩,i,s=>by
  have hsp:spotP pk i ar wi=(ar,wi):=by unfold spotP;rw[if_neg hk]
  have h1:=rg_ex cells ⟨k,n,nm,a,ks⟩ r pk i ar wi s;rw[hsp] at h1;have h2:rgF cells ⟨some ⟨k,n,nm,a,ks,r⟩⟩ pk i ar wi s=_:=h1;rw[h2];unfold musDL;unfold musD;simp only;cases rgE cells ⟨k,n,nm,a,ks⟩ ar wi s with
  | none=>simp only;exact musDL_none cells r m ar wi
  | some z =>
   obtain⟨s2,k2⟩:=z;simp only;by_cases hm:k2=m
   ·subst hm;rw[if_pos rfl,rg_list cells pk k2 ar wi hk r (i+1) s2];cases rgF cells r pk (i+1) ar wi s2 with
    | none=>rfl
    | some z =>
     obtain⟨s3,rest⟩:=z;simp only[Fs.len,List.replicate_succ,List.cons.injEq,true_and]
   ·rw[if_neg hm,musDL_none];cases rgF cells r pk (i+1) ar wi s2 with
    | none=>rfl
    | some z =>
     obtain⟨s3,rest⟩:=z;simp only[Fs.len,List.replicate_succ,List.cons.injEq,hm,false_and,if_false]
def gdE (cells:List Int)(e:Ex)(ar wi:Nat)(s:Rg):Prop:=¬(4096<s.1+1\/4<wi\/nmP e.k e.nm=false\/nuP cells.length e.k e.n ar=false)
theorem rg_all {cells:List Int}{e:Ex}{ar wi:Nat}{s:Rg}(m g:Int)(hg:gdE cells e ar wi s)(h21:e.k≠21)(h26:e.k≠26)(hf:∀ kd:List Int,kd.length=e.kids.len->formP e.k e.n kd=(List.replicate e.kids.len m,g))(h0:g≠0) :
  rgE cells e ar wi s=anD (musDL cells e.kids (some (s.1+1,s.2)) m ar wi) g:=by
 unfold rgE;rw[if_neg hg,rg_list cells e.k m ar wi h21 e.kids 0];cases hr:rgF cells e.kids e.k 0 ar wi (s.1+1,s.2) with
 | none=>rfl
 | some z =>
  obtain⟨s1,kd⟩:=z;simp only;rw[hf kd (rgF_len _ _ _ _ _ _ _ _ _ hr)];simp only;by_cases hk:kd=List.replicate e.kids.len m
  ·rw[if_pos hk,if_neg (by rintro (h|h);exact h0 h;exact h hk.symm),if_neg h26];rfl
  ·rw[if_neg hk,if_pos (.inr (fun h=>hk h.symm))];rfl
theorem gd_bad {cells:List Int}{e:Ex}{ar wi:Nat}{s:Rg}(h:¬gdE cells e ar wi s):rgE cells e ar wi s=none:=by
 unfold rgE;unfold gdE at h;rw[if_pos (Classical.not_not.1 h)]
theorem rg_alike {cells:List Int}{k n:Int}{nm:List UInt8}{a:Int}{x y:Ex}{ar wi:Nat}{s:Rg}(hk:k=13\/k=14)(hg:gdE cells ⟨k,n,nm,a,Fs.ex x (Fs.ex y .nil)⟩ ar wi s) :
  rgE cells ⟨k,n,nm,a,Fs.ex x (Fs.ex y .nil)⟩ ar wi s=(match rgE cells x ar wi (s.1+1,s.2) with
   | none=>none
   | some (s1,k0)=>if k0=4 then none else anD (musD cells (some s1) k0 y ar wi) 2):=by
 have hsp:∀ i,spotP k i ar wi=(ar,wi):=fun i=>by unfold spotP;rw[if_neg (by omega)]
 conv=>lhs;unfold rgE
 rw[if_neg hg];simp only;rw[rg_ex,hsp];simp only;cases hx:rgE cells x ar wi (s.1+1,s.2) with
 | none=>rfl
 | some z =>
  obtain⟨s1,k0⟩:=z;have h0:=rgE_pos hx;simp only;rw[rg_ex,hsp];simp only[musD];cases hy:rgE cells y ar wi s1 with
  | none=>simp only[anD];split<;>rfl
  | some z =>
   obtain⟨s2,k1⟩:=z;have h1:=rgE_pos hy;simp only[rgF];have hf:formP k n [k0,k1]=([wkP [k0,k1] 0,wkP [k0,k1] 0],2):=by
    unfold formP;rcases hk with rfl|rfl<;>simp
   rw[hf];have hw:wkP [k0,k1] 0=if k0=4 then 0 else k0:=rfl;rw[hw];by_cases h4:k0=4
   ·rw[if_pos h4,if_pos h4,if_pos (.inr (by intro h;injection h with h;exact h0 h.symm))]
   ·rw[if_neg h4,if_neg h4];by_cases h5:k1=k0
    ·subst h5;rw[if_neg (by rintro (h|h);cases h;exact h rfl),if_neg (by omega),if_pos rfl];rfl
    ·rw[if_pos (.inr (by intro h;injection h with _ h;injection h with h;exact h5 h.symm)),if_neg h5];rfl
theorem rg_choice {cells:List Int}{n:Int}{nm:List UInt8}{a:Int}{x y z:Ex}{ar wi:Nat}{s:Rg}(hg:gdE cells ⟨19,n,nm,a,Fs.ex x (Fs.ex y (Fs.ex z .nil))⟩ ar wi s) :
  rgE cells ⟨19,n,nm,a,Fs.ex x (Fs.ex y (Fs.ex z .nil))⟩ ar wi s=(match musD cells (some (s.1+1,s.2)) 2 x ar wi with
   | none=>none
   | some s0=>match rgE cells y ar wi s0 with
    | none=>none
    | some (s1,k0)=>if k0=4 then none else anD (musD cells (some s1) k0 z ar wi) k0):=by
 have hsp:∀ i,spotP 19 i ar wi=(ar,wi):=fun i=>by unfold spotP;rw[if_neg (by omega)]
 conv=>lhs;unfold rgE
 rw[if_neg hg];simp only;rw[rg_ex,hsp];simp only[musD];cases hx:rgE cells x ar wi (s.1+1,s.2) with
 | none=>rfl
 | some u =>
  obtain⟨s0,kx⟩:=u;simp only;rw[rg_ex,hsp];simp only;cases hy:rgE cells y ar wi s0 with
  | none =>
   simp only;by_cases h2:kx=2
   ·rw[if_pos h2];simp only[hy]
   ·rw[if_neg h2]
  | some u =>
   obtain⟨s1,k0⟩:=u;have h0:=rgE_pos hy;simp only;rw[rg_ex,hsp];simp only;have hf:∀ k1,formP 19 n [kx,k0,k1]=([2,if k0=4 then 0 else k0,if k0=4 then 0 else k0],if k0=4 then 0 else k0):=fun k1=>by
    unfold formP;simp[wkP]
   by_cases h2:kx=2
   ·subst h2;rw[if_pos rfl];simp only[hy];cases hz:rgE cells z ar wi s1 with
    | none=>simp only[anD];split<;>rfl
    | some u =>
     obtain⟨s2,k1⟩:=u;simp only[rgF];rw[hf];by_cases h4:k0=4
     ·simp only[h4,if_true];rw[if_pos (.inl trivial)]
     ·simp only[h4,if_false];by_cases h5:k1=k0
      ·subst h5;rw[if_neg (by rintro (h|h);exact h0 h;exact h rfl),if_neg (by omega),if_pos rfl];rfl
      ·rw[if_pos (.inr (by intro h;injection h with _ h;injection h with _ h;injection h with h;exact h5 h.symm)),if_neg h5];rfl
   ·rw[if_neg h2];cases hz:rgE cells z ar wi s1 with
    | none=>rfl
    | some u =>
     obtain⟨s2,k1⟩:=u;simp only[rgF];rw[hf];simp only;rw[if_pos (.inr (by intro h;injection h with h;exact h2 h.symm))]
theorem rg_quant {cells:List Int}{n:Int}{nm:List UInt8}{a:Int}{t x:Ex}{ar wi:Nat}{s:Rg}(hg:gdE cells ⟨21,n,nm,a,Fs.ex t (Fs.ex x .nil)⟩ ar wi s)(hn:1<=n/\n<=6) :
  rgE cells ⟨21,n,nm,a,Fs.ex t (Fs.ex x .nil)⟩ ar wi s=anD (musD cells (musD cells (some (s.1+1,s.2)) 4 t ar (wi+1)) (bodyT n) x (ar+1) (wi+1)) (wholeT n):=by
 have hs0:spotP 21 0 ar wi=(ar,wi+1):=rfl;have hs1:spotP 21 1 ar wi=(ar+1,wi+1):=rfl
 conv=>lhs;unfold rgE
 rw[if_neg hg];simp only;rw[rg_ex,hs0];simp only[musD];have hf:∀ k0 k1,formP 21 n [k0,k1]=([4,bodyT n],wholeT n):=fun k0 k1=>by
  have h6:n=1\/n=2\/n=3\/n=4\/n=5\/n=6:=by omega
  rcases h6 with rfl|rfl|rfl|rfl|rfl|rfl<;>rfl
 have hw:wholeT n≠0:=by unfold wholeT;split<;>omega
 cases ht:rgE cells t ar (wi+1) (s.1+1,s.2) with
 | none=>rfl
 | some u =>
  obtain⟨s0,k0⟩:=u;simp only;rw[rg_ex,hs1];simp only;by_cases h4:k0=4
  ·subst h4;rw[if_pos rfl];simp only;cases hx:rgE cells x (ar+1) (wi+1) s0 with
   | none=>rfl
   | some u =>
    obtain⟨s1,k1⟩:=u;simp only[rgF];rw[hf];simp only;by_cases h5:k1=bodyT n
    ·rw[if_neg (by rintro (h|h);exact hw h;exact h (by rw[h5])),if_neg (by omega),if_pos h5];rfl
    ·rw[if_pos (.inr (by intro h;injection h with _ h;injection h with h;exact h5 h.symm)),if_neg h5];rfl
  ·rw[if_neg h4];simp only[anD];cases hx:rgE cells x (ar+1) (wi+1) s0 with
   | none=>rfl
   | some u =>
    obtain⟨s1,k1⟩:=u;simp only[rgF];rw[hf];simp only;rw[if_pos (.inr (by intro h;injection h with h;exact h4 h.symm))]
theorem rg_deep {cells:List Int}{e:Ex}{ar wi:Nat}{s:Rg}(h:4<wi):rgE cells e ar wi s=none:=gd_bad (fun hg=>hg (.inr (.inl h)))
theorem musD_deep {cells:List Int}{st:Dg}{m:Int}{e:Ex}{ar wi:Nat}(h:4<wi):musD cells st m e ar wi=none:=by
 unfold musD;cases st with
 | none=>rfl
 | some s=>simp only[rg_deep h]
theorem rg_cell {cells:List Int}{n:Int}{nm:List UInt8}{a:Int}{x:Ex}{ar wi:Nat}{s:Rg}(hg:gdE cells ⟨26,n,nm,a,Fs.ex x .nil⟩ ar wi s) :
  rgE cells ⟨26,n,nm,a,Fs.ex x .nil⟩ ar wi s=(match rgE cells x ar wi (s.1+1,s.2) with
   | none=>none
   | some (s1,k0)=>if k0=4 then none else anD (keepP cells n (Fs.ex x .nil) ar s1) k0):=by
 have hsp:∀ i,spotP 26 i ar wi=(ar,wi):=fun i=>by unfold spotP;rw[if_neg (by omega)]
 conv=>lhs;unfold rgE
 rw[if_neg hg];simp only;rw[rg_ex,hsp];simp only;cases hx:rgE cells x ar wi (s.1+1,s.2) with
 | none=>rfl
 | some u =>
  obtain⟨s1,k0⟩:=u;have h0:=rgE_pos hx;simp only[rgF];have hf:formP 26 n [k0]=([if k0=4 then 0 else k0],if k0=4 then 0 else k0):=by
   unfold formP;simp[wkP]
  rw[hf];simp only;by_cases h4:k0=4
  ·simp only[h4,if_true];rw[if_pos (.inl trivial)]
  ·simp only[h4,if_false,if_true];rw[if_neg (by rintro (h|h);exact h0 h;exact h rfl)];cases keepP cells n (Fs.ex x .nil) ar s1 with
   | none=>rfl
   | some s2=>rfl
def docF (k n:Int)(nm:List UInt8)(len:Nat):Bool :=
 if k=1 then nm==[]&&len==0
 else if k=2 then (n==0||n==1)&&(nm==[]&&len==0)
 else if k=3\/k=5 then decide (0<=n)&&(nm==[]&&len==0)
 else if k=6\/k=7\/k=24 then n==0&&(nm==[]&&len==1)
 else if 8<=k/\k<=18 then n==0&&(nm==[]&&len==2)
 else if k=19 then n==0&&(nm==[]&&len==3)
 else if k=20 then nm==[]&&((decide (1<=n)&&decide (n<=3)&&len==2)||(decide (4<=n)&&decide (n<=10)&&len==1))
 else if k=21 then decide (1<=n)&&(decide (n<=6)&&(nm==[]&&len==2))
 else if k=22 then n==0&&(nm==[]&&len==0)
 else if k=23 then n==0&&(len==0&&nameB nm)
 else if k=25 then n==0&&nm==[]
 else if k=26 then nm==[]&&len==1
 else false
theorem rgE_inv {cells:List Int}{e:Ex}{ar wi:Nat}{s s':Rg}{k:Int}(h:rgE cells e ar wi s=some (s',k)) :
  gdE cells e ar wi s/\∃s1 kd,rgF cells e.kids e.k 0 ar wi (s.1+1,s.2)=some (s1,kd)/\kd.length=e.kids.len/\(formP e.k e.n kd).2≠0/\(formP e.k e.n kd).1=kd/\k=(formP e.k e.n kd).2/\(if e.k=26 then keepP cells e.n e.kids ar s1 else some s1)=some s':=by
 unfold rgE at h;split at h
 ·cases h
 ·rename_i hg
  split at h
  ·cases h
  ·rename_i s1 kd hr
   split at h
   ·cases h
   ·rename_i h2
    split at h
    ·cases h
    ·rename_i s2 h3
     injection h with h
     injection h with h4 h5
     subst h4;exact⟨hg,s1,kd,hr,rgF_len _ _ _ _ _ _ _ _ _ hr,fun h=>h2 (.inl h),Classical.not_not.1 (fun h=>h2 (.inr h)),h5.symm,h3⟩
theorem formP_kind {k n:Int}{kd:List Int}(h:(formP k n kd).2≠0):(1<=k/\k<=3)\/(5<=k/\k<=26):=by
 apply Classical.byContradiction;intro hc;apply h;unfold formP
 repeat rw[if_neg (by omega)]
theorem docF_of {cells:List Int}{e:Ex}{ar wi:Nat}{s s':Rg}{k:Int}(h:rgE cells e ar wi s=some (s',k)):docF e.k e.n e.nm e.kids.len=true:=by
 obtain⟨hg,s1,kd,-,hl,h0,h1,-,-⟩:=rgE_inv h;obtain⟨k0,n,nm,a,f⟩:=e;unfold gdE at hg;simp only at hg hl h0 h1 ⊢;clear h;have hk:=formP_kind h0;have hlen:(formP k0 n kd).1.length=f.len:=by rw[h1,hl]
 have hc:k0=1\/k0=2\/k0=3\/k0=5\/k0=6\/k0=7\/k0=8\/k0=9\/k0=10\/k0=11\/k0=12\/k0=13\/k0=14\/k0=15\/k0=16\/k0=17\/k0=18\/k0=19\/k0=20\/k0=21\/k0=22\/k0=23\/k0=24\/k0=25\/k0=26:=by omega
 clear h0 h1 hl hk;generalize f.len=m at hlen ⊢;rcases hc with rfl|rfl|rfl|rfl|rfl|rfl|rfl|rfl|rfl|rfl|rfl|rfl|rfl|rfl|rfl|rfl|rfl|rfl|rfl|rfl|rfl|rfl|rfl|rfl|rfl <;>
  simp[nmP,nuP] at hg<;>simp[formP] at hlen<;>simp[docF,hg,<-hlen]
 ·omega
 ·have h10:n=1\/n=2\/n=3\/n=4\/n=5\/n=6\/n=7\/n=8\/n=9\/n=10:=by omega
  rcases h10 with rfl|rfl|rfl|rfl|rfl|rfl|rfl|rfl|rfl|rfl<;>simp
 ·have h10:n=1\/n=2\/n=3\/n=4\/n=5\/n=6:=by omega
  rcases h10 with rfl|rfl|rfl|rfl|rfl|rfl<;>simp
theorem docF_bad {cells:List Int}{e:Ex}{ar wi:Nat}{s:Rg}(h:docF e.k e.n e.nm e.kids.len=false):rgE cells e ar wi s=none:=by
 cases hr:rgE cells e ar wi s with
 | none=>rfl
 | some z =>
  obtain⟨s',k⟩:=z;rw[docF_of hr] at h;cases h
theorem docF_kind {k n:Int}{nm:List UInt8}{len:Nat}(h:docF k n nm len=true):k=1\/k=2\/k=3\/k=5\/k=6\/k=7\/k=8\/k=9\/k=10\/k=11\/k=12\/k=13\/k=14\/k=15\/k=16\/k=17\/k=18\/k=19\/k=20\/k=21\/k=22\/k=23\/k=24\/k=25\/k=26:=by
 apply Classical.byContradiction;intro hc;unfold docF at h
 repeat rw[if_neg (by omega)] at h
 cases h
theorem docF_gd {cells:List Int}{e:Ex}{ar wi:Nat}{s:Rg}(h:docF e.k e.n e.nm e.kids.len=true)(hs:s.1+1<=4096)(hw:wi<=4)(h5:e.k=5->e.n<(ar:Int))(h26:e.k=26->0<=e.n/\e.n<(cells.length:Int)):gdE cells e ar wi s:=by
 obtain⟨k0,n,nm,a,f⟩:=e;have hc:=docF_kind h;simp only at h h5 h26 hc;unfold gdE;simp only;generalize f.len=m at h;have h1:nmP k0 nm=true/\nuP cells.length k0 n ar=true:=by
  rcases hc with rfl|rfl|rfl|rfl|rfl|rfl|rfl|rfl|rfl|rfl|rfl|rfl|rfl|rfl|rfl|rfl|rfl|rfl|rfl|rfl|rfl|rfl|rfl|rfl|rfl <;>
   simp[docF] at h<;>simp[nmP,nuP,h]<;>first|exact h5 rfl|exact h26 rfl|omega
 rw[h1.1,h1.2];simp;omega
def kndD (cells:List Int)(e:Ex)(ar wi:Nat)(s:Rg):Option (Rg × Int) :=
 match rgE cells e ar wi s with
 | none=>none
 | some (s',k)=>if k=4 then none else some (s',k)
theorem kndD_none {cells:List Int}{e:Ex}{ar wi:Nat}{s:Rg}(h:rgE cells e ar wi s=none):kndD cells e ar wi s=none:=by unfold kndD;rw[h]
theorem kndD_an {cells:List Int}{e:Ex}{ar wi:Nat}{s:Rg}{r:Dg}{g:Int}(h:rgE cells e ar wi s=anD r g)(hg:g≠4):kndD cells e ar wi s=anD r g:=by
 unfold kndD;rw[h];cases r with
 | none=>rfl
 | some s'=>simp only[anD];rw[if_neg hg]
theorem musD_knd {cells:List Int}{e:Ex}{ar wi:Nat}{s:Rg}{m:Int}(hm:m≠4):musD cells (some s) m e ar wi=(match kndD cells e ar wi s with|none=>none|some (s',k)=>if k=m then some s' else none):=by
 simp only[musD,kndD];cases rgE cells e ar wi s with
 | none=>rfl
 | some z =>
  obtain⟨s',k⟩:=z;simp only;by_cases h4:k=4
  ·rw[if_pos h4,if_neg (by omega)]
  ·rw[if_neg h4]
theorem sameF_tr:∀ {x y:Fs} (z:Fs),sameF x y=true->sameF y z=sameF x z
 | ⟨none⟩,⟨none⟩,z,h=>rfl
 | ⟨none⟩,⟨some ⟨k',n',nm',a',ks',r'⟩⟩,z,h=>by cases h
 | ⟨some ⟨k,n,nm,a,ks,r⟩⟩,⟨none⟩,z,h=>by cases h
 | ⟨some ⟨k,n,nm,a,ks,r⟩⟩,⟨some ⟨k',n',nm',a',ks',r'⟩⟩,⟨none⟩,h=>rfl
 | ⟨some ⟨k,n,nm,a,ks,r⟩⟩,⟨some ⟨k',n',nm',a',ks',r'⟩⟩,⟨some ⟨k2,n2,nm2,a2,ks2,r2⟩⟩,h=>by
  simp only[sameF,Bool.and_eq_true,beq_iff_eq] at h;obtain⟨⟨⟨⟨h1,h2⟩,h3⟩,h4⟩,h5⟩:=h;subst h1;subst h2;subst h3;simp only[sameF,sameF_tr ks2 h4,sameF_tr r2 h5]
theorem sameE_tr {x y:Ex}(z:Ex)(h:sameE x y=true):sameE y z=sameE x z:=by
 unfold sameE at h ⊢;simp only[Bool.and_eq_true,beq_iff_eq] at h;obtain⟨⟨⟨h1,h2⟩,h3⟩,h4⟩:=h;rw[h1,h2,h3,sameF_tr z.kids h4]
theorem hgF_pos (ar:Int):∀ (f:Fs),0<=hgF f ar
 | ⟨none⟩=>by simp[hgF]
 | ⟨some ⟨k,n,nm,a,ks,r⟩⟩=>by
  have:=hgF_pos ar r
  simp only[hgF];exact Int.le_trans this (Int.le_max_right _ _)
theorem hgF_le (ar:Int)(h0:0<=ar):∀ (f:Fs),hgF f ar<=ar
 | ⟨none⟩=>by simpa [hgF] using h0
 | ⟨some ⟨k,n,nm,a,ks,r⟩⟩=>by
  have h1:=hgF_le ar h0 ks;have h2:=hgF_le ar h0 r;have h3:(if k=5/\n<ar then n+1 else 0)<=ar:=by split<;>omega
  simp only[hgF];generalize (if k=5/\n<ar then n+1 else 0)=z at h3 ⊢;omega
theorem hgE_le (ar:Int)(h0:0<=ar)(e:Ex):hgE e ar<=ar:=by
 have h1:=hgF_le ar h0 e.kids;have h3:(if e.k=5/\e.n<ar then e.n+1 else 0)<=ar:=by split<;>omega
 unfold hgE;generalize (if e.k=5/\e.n<ar then e.n+1 else 0)=z at h3 ⊢;omega
theorem hgE_pos (ar:Int)(e:Ex):0<=hgE e ar:=by
 have:=hgF_pos ar e.kids
 unfold hgE;omega
structure Wo where
 op:Nat
 a:Nat
 b:Nat
structure Em where
 ws:List Wo
 cs:List Int
 ns:List (List UInt8)
 ks:List Int
 dp:Nat
def Em.lay (s:Em)(op a b:Nat):Em:=⟨s.ws++[⟨op,a,b⟩],s.cs,s.ns,s.ks,s.dp⟩
def Em.push (s:Em)(op a b u:Nat):Em:=⟨s.ws++[⟨op,a,b⟩],s.cs,s.ns,s.ks,max s.dp (u+1)⟩
def Em.kc (s:Em)(n:Int):Em:=⟨s.ws,if n ∈ s.cs then s.cs else s.cs++[n],s.ns,s.ks,s.dp⟩
def Em.kn (s:Em)(x:List UInt8):Em:=⟨s.ws,s.cs,if x ∈ s.ns then s.ns else s.ns++[x],s.ks,s.dp⟩
def Em.con (s:Em)(n:Int)(kd u:Nat):Em:=(s.kc n).push 1 (s.cs.idxOf n) kd u
def Wo.to (x:Wo)(n:Nat):Wo:=if x.op=17 then ⟨x.op,x.a,n⟩ else ⟨x.op,n,x.b⟩
def Em.land (s:Em)(i:Nat):Em:=⟨s.ws.modify i (fun x=>x.to s.ws.length),s.cs,s.ns,s.ks,s.dp⟩
def Em.cel (s:Em)(i:Nat)(k:Int):Em:=⟨s.ws,s.cs,s.ns,s.ks.set i k,s.dp⟩
def Em.fork (s:Em)(op:Nat)(f g:Em->Em):Em:=(g (((f (s.lay op 0 0)).lay 13 0 0).land s.ws.length)).land (f (s.lay op 0 0)).ws.length
def cakN (n:Int):Int:=if n=1\/n=2 then 2 else if n=10 then 3 else 1
def qukN (n:Int):Int:=if n=1\/n=2 then 2 else 1
def kdN (k n:Int)(ks:List Int):Int :=
 if k=1\/k=6\/(8<=k/\k<=12) then 1 else if k=3\/k=5 then 3 else if k=19 then ks.getD 1 0 else if k=26 then ks.getD 0 0 else if k=20 then cakN n else if k=21 then qukN n else 2
def kdF:Fs->List Int
 | ⟨none⟩=>[]
 | ⟨some ⟨k,n,_,_,ks,r⟩⟩=>kdN k n (kdF ks)::kdF r
def kdE (e:Ex):Int:=kdN e.k e.n (kdF e.kids)
abbrev Tr:=Nat->Nat->Em->Em
def seqT:List Tr->Nat->Nat->Nat->Em->Em
 | [],_,_,_,s=>s
 | t::r,i,ar,u,s=>seqT r (i+1) ar u (t ar (u+i) s)
def barN (k:Int):Nat:=if k=6 then 4 else if k=7 then 5 else if k=8 then 6 else if k=9 then 7 else if k=10 then 8 else if k=11 then 9 else if k=12 then 10 else if k=22 then 20 else 22
def opr (k n:Int)(nm:List UInt8)(kk:List Int)(s:Em):Em :=
 if k=13 then s.lay 11 0 (kk.getD 0 0).toNat else if k=14 then (s.lay 11 0 (kk.getD 0 0).toNat).lay 5 0 0 else if k=15 then s.lay 12 0 0 else if k=16 then s.lay 12 0 1
 else if k=20 then s.lay 16 n.toNat 0 else if k=23 then (s.kn nm).lay 21 (s.ns.idxOf nm) 0 else if k=25 then s.lay 23 kk.length 0 else s.lay (barN k) 0 0
def clrs (h:Nat):List Int->Nat->Em->Em
 | [],_,s=>s
 | l::r,i,s=>clrs h r (i+1) (if l=(h:Int) then s.lay 19 i 0 else s)
def bdy (lv:List Int)(t:Tr):Tr:=fun ar u s=>t (ar+1) u (clrs (ar+1) lv 0 s)
def srch (lv:List Int)(t:Tr)(op:Nat)(v:Int):Tr:=fun ar u s =>
 s.fork 24 (fun x=>(((bdy lv t ar u x).lay op s.ws.length 0).lay 25 0 0).con v 2 u) (fun x=>x.con (1-v) 2 u)
def gath (lv:List Int)(t:Tr)(f:Nat->Em->Em):Tr:=fun ar u s =>
 ((f s.ws.length (bdy lv t ar u (s.lay 24 0 0))).lay 13 s.ws.length 0).land s.ws.length
def qua (lv:List Int)(n:Int)(a t:Tr):Tr:=fun ar u s =>
 if n=1 then srch lv t 15 0 ar u (a ar u s) else if n=2 then srch lv t 14 1 ar u (a ar u s)
 else if n=3 then gath lv t (fun g x=>((x.lay 14 g 0).con 1 1 (u+1)).lay 6 0 0) ar (u+1) ((a ar u s).con 0 1 u)
 else if n=4 then gath lv t (fun _ x=>x.lay 6 0 0) ar (u+1) ((a ar u s).con 0 1 u)
 else (gath lv t (fun _ x=>x.lay 26 (n-5).toNat 0) ar (u+2) (((a ar u s).con 0 1 u).con 0 2 (u+1))).lay 27 0 0
abbrev noT:Tr:=fun _ _ s=>s
def prt (lv:List Int)(k n:Int)(nm:List UInt8)(kk:List Int)(T:List Tr):Tr:=fun ar u s =>
 if k=1 then s.con n 1 u else if k=2 then s.con n 2 u else if k=3 then (s.kc n).push 2 (s.cs.idxOf n) 0 u else if k=5 then s.push 3 n.toNat 0 u
 else if k=17 then (T.getD 0 noT ar u s).fork 14 (T.getD 1 noT ar u) (fun x=>x.con 0 2 u)
 else if k=18 then (T.getD 0 noT ar u s).fork 15 (T.getD 1 noT ar u) (fun x=>x.con 1 2 u)
 else if k=19 then (T.getD 0 noT ar u s).fork 14 (T.getD 1 noT ar u) (T.getD 2 noT ar u)
 else if k=26 then ((T.getD 0 noT ar u ((s.cel n.toNat (kk.getD 0 0)).lay 17 n.toNat 0)).lay 18 n.toNat 0).land s.ws.length
 else if k=21 then qua lv n (T.getD 0 noT) (T.getD 1 noT) ar u s
 else opr k n nm kk (seqT T 0 ar u s)
def emF (lv:List Int):Fs->List Tr
 | ⟨none⟩=>[]
 | ⟨some ⟨k,n,nm,_,ks,r⟩⟩=>prt lv k n nm (kdF ks) (emF lv ks)::emF lv r
def emE (lv:List Int)(e:Ex):Tr:=prt lv e.k e.n e.nm (kdF e.kids) (emF lv e.kids)
def em0 (lv:List Int):Em:=⟨[],[],[],List.replicate lv.length 1,0⟩
def emA (lv:List Int)(e:Ex):Em:=(emE lv e 0 0 (em0 lv)).lay 0 0 0
def okN (nc:Nat)(k n:Int)(nm:List UInt8)(len:Nat):Prop:=docF k n nm len=true/\(k=5->n<=3)/\(k=26->0<=n/\n<(nc:Int))/\(-9223372036854775808<=n/\n<=9223372036854775807)
def okF (nc:Nat):Fs->Prop
 | ⟨none⟩=>True
 | ⟨some ⟨k,n,nm,_,ks,r⟩⟩=>okN nc k n nm ks.len/\okF nc ks/\okF nc r
def okE (nc:Nat)(e:Ex):Prop:=okN nc e.k e.n e.nm e.kids.len/\okF nc e.kids
theorem kindP_inv {cells:List Int}{e:Ex}(h:kindP cells e≠0):cells.length<=256/\(∀ c,c ∈ cells->0<=c/\c<=4)/\∃s,rgE cells e 0 0 (0,fun _=>none)=some (s,kindP cells e)/\kindP cells e≠4:=by
 have h0:=h;unfold kindP at h ⊢;split at h
 ·exact absurd rfl h
 ·rename_i h1
  rw[if_neg h1];have h2:rgF cells (one e) 0 0 0 0 (0,fun _=>none)=_:=rg_ex cells e .nil 0 0 0 0 (0,fun _=>none);have hsp:spotP 0 0 0 0=(0,0):=rfl;rw[hsp] at h2;simp only at h2;refine⟨by omega,?_,?_⟩
  ·intro c hc;have h3:¬(cells.any (fun c=>decide (c<0)||decide (4<c))=true):=fun h=>h1 (.inr h);simp only[List.any_eq_true,not_exists,not_and,Bool.or_eq_true,decide_eq_true_eq] at h3
   have:=h3 c hc
   omega
  ·cases hx:rgE cells e 0 0 (0,fun _=>none) with
   | none=>rw[h2,hx] at h;exact absurd rfl h
   | some z =>
    obtain⟨s,k⟩:=z;rw[h2,hx] at h ⊢;simp only[rgF] at h ⊢;by_cases h4:k=4
    ·rw[if_pos h4] at h;exact absurd rfl h
    ·rw[if_neg h4];exact⟨s,rfl,h4⟩
theorem kindP_knd {cells:List Int}{e:Ex}(h1:cells.length<=256)(h2:∀ c,c ∈ cells->0<=c/\c<=4):kindP cells e=(match kndD cells e 0 0 (0,fun _=>none) with|none=>0|some (_,k)=>k):=by
 unfold kindP;have h3:¬(256<cells.length\/cells.any (fun c=>decide (c<0)||decide (4<c))=true):=by
  rintro (h|h)
  ·omega
  ·simp only[List.any_eq_true,Bool.or_eq_true,decide_eq_true_eq] at h;obtain⟨c,hc,h⟩:=h
   have:=h2 c hc
   omega
 rw[if_neg h3];have h4:rgF cells (one e) 0 0 0 0 (0,fun _=>none)=_:=rg_ex cells e .nil 0 0 0 0 (0,fun _=>none);have hsp:spotP 0 0 0 0=(0,0):=rfl;rw[h4,hsp];unfold kndD;simp only;cases rgE cells e 0 0 (0,fun _=>none) with
 | none=>rfl
 | some z =>
  obtain⟨s,k⟩:=z;simp only[rgF];split<;>rfl
theorem kindP_big {cells:List Int}{e:Ex}(h:256<cells.length):kindP cells e=0:=by unfold kindP;rw[if_pos (.inl h)]
theorem keepP_num {cells:List Int}{n:Int}{ks:Fs}{ar:Nat}{s s':Rg}(h:keepP cells n ks ar s=some s'):s'.1=s.1:=by
 unfold keepP at h;split at h
 ·cases h
 ·split at h
  ·cases h
  ·split at h
   ·injection h with h;subst h;rfl
   ·split at h
    ·injection h with h;subst h;rfl
    ·cases h
theorem spot_le {pk:Int}{i ar wi:Nat}(h:ar<=wi):(spotP pk i ar wi).1<=(spotP pk i ar wi).2:=by
 unfold spotP;split
 ·simp only;split<;>omega
 ·exact h
theorem rg_node {cells:List Int}{e:Ex}{ar wi:Nat}{s s':Rg}{k:Int}(hx:rgE cells e ar wi s=some (s',k))(ha:ar<=wi)(hn:-9223372036854775808<=e.n/\e.n<=9223372036854775807):okN cells.length e.k e.n e.nm e.kids.len:=by
 have hd:=docF_of hx;obtain⟨hg,-⟩:=rgE_inv hx;unfold gdE at hg;simp only[not_or] at hg;obtain⟨g1,g2,g3,g4⟩:=hg;refine⟨hd,fun h5=>?_,fun h26=>?_,hn⟩
 ·rw[h5] at g4;simp[nuP] at g4;omega
 ·rw[h26] at g4;simp[nuP] at g4;omega
theorem rg_ok (cells:List Int):∀ (f:Fs) (pk:Int) (i ar wi:Nat) (s s':Rg) (kd:List Int),ar<=wi->rgF cells f pk i ar wi s=some (s',kd)->f.rng->okF cells.length f/\s'.1=s.1+f.size/\(s.1<=4096->s'.1<=4096)
 | ⟨none⟩,pk,i,ar,wi,s,s',kd,ha,h,hr=>by
  simp only[rgF] at h;injection h with h
  injection h with h1 h2
  subst h1;exact⟨trivial,rfl,id⟩
 | ⟨some ⟨k,n,nm,a,ks,r⟩⟩,pk,i,ar,wi,s,s',kd,ha,h,hr=>by
  have h0:rgF cells ⟨some ⟨k,n,nm,a,ks,r⟩⟩ pk i ar wi s=_:=rg_ex cells ⟨k,n,nm,a,ks⟩ r pk i ar wi s;rw[h0] at h;cases hx:rgE cells ⟨k,n,nm,a,ks⟩ (spotP pk i ar wi).1 (spotP pk i ar wi).2 s with
  | none=>rw[hx] at h;cases h
  | some z =>
   obtain⟨s2,k2⟩:=z;rw[hx] at h;simp only at h;cases hq:rgF cells r pk (i+1) ar wi s2 with
   | none=>rw[hq] at h;cases h
   | some z =>
    obtain⟨s3,rest⟩:=z;rw[hq] at h;injection h with h
    injection h with h1 h2
    subst h1;have hsp:=spot_le (pk:=pk) (i:=i) ha;have hnd:=rg_node hx hsp ⟨hr.1,hr.2.1⟩;obtain⟨hg,s1,kd1,hk,hl,hf1,hf2,hk2,h6⟩:=rgE_inv hx;simp only at hk hnd h6;obtain⟨a1,a2,a3⟩:=rg_ok cells ks k 0 _ _ _ _ _ hsp hk hr.2.2.1;obtain⟨b1,b2,b3⟩:=rg_ok cells r pk (i+1) ar wi _ _ _ ha hq hr.2.2.2;have hs2:s2.1=s1.1:=by
     split at h6
     ·exact keepP_num h6
     ·injection h6 with h6;rw[h6]
    have hsz:(⟨some ⟨k,n,nm,a,ks,r⟩⟩:Fs).size=ks.size+r.size+1:=rfl;unfold gdE at hg;simp only[not_or] at hg;refine⟨⟨hnd,a1,b1⟩,?_,fun hs=>?_⟩
    ·rw[hsz,b2,hs2,a2];simp only;omega
    ·exact b3 (by rw[hs2];exact a3 (by simp only;omega))
theorem kindP_ok {cells:List Int}{e:Ex}(h:kindP cells e≠0)(hn:-9223372036854775808<=e.n/\e.n<=9223372036854775807)(hr:e.kids.rng):okE cells.length e/\e.kids.size+1<=4096/\cells.length<=256/\∀ c,c ∈ cells->0<=c/\c<=4:=by
 obtain⟨h1,h2,s,hx,-⟩:=kindP_inv h;have hnd:=rg_node hx (Nat.le_refl 0) hn;obtain⟨hg,s1,kd1,hk,-,-,-,-,-⟩:=rgE_inv hx;obtain⟨a1,a2,a3⟩:=rg_ok cells e.kids e.k 0 0 0 _ _ _ (Nat.le_refl 0) hk hr;have h4:=a3 (by simp);rw[a2] at h4;simp only at h4;exact⟨⟨hnd,a1⟩,by omega,h1,h2⟩
end Go.Proofs.YtejnhibajmncaaaDoor

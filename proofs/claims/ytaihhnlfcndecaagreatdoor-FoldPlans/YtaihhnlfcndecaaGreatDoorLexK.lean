import Derived.Test.YtaihhnlfcndecaaGreatDoorLexP
import Derived.Test.YtaihhnlfcndecaaGreatDoorRows
import Derived.Deep.MidRow
import Derived.Deep.CutBlock
import Derived.Deep.DeepCutAuto
import Derived.Laws.ResultCell
import Derived.WalkLawsBesides
import Derived.Deep.RegionHeld3
import Derived.Deep.RegionHeld
namespace Go.Proofs.YtaihhnlfcndecaaGreatDoor
open Go.ChangeShapes Go.WideShapes Go.ChangeAt Go.RowKit
set_option linter.unusedVariables false
theorem Blk.set {w:World} {o:Nat→Nat} {i b:Nat} {cs:Array Value} {t:TypeId} (h:Blk w o i b (.cells cs t (0,0))) (j:Nat) (u:Value):Blk (w.setCell ⟨b,j,none⟩ u) o i b (.cells (cs.setIfInBounds j u) t (0,0)) :=
 ⟨heap_setCell_same w b j cs t u h.1,h.2⟩
theorem setStep (I:Nat→Prop) (w:World) (o:Nat→Nat) (p:Addr) (u:Value) (hp:I (o p.block)):Step I w o (w.setCell p u) o:=(Step.refl I w o).setCell p u hp
theorem allocStep (I:Nat→Prop) (w:World) (o:Nat→Nat) (ob:Obj):Step I w o (w.alloc ob) o:=(Step.refl I w o).alloc ob
theorem newStep (I:Nat→Prop) (w:World) (o:Nat→Nat) (L:Nat) (ob:Obj):Step I w o (w.alloc ob) (newLab w o L) :=
 ⟨rfl,rfl,rfl,by simp,fun k hk=>newLab_old hk,fun k hk _=>Below.heap_alloc w ob k hk⟩
theorem infoInt:(Tryz.prog.info? 3).map (fun i=>(i.zero,i.size,i.bytes))=some (some (.int .i64 0),1,8):=by kernel_rfl
theorem Blk.cells4 {w:World} {o:Nat→Nat} {i b:Nat} {a0 a1 a2 a3:Value} {t:TypeId} (h:Blk w o i b (.cells #[a0,a1,a2,a3] t (0,0))) :
  w.cell? ⟨b,0,none⟩=some a0∧w.cell? ⟨b,1,none⟩=some a1∧w.cell? ⟨b,2,none⟩=some a2∧w.cell? ⟨b,3,none⟩=some a3∧∀ j,w.frozen? ⟨b,j,none⟩=false:=by
 refine ⟨?_,?_,?_,?_,fun j=>frozen_of_row w b j _ t h.1⟩ <;> simp [cell_of_row w b _ _ t (0,0) h.1]
theorem ext_list (s:ByteArray) (a b:Nat):(s.extract a b).data.toList=(s.data.toList.drop a).take (b - a):=by
 rw [ByteArray.data_extract,Array.toList_extract,List.extract_eq_take_drop]
theorem ext_eq (s:ByteArray) (a b:Nat):s.extract a b=⟨((s.data.toList.drop a).take (b - a)).toArray⟩:=by
 rw [←ext_list,back_text]
theorem drop_at (l:List UInt8) (pos:Nat) (h:pos < l.length):l.drop pos=l[pos] :: l.drop (pos+1):=List.drop_eq_getElem_cons h
theorem Step.ofBelow {I:Nat→Prop} {w w':World} (o:Nat→Nat) (h:Below w.heap.size w w'):Step I w o w' o:=⟨h.os,h.tape,h.output,h.size,fun _ _=>rfl,fun k hk _=>h.block k hk⟩
theorem info_parts {P:Program} {t:TypeId} {z:Option Value} {s b:Nat} (h:(P.info? t).map (fun i=>(i.zero,i.size,i.bytes))=some (z,s,b)):∃ i,P.info? t=some i∧i.zero=z∧i.size=s∧i.bytes=b:=by
 cases hi:P.info? t with
 | none=>rw [hi] at h;cases h
 | some i =>
  rw [hi] at h
  injection h with h
  exact ⟨i,rfl,(congrArg (·.1) h),(congrArg (·.2.1) h),(congrArg (·.2.2) h)⟩
theorem new_four_at {w:World} {s:Nat} (hs:w.heap.size=s) (x y z q:Value) (t:TypeId):∀ j u,[x,y,z,q][j]?=some u→(w.alloc (.cells #[x,y,z,q] t)).cell? ((⟨s,0,none⟩:Addr).add j)=some u:=by
 subst hs
 intro j u hj
 match j,hj with
 | 0,hj=>simp at hj;subst hj;simp [Addr.add]
 | 1,hj=>simp at hj;subst hj;simp [Addr.add]
 | 2,hj=>simp at hj;subst hj;simp [Addr.add]
 | 3,hj=>simp at hj;subst hj;simp [Addr.add]
abbrev I3:Nat→Prop:=fun k=>k=1∨k=2∨k=3
theorem infoToken:(Tryz.prog.info? 57).map (fun i=>(i.zero,i.size,i.bytes))=some (some (.agg #[.int .i64 0,.int .i64 0,.string ⟨#[]⟩,.int .i64 0]),4,40):=by kernel_rfl
def tcells (ts:List Tk):List Value:=ts.flatMap fun x=>[.int .i64 (x.k:Nat),.int .i64 x.n,.string ⟨x.t.toArray⟩,.int .i64 (x.a:Nat)]
theorem tcells_more (ts:List Tk) (x:Tk):tcells (ts++[x])=tcells ts++[.int .i64 (x.k:Nat),.int .i64 x.n,.string ⟨x.t.toArray⟩,.int .i64 (x.a:Nat)]:=by
 simp [tcells]
def preR:List Tk→Res→Res
 | [],X=>X
 | x :: r,X=>consR x (preR r X)
theorem preR_more (ts:List Tk) (x:Tk) (X:Res):preR (ts++[x]) X=preR ts (consR x X):=by
 induction ts with
 | nil=>rfl
 | cons y r ih=>simp only [List.cons_append,preR,ih]
theorem preR_inl (ts:List Tk) (e:Nat × Nat):preR ts (.inl e)=.inl e:=by
 induction ts with
 | nil=>rfl
 | cons y r ih=>simp only [preR,ih];rfl
theorem preR_inr (ts us:List Tk):preR ts (.inr us)=.inr (ts++us):=by
 induction ts with
 | nil=>rfl
 | cons y r ih=>simp only [preR,ih];rfl
theorem ptok_err {k:Nat} {t:List UInt8} {a e:Nat} (h:ptok k t a=.inl e):e=110∨e=111∨e=112:=by
 unfold ptok at h
 split at h
 ·unfold wrdT at h
  repeat' split at h
  all_goals first | (injection h with h;omega) | cases h
 ·unfold numT at h
  repeat' split at h
  all_goals first | (injection h with h;omega) | cases h
 ·unfold sgnT at h
  split at h
  all_goals first | (injection h with h;omega) | cases h
 ·injection h with h
  omega
abbrev I4:Nat→Prop:=fun k=>k=1∨k=2∨k=3∨k=4
def ScanOut (w w':World) (v:Value) (er at0:Int) (R:Res):Prop :=
 (∃ e p,R=.inl (e,p)∧v=.slice none 0 0∧er=(e:Nat)∧at0=(p:Nat))∨(∃ ts,R=.inr ts∧er=0∧at0=0∧w'.ownsRow w.heap.size 57 4 v ts.length (tcells ts))
theorem Row.fresh {I:Nat→Prop} {w w':World} {o':Nat→Nat} {i:Nat} {e:TypeId} {size:Nat} {v:Value} {n:Nat} {xs:List Value} (r:Row w' o' (i+1) e size v n xs) (s:Step I w (fun _=>0) w' o'):w'.ownsRow w.heap.size e size v n xs:=by
 refine ⟨r.1.1,?_⟩
 rcases r.1.2 with h | ⟨g,cap,cur,rfl,hb,rest⟩
 ·exact .inl h
 ·refine .inr ⟨g,cap,cur,rfl,?_,rest⟩
  by_cases hg:g < w.heap.size
  ·have h1:=s.lab g hg
   have h2:=r.2 g rfl
   omega
  ·omega
theorem bdr {B:Nat} {w w':World} (h:Below B w w') (n:Nat):Below B w (w'.drewN n):=⟨h.os,h.tape,h.output,h.size,h.block⟩
structure Keep (rb:Nat) (w w':World):Prop where
 os:w'.os=w.os
 tape:w'.tape=w.tape
 output:w'.output=w.output
 size:w.heap.size≤w'.heap.size
 block:∀ k,k < w.heap.size→k≠rb→w'.heap[k]?=w.heap[k]?
theorem Keep.refl (rb:Nat) (w:World):Keep rb w w:=⟨rfl,rfl,rfl,Nat.le_refl _,fun _ _ _=>rfl⟩
theorem Keep.trans {rb:Nat} {a b c:World} (h:Keep rb a b) (k:Keep rb b c):Keep rb a c :=
 ⟨k.os.trans h.os,k.tape.trans h.tape,k.output.trans h.output,Nat.le_trans h.size k.size,fun i hi hn=>(k.block i (Nat.lt_of_lt_of_le hi h.size) hn).trans (h.block i hi hn)⟩
theorem Keep.ofBelow {rb:Nat} {w w':World} (h:Below w.heap.size w w'):Keep rb w w':=⟨h.os,h.tape,h.output,h.size,fun k hk _=>h.block k hk⟩
theorem Keep.alloc {rb:Nat} {a w:World} (h:Keep rb a w) (ob:Obj):Keep rb a (w.alloc ob) :=
 h.trans ⟨rfl,rfl,rfl,by simp,fun k hk _=>Below.heap_alloc w ob k hk⟩
theorem Keep.drew {rb:Nat} {a w:World} (h:Keep rb a w):Keep rb a w.drew:=⟨h.os,h.tape,h.output,h.size,h.block⟩
theorem Keep.set {rb:Nat} {a w:World} (h:Keep rb a w) (p:Addr) (u:Value) (hp:a.heap.size≤p.block∨p.block=rb):Keep rb a (w.setCell p u) :=
 ⟨h.os,h.tape,h.output,by simpa using h.size,fun k hk hn=>(heap_setCell_other w p k u (fun e=>by
  rcases hp with hp | hp
  ·omega
  ·exact hn (e.trans hp))).trans (h.block k hk hn)⟩
theorem Keep.below {rb n:Nat} {w w':World} (h:Keep rb w w') (hn:n≤rb) (hs:rb < w.heap.size):Below n w w':=⟨h.os,h.tape,h.output,h.size,fun k hk=>h.block k (by omega) (by omega)⟩
theorem Keep.cell {rb:Nat} {w w':World} (h:Keep rb w w') {b:Nat} (hb:b < w.heap.size) (hn:b≠rb) (j:Nat):w'.cell? ⟨b,j,none⟩=w.cell? ⟨b,j,none⟩:=World.cell?_of_block (a:=⟨b,j,none⟩) (h.block b hb hn)
abbrev stv (t:List UInt8):Value:=.string ⟨t.toArray⟩
def Fc (w:World) (P:Nat→Prop):Fs→List Value→Prop
 | ⟨none⟩,xs=>xs=[]
 | ⟨some ⟨k,n,nm,a,ks,r⟩⟩,xs=>∃ ao cap ys,xs=.int .i64 k :: .int .i64 n :: stv nm :: .slice ao ks.len cap :: .int .i64 a :: ys ∧
   (ks=.nil∨∃ b off zs,ao=some ⟨b,off,none⟩∧P b∧b < w.heap.size∧(∀ j u,zs[j]?=some u→w.cell? ⟨b,off+j,none⟩=some u)∧Fc w P ks zs)∧Fc w P r ys
def Sl (w:World) (P:Nat→Prop) (ks:Fs) (ao:Option Addr):Prop :=
 ks=.nil∨∃ b off zs,ao=some ⟨b,off,none⟩∧P b∧b < w.heap.size∧(∀ j u,zs[j]?=some u→w.cell? ⟨b,off+j,none⟩=some u)∧Fc w P ks zs
def exV (e:Ex) (ao:Option Addr) (cap:Nat):Value:=.agg #[.int .i64 e.k,.int .i64 e.n,stv e.nm,.slice ao e.kids.len cap,.int .i64 e.a]
theorem Fc.len {w:World} {P:Nat→Prop}:∀ {f:Fs} {xs:List Value},Fc w P f xs→xs.length=f.len * 5
 | ⟨none⟩,xs,h=>by
  have h:xs=[]:=h
  subst h
  rfl
 | ⟨some ⟨k,n,nm,a,ks,r⟩⟩,xs,h=>by
  obtain ⟨ao,cap,ys,rfl,_,h2⟩:=h
  have:=Fc.len h2
  simp only [List.length_cons,Fs.len]
  omega
theorem Fc.mono {w w':World} {P Q:Nat→Prop} (hb:∀ k,P k→k < w.heap.size→w'.heap[k]?=w.heap[k]?) (hs:w.heap.size≤w'.heap.size) (hq:∀ k,P k→k < w.heap.size→Q k):∀ {f:Fs} {xs:List Value},Fc w P f xs→Fc w' Q f xs
 | ⟨none⟩,xs,h=>h
 | ⟨some ⟨k,n,nm,a,ks,r⟩⟩,xs,h=>by
  obtain ⟨ao,cap,ys,rfl,h1,h2⟩:=h
  refine ⟨ao,cap,ys,rfl,?_,Fc.mono hb hs hq h2⟩
  rcases h1 with h1 | ⟨b,off,zs,rfl,hp,hlt,hc,h3⟩
  ·exact .inl h1
  ·exact .inr ⟨b,off,zs,rfl,hq b hp hlt,Nat.lt_of_lt_of_le hlt hs,fun j u hu=>(World.cell?_of_block (a:=⟨b,off+j,none⟩) (hb b hp hlt)).trans (hc j u hu),Fc.mono hb hs hq h3⟩
theorem Sl.mono {w w':World} {P Q:Nat→Prop} {f:Fs} {ao:Option Addr} (hb:∀ k,P k→k < w.heap.size→w'.heap[k]?=w.heap[k]?) (hs:w.heap.size≤w'.heap.size) (hq:∀ k,P k→k < w.heap.size→Q k) (h:Sl w P f ao):Sl w' Q f ao:=by
 rcases h with h | ⟨b,off,zs,rfl,hp,hlt,hc,h3⟩
 ·exact .inl h
 ·exact .inr ⟨b,off,zs,rfl,hq b hp hlt,Nat.lt_of_lt_of_le hlt hs,fun j u hu=>(World.cell?_of_block (a:=⟨b,off+j,none⟩) (hb b hp hlt)).trans (hc j u hu),h3.mono hb hs hq⟩
theorem Fc.app {w:World} {P:Nat→Prop}:∀ {f g:Fs} {xs ys:List Value},Fc w P f xs→Fc w P g ys→Fc w P (f.app g) (xs++ys)
 | ⟨none⟩,g,xs,ys,h,k=>by
  have h:xs=[]:=h
  subst h
  exact k
 | ⟨some ⟨i,n,nm,a,ks,r⟩⟩,g,xs,ys,h,k=>by
  obtain ⟨ao,cap,zs,rfl,h1,h2⟩:=h
  exact ⟨ao,cap,zs++ys,rfl,h1,Fc.app h2 k⟩
theorem Fc.one {w:World} {P:Nat→Prop} {e:Ex} {ao:Option Addr} (cap:Nat) (h:Sl w P e.kids ao):Fc w P (one e) [.int .i64 e.k,.int .i64 e.n,stv e.nm,.slice ao e.kids.len cap,.int .i64 e.a]:=⟨ao,cap,[],rfl,h,rfl⟩
theorem Sl.of {w:World} {P:Nat→Prop} {f:Fs} {b:Nat} {xs:List Value} (hp:P b) (hlt:b < w.heap.size) (hc:∀ j u,xs[j]?=some u→w.cell? ⟨b,0+j,none⟩=some u) (h:Fc w P f xs):Sl w P f (some ⟨b,0,none⟩):=.inr ⟨b,0,xs,rfl,hp,hlt,hc,h⟩
theorem Sl.nil (w:World) (P:Nat→Prop) (ao:Option Addr):Sl w P .nil ao:=.inl rfl
theorem tkcells_at:∀ (l:List Tk) (i:Nat) (x:Tk),l[i]?=some x→(tcells l)[i * 4]?=some (.int .i64 (x.k:Nat))∧(tcells l)[i * 4+1]?=some (.int .i64 x.n)∧(tcells l)[i * 4+2]?=some (stv x.t)∧(tcells l)[i * 4+3]?=some (.int .i64 (x.a:Nat))
 | [],i,x,h=>by simp at h
 | p :: r,0,x,h=>by
  simp at h
  subst h
  exact ⟨rfl,rfl,rfl,rfl⟩
 | p :: r,i+1,x,h=>by
  have e:tcells (p :: r)=.int .i64 (p.k:Nat) :: .int .i64 p.n :: stv p.t :: .int .i64 (p.a:Nat) :: tcells r:=rfl
  have e1:(i+1) * 4=i * 4+1+1+1+1:=by omega
  have ih:=tkcells_at r i x (by simpa using h)
  rw [e,e1]
  exact ih
abbrev Nw (n:Nat):Nat→Prop:=fun b=>n≤b
theorem Sl.keepN {rb n:Nat} {w w':World} {f:Fs} {ao:Option Addr} (h:Sl w (Nw n) f ao) (k:Keep rb w w') (hn:rb < n):Sl w' (Nw n) f ao:=h.mono (fun i hp hl=>k.block i hl (by have hp:n≤i:=hp;omega)) k.size (fun _ h _=>h)
theorem Sl.setN {n:Nat} {w:World} {f:Fs} {ao:Option Addr} (h:Sl w (Nw n) f ao) (p:Addr) (v:Value) (hp:p.block < n):Sl (w.setCell p v) (Nw n) f ao:=h.mono (fun i hp hl=>heap_setCell_other w p i v (by have hp:n≤i:=hp;omega)) (by simp) (fun _ h _=>h)
theorem Sl.allocN {n:Nat} {w:World} {f:Fs} {ao:Option Addr} (h:Sl w (Nw n) f ao) (ob:Obj):Sl (w.alloc ob) (Nw n) f ao:=h.mono (fun i hp hl=>Below.heap_alloc w ob i hl) (by simp) (fun _ h _=>h)
theorem Sl.low {n m:Nat} {w:World} {f:Fs} {ao:Option Addr} (h:Sl w (Nw n) f ao) (hm:m≤n):Sl w (Nw m) f ao:=h.mono (fun i hp hl=>rfl) (Nat.le_refl _) (fun i h _=>Nat.le_trans hm h)
theorem Fc.allocN {n:Nat} {w:World} {f:Fs} {xs:List Value} (h:Fc w (Nw n) f xs) (ob:Obj):Fc (w.alloc ob) (Nw n) f xs:=h.mono (fun i hp hl=>Below.heap_alloc w ob i hl) (by simp) (fun _ h _=>h)
theorem Blk.cells5 {w:World} {o:Nat→Nat} {i b:Nat} {a0 a1 a2 a3 a4:Value} {t:TypeId} (h:Blk w o i b (.cells #[a0,a1,a2,a3,a4] t (0,0))) :
  w.cell? ⟨b,0,none⟩=some a0∧w.cell? ⟨b,1,none⟩=some a1∧w.cell? ⟨b,2,none⟩=some a2∧w.cell? ⟨b,3,none⟩=some a3∧w.cell? ⟨b,4,none⟩=some a4∧∀ j,w.frozen? ⟨b,j,none⟩=false:=by
 refine ⟨?_,?_,?_,?_,?_,fun j=>frozen_of_row w b j _ t h.1⟩ <;> simp [cell_of_row w b _ _ t (0,0) h.1]
def opOf (t:Int):Option (List UInt8 × Nat × Nat × Nat × Nat):=opsL.find? fun x=>(x.2.1:Int) == t
def callOf (t:Int):Option (List UInt8 × Nat × Nat):=callsL.find? fun x=>(x.2.1:Int) == t
def quantOf (t:Int):Option (List UInt8 × Nat):=quantsL.find? fun x=>(x.2:Int) == t
end Go.Proofs.YtaihhnlfcndecaaGreatDoor
namespace Go.Proofs.YtaihhnlfcndecaaGreatDoor
open Go.ChangeShapes Go.WideShapes Go.ChangeAt Go.RowKit
set_option linter.unusedVariables false
set_option linter.unusedSimpArgs false
def isSetK (k:Int):Bool:=k == 22 || k == 23 || k == 24 || k == 25
def rowOf (k:Int):Nat:=if k == 19 || k == 21 then 0 else if k == 7 then 3 else if k == 6 then 7 else match opOf k with | some x=>x.2.2.1 | none=>8
def numB (k n:Int):Bool:=if k == 1 || k == 3 then decide (0≤n) else if k == 2 then n == 0 || n == 1 else if k == 20 then (callOf n).isSome else if k == 21 then (quantOf n).isSome else n == 0
def namB (k:Int) (nm:List UInt8):Bool:=if k == 4 || k == 23 || k == 21 then nameB nm else nm == []
def kidB (k n:Int) (m:Nat):Bool:=if k == 1 || k == 2 || k == 3 || k == 4 || k == 22 || k == 23 then (m:Int) == 0 else if k == 6 || k == 7 || k == 24 then (m:Int) == 1 else if k == 21 then (m:Int) == 2 else if k == 19 then (m:Int) == 3 else if k == 20 then (match callOf n with | some x=>(m:Int) == (x.2.2:Nat) | none=>(m:Int) == 0) else if k == 25 then true else (opOf k).isSome && (m:Int) == 2
theorem bne {k:Int} {c:Int} (h:k≠c):(k == c)=false:=by rw [beq_eq_false_iff_ne];exact h
end Go.Proofs.YtaihhnlfcndecaaGreatDoor
namespace Go.Proofs.YtaihhnlfcndecaaGreatDoor
open Go.ChangeShapes Go.WideShapes Go.ChangeAt Go.RowKit
set_option linter.unusedVariables false
theorem set4k {w:World} {b:Nat} {a0 a1 a2 a3 b0 b1 b2 b3:Value} {t:TypeId} (h:w.heap[b]?=some (.cells #[a0,a1,a2,a3] t (0,0))):((((w.setCell ⟨b,0,none⟩ b0).setCell ⟨b,1,none⟩ b1).setCell ⟨b,2,none⟩ b2).setCell ⟨b,3,none⟩ b3).heap[b]?=some (.cells #[b0,b1,b2,b3] t (0,0)):=by
 have h0:Blk w (fun _=>0) 0 b (.cells #[a0,a1,a2,a3] t (0,0)):=⟨h,rfl⟩
 exact ((((h0.set 0 b0).set 1 b1).set 2 b2).set 3 b3).1
abbrev exZ:Obj:=.cells #[.int .i64 0,.int .i64 0,.string ⟨#[]⟩,.slice none 0 0,.int .i64 0] 25
theorem set5k {w:World} {b:Nat} {a0 a1 a2 a3 a4:Value} (b0 b1 b2 b3 b4:Value) {t:TypeId} (h:w.heap[b]?=some (.cells #[a0,a1,a2,a3,a4] t (0,0))):(((((w.setCell ⟨b,0,none⟩ b0).setCell ⟨b,1,none⟩ b1).setCell ⟨b,2,none⟩ b2).setCell ⟨b,3,none⟩ b3).setCell ⟨b,4,none⟩ b4).heap[b]?=some (.cells #[b0,b1,b2,b3,b4] t (0,0)):=by
 have h0:Blk w (fun _=>0) 0 b (.cells #[a0,a1,a2,a3,a4] t (0,0)):=⟨h,rfl⟩
 exact (((((h0.set 0 b0).set 1 b1).set 2 b2).set 3 b3).set 4 b4).1
theorem Keep.set5 {rb:Nat} {a w:World} (h:Keep rb a w) {b:Nat} (hb:a.heap.size≤b) (b0 b1 b2 b3 b4:Value):Keep rb a (((((w.setCell ⟨b,0,none⟩ b0).setCell ⟨b,1,none⟩ b1).setCell ⟨b,2,none⟩ b2).setCell ⟨b,3,none⟩ b3).setCell ⟨b,4,none⟩ b4):=((((h.set ⟨b,0,none⟩ b0 (.inl hb)).set ⟨b,1,none⟩ b1 (.inl hb)).set ⟨b,2,none⟩ b2 (.inl hb)).set ⟨b,3,none⟩ b3 (.inl hb)).set ⟨b,4,none⟩ b4 (.inl hb)
theorem Sl.set5 {n:Nat} {w:World} {f:Fs} {ao:Option Addr} (h:Sl w (Nw n) f ao) {b:Nat} (hb:b < n) (b0 b1 b2 b3 b4:Value):Sl (((((w.setCell ⟨b,0,none⟩ b0).setCell ⟨b,1,none⟩ b1).setCell ⟨b,2,none⟩ b2).setCell ⟨b,3,none⟩ b3).setCell ⟨b,4,none⟩ b4) (Nw n) f ao:=((((h.setN ⟨b,0,none⟩ b0 hb).setN ⟨b,1,none⟩ b1 hb).setN ⟨b,2,none⟩ b2 hb).setN ⟨b,3,none⟩ b3 hb).setN ⟨b,4,none⟩ b4 hb
theorem box5 {w:World} {b:Nat} {a0 a1 a2 a3 a4:Value} {t:TypeId} (h:w.heap[b]?=some (.cells #[a0,a1,a2,a3,a4] t (0,0))) :
  w.cell? ⟨b,0,none⟩=some a0∧w.cell? ⟨b,1,none⟩=some a1∧w.cell? ⟨b,2,none⟩=some a2∧w.cell? ⟨b,3,none⟩=some a3∧w.cell? ⟨b,4,none⟩=some a4∧∀ j,w.frozen? ⟨b,j,none⟩=false:=Blk.cells5 (o:=fun _=>0) (i:=0) ⟨h,rfl⟩
theorem Keep.blk {rb:Nat} {w w':World} (k:Keep rb w w') {b:Nat} {ob:Obj} (h:w.heap[b]?=some ob) (hb:b≠rb):w'.heap[b]?=some ob:=(k.block b (lt_of_block h) hb).trans h
theorem Sl.fresh {w:World} {n:Nat} {f:Fs} (xs:List Value) (t:TypeId) (h:Fc w (Nw n) f xs) (hn:n≤w.heap.size):Sl (w.alloc (.cells xs.toArray t)) (Nw n) f (some ⟨w.heap.size,0,none⟩):=by
 refine Sl.of hn (by simp) (fun j u hu=>?_) (h.allocN _)
 rw [Nat.zero_add]
 rw [cell_of_row _ w.heap.size j _ t (0,0) (heap_alloc_new w _)]
 simpa using hu
theorem exV_out (e:Ex) (ao:Option Addr) (cap:Nat):exV e ao cap=.agg #[.int .i64 e.k,.int .i64 e.n,stv e.nm,.slice ao e.kids.len cap,.int .i64 e.a]:=rfl
def AccG (w:World) (n0:Nat) (acc:Fs) (g cap:Nat) (xs:List Value):Prop :=
 n0≤g∧w.ownsRow 0 25 5 (.slice (some ⟨g,0,none⟩) acc.len cap) acc.len xs∧Fc w (fun b=>n0≤b∧b≠g) acc xs
def Acc (w:World) (n0:Nat) (acc:Fs) (v:Value):Prop:=∃ g cap xs,v=.slice (some ⟨g,0,none⟩) acc.len cap∧AccG w n0 acc g cap xs
def lab1 (g:Nat):Nat→Nat:=fun b=>if b=g then 1 else 0
theorem AccG.row {w:World} {n0:Nat} {acc:Fs} {g cap:Nat} {xs:List Value} (h:AccG w n0 acc g cap xs):Row w (lab1 g) 1 25 5 (.slice (some ⟨g,0,none⟩) acc.len cap) acc.len xs :=
 ⟨h.2.1,fun k hk=>by simp [Value.ownBlock] at hk;subst hk;simp [lab1]⟩
theorem Acc.one {w:World} {n0:Nat} {e:Ex} {ao:Option Addr} (cap:Nat) (h:Sl w (Nw n0) e.kids ao) (hn:n0≤w.heap.size) :
  Acc (w.alloc (.cells #[.int .i64 e.k,.int .i64 e.n,stv e.nm,.slice ao e.kids.len cap,.int .i64 e.a] 25)) n0 (one e) (.slice (some ⟨w.heap.size,0,none⟩) 1 1):=by
 refine ⟨w.heap.size,1,_,rfl,hn,World.ownsRow_lit w _ 1 (Nat.zero_le _) (by unfold maxLen;omega) (by simp),?_⟩
 exact (Fc.one cap h).mono (fun i hp hl=>Below.heap_alloc w _ i hl) (by simp) (fun i hp hl=>⟨hp,Nat.ne_of_lt hl⟩)
theorem Acc.keep {rb n0:Nat} {w w':World} {acc:Fs} {v:Value} (h:Acc w n0 acc v) (k:Keep rb w w') (hn:rb < n0):Acc w' n0 acc v:=by
 obtain ⟨g,cap,xs,rfl,hg,ho,hf⟩:=h
 have r:Row w (fun b=>if b=rb then 7 else 1) 1 25 5 (.slice (some ⟨g,0,none⟩) acc.len cap) acc.len xs:=⟨ho,fun j hj=>by simp [Value.ownBlock] at hj;subst hj;show (if g=rb then 7 else 1)=1;rw [if_neg (by omega)]⟩
 have s:Step (fun x=>x=7) w (fun b=>if b=rb then 7 else 1) w' (fun b=>if b=rb then 7 else 1):=⟨k.os,k.tape,k.output,k.size,fun _ _=>rfl,fun j hj hn=>k.block j hj (fun e=>hn (by simp [e]))⟩
 exact ⟨g,cap,xs,rfl,hg,(r.step s (by decide)).1,hf.mono (fun i hp hl=>k.block i hl (by have:=hp.1;omega)) k.size (fun _ h _=>h)⟩
theorem Acc.sl {w:World} {n0:Nat} {acc:Fs} {v:Value} (h:Acc w n0 acc v):∃ ao cap,v=.slice ao acc.len cap∧Sl w (Nw n0) acc ao:=by
 obtain ⟨g,cap,xs,rfl,h⟩:=h
 refine ⟨_,cap,rfl,?_⟩
 by_cases h0:0 < acc.len
 ·obtain ⟨g',cap',hv,_,_,_,hlt,hc,_⟩:=h.row.pos h0
  simp only [Value.slice.injEq,Option.some.injEq,Addr.mk.injEq,true_and,and_true] at hv
  obtain ⟨rfl,rfl⟩:=hv
  have hl:=h.row.len
  refine Sl.of h.1 hlt (fun j u hu=>?_) (h.2.2.mono (fun _ _ _=>rfl) (Nat.le_refl _) (fun _ hp _=>hp.1))
  rw [Nat.zero_add,hc j ?_]
  ·exact hu
  ·rw [←hl]
   by_cases hj:j < xs.length
   ·exact hj
   ·rw [List.getElem?_eq_none (by omega)] at hu
    cases hu
 ·refine .inl ?_
  cases acc using Fs.on with
  | nil=>rfl
  | cons k n nm a ks r=>simp [Fs.len] at h0
theorem Keep.step1 {rb g:Nat} {a w w2:World} {o2:Nat→Nat} (K:Keep rb a w) (s:Step (fun x=>x=1) w (lab1 g) w2 o2) (hg:a.heap.size≤g):Keep rb a w2 :=
 ⟨s.os.trans K.os,s.tape.trans K.tape,s.output.trans K.output,Nat.le_trans K.size s.size,fun k hk hn=>(s.block k (Nat.lt_of_lt_of_le hk K.size) (by unfold lab1;rw [if_neg (by omega)];decide)).trans (K.block k hk hn)⟩
theorem Acc.push {w w2:World} {o2:Nat→Nat} {n0 n1 g cap g2 c2:Nat} {acc:Fs} {xs:List Value} {e:Ex} {ao:Option Addr} {ce:Nat} (h:AccG w n0 acc g cap xs) (S:Sl w (Nw n1) e.kids ao) (hn1:g < n1) (hw:n0≤w.heap.size)
  (s:Step (fun x=>x=1) w (lab1 g) w2 o2) (r:Row w2 o2 1 25 5 (.slice (some ⟨g2,0,none⟩) (acc.len+1) c2) (acc.len+1) (xs++[.int .i64 e.k,.int .i64 e.n,stv e.nm,.slice ao e.kids.len ce,.int .i64 e.a])) :
  Acc w2 n0 (acc.snoc e) (.slice (some ⟨g2,0,none⟩) (acc.len+1) c2):=by
 have hl:(acc.snoc e).len=acc.len+1:=Fs.len_snoc acc e
 have h2:o2 g2=1:=r.2 g2 rfl
 have hlt2:g2 < w2.heap.size:=r.lt rfl
 have hg2:n0≤g2:=by
  by_cases hlt:g2 < w.heap.size
  ·have:=(s.lab g2 hlt).symm.trans h2
   unfold lab1 at this
   by_cases e:g2=g
   ·rw [e];exact h.1
   ·rw [if_neg e] at this;cases this
  ·omega
 have hb:∀ k,(n0≤k∧k≠g)→k < w.heap.size→w2.heap[k]?=w.heap[k]?:=fun k hk hl=>s.block k hl (by unfold lab1;rw [if_neg hk.2];decide)
 have hq:∀ k,(n0≤k∧k≠g)→k < w.heap.size→(n0≤k∧k≠g2):=fun k hk hl=>⟨hk.1,fun e=>by
  have:=(s.lab k hl).symm.trans (e ▸ h2)
  unfold lab1 at this
  rw [if_neg hk.2] at this
  cases this⟩
 refine ⟨g2,c2,xs++[.int .i64 e.k,.int .i64 e.n,stv e.nm,.slice ao e.kids.len ce,.int .i64 e.a],by rw [hl],hg2,by rw [hl];exact r.1,?_⟩
 have F1:=h.2.2.mono hb s.size hq
 have S1:Sl w2 (fun b=>n0≤b∧b≠g2) e.kids ao:=S.mono (fun k hk hl=>hb k ⟨by have hk:n1≤k:=hk;have:=h.1;omega,by have hk:n1≤k:=hk;omega⟩ hl) s.size (fun k hk hl=>hq k ⟨by have hk:n1≤k:=hk;have:=h.1;omega,by have hk:n1≤k:=hk;omega⟩ hl)
 exact F1.app (Fc.one ce S1)
theorem infoExpr:(Tryz.prog.info? 25).map (fun i=>(i.zero,i.size,i.bytes))=some (some (.agg #[.int .i64 0,.int .i64 0,.string ⟨#[]⟩,.slice none 0 0,.int .i64 0]),5,64):=by kernel_rfl
end Go.Proofs.YtaihhnlfcndecaaGreatDoor
namespace Go.Proofs.YtaihhnlfcndecaaGreatDoor
open Go.ChangeShapes Go.WideShapes Go.ChangeAt Go.RowKit
set_option linter.unusedVariables false
set_option linter.unusedSimpArgs false
def hFs:Fs→Bool→Nat→Option Nat
 | ⟨none⟩,_,c=>some c
 | ⟨some ⟨k,n,nm,a,ks,r⟩⟩,first,c =>
  if isSetK k != first then none
  else if 2000 < c+1 then none
  else if numB k n && namB k nm && kidB k n ks.len then
   match hFs ks (k == 21) (c+1) with
   | none=>none
   | some c'=>hFs r false c'
  else none
def hE (e:Ex) (c:Nat):Option Nat:=if 2000 < c+1 then none else if numB e.k e.n && namB e.k e.nm && kidB e.k e.n e.kids.len then hFs e.kids (e.k == 21) (c+1) else none
def Fs.size:Fs→Nat
 | ⟨none⟩=>0
 | ⟨some ⟨_,_,_,_,ks,r⟩⟩=>ks.size+r.size+1
def Fs.short:Fs→Prop
 | ⟨none⟩=>True
 | ⟨some ⟨_,_,nm,_,ks,r⟩⟩=>nm.length≤maxLen∧ks.len≤1000000000∧ks.short∧r.short
theorem Fs.size_app:∀ (x y:Fs),(x.app y).size=x.size+y.size
 | ⟨none⟩,y=>by simp [Fs.app,Fs.size]
 | ⟨some ⟨k,n,nm,a,ks,r⟩⟩,y=>by simp only [Fs.app,Fs.size];rw [Fs.size_app r y];omega
theorem Fs.app_short:∀ {x y:Fs},(x.app y).short→y.short
 | ⟨none⟩,y,h=>h
 | ⟨some ⟨k,n,nm,a,ks,r⟩⟩,y,h=>Fs.app_short h.2.2.2
theorem hFs_le:∀ (f:Fs) (b:Bool) (c c':Nat),c≤2000→hFs f b c=some c'→c'≤2000
 | ⟨none⟩,b,c,c',h,e=>by
  unfold hFs at e
  injection e with e
  omega
 | ⟨some ⟨k,n,nm,a,ks,r⟩⟩,b,c,c',h,e=>by
  unfold hFs at e
  split at e
  ·cases e
  ·split at e
   ·cases e
   ·split at e
    ·split at e
     ·cases e
     ·rename_i c2 h2
      exact hFs_le r false c2 c' (hFs_le ks _ (c+1) c2 (by omega) h2) e
    ·cases e
theorem hE_le {e:Ex} {c c':Nat} (h:hE e c=some c'):c'≤2000:=by
 unfold hE at h
 split at h
 ·cases h
 ·split at h
  ·exact hFs_le _ _ _ _ (by omega) h
  ·cases h
theorem Fs.app_assoc:∀ (x y z:Fs),(x.app y).app z=x.app (y.app z)
 | ⟨none⟩,y,z=>rfl
 | ⟨some ⟨k,n,nm,a,ks,r⟩⟩,y,z=>by simp only [Fs.app];rw [Fs.app_assoc r y z]
theorem Fc.split {w:World} {P:Nat→Prop}:∀ {x y:Fs} {zs:List Value},Fc w P (x.app y) zs→∃ zx zy,zs=zx++zy∧Fc w P x zx∧Fc w P y zy
 | ⟨none⟩,y,zs,h=>⟨[],zs,rfl,rfl,h⟩
 | ⟨some ⟨k,n,nm,a,ks,r⟩⟩,y,zs,h=>by
  obtain ⟨ao,cap,ys,rfl,h1,h2⟩:=h
  obtain ⟨zx,zy,rfl,h3,h4⟩:=Fc.split h2
  exact ⟨_,zy,rfl,⟨ao,cap,zx,rfl,h1,h3⟩,h4⟩
abbrev Nf (fb:Nat):Nat→Prop:=fun b=>b≠fb
theorem Sl.keepF {fb:Nat} {w w':World} {f:Fs} {ao:Option Addr} (h:Sl w (Nf fb) f ao) (k:Keep fb w w'):Sl w' (Nf fb) f ao:=h.mono (fun i hp hl=>k.block i hl hp) k.size (fun _ h _=>h)
theorem Sl.kidQ {P:Nat→Prop} {w:World} {x r:Fs} {k n:Int} {nm:List UInt8} {a:Int} {ks:Fs} {ao:Option Addr} (h:Sl w P (x.app (.cons k n nm a ks r)) ao):∃ b off ak ck,ao=some ⟨b,off,none⟩∧b < w.heap.size∧P b∧w.cell? ⟨b,off+x.len * 5,none⟩=some (.int .i64 k)∧w.cell? ⟨b,off+x.len * 5+1,none⟩=some (.int .i64 n)∧w.cell? ⟨b,off+x.len * 5+2,none⟩=some (stv nm)∧w.cell? ⟨b,off+x.len * 5+3,none⟩=some (.slice ak ks.len ck)∧w.cell? ⟨b,off+x.len * 5+4,none⟩=some (.int .i64 a)∧Sl w P ks ak:=by
 rcases h with h | ⟨b,off,zs,rfl,hp,hlt,hc,hf⟩
 ·cases x using Fs.on with
  | nil=>cases h
  | cons k n nm a ks r=>cases h
 ·obtain ⟨zx,zy,rfl,h3,h4⟩:=Fc.split hf
  have hl:=h3.len
  obtain ⟨ak,ck,ys,rfl,h5,h6⟩:=h4
  have hc':∀ j u,(.int .i64 k :: .int .i64 n :: stv nm :: .slice ak ks.len ck :: .int .i64 a :: ys:List Value)[j]?=some u→w.cell? ⟨b,off+x.len * 5+j,none⟩=some u:=fun j u hu=>by
   have:=hc (x.len * 5+j) u (by rw [List.getElem?_append_right (by omega),hl,Nat.add_sub_cancel_left];exact hu)
   rw [Nat.add_assoc]
   exact this
  exact ⟨b,off,ak,ck,rfl,hlt,hp,hc' 0 _ rfl,hc' 1 _ rfl,hc' 2 _ rfl,hc' 3 _ rfl,hc' 4 _ rfl,h5⟩
abbrev SlA (w:World) (f:Fs) (ao:Option Addr):Prop:=Sl w (fun _=>True) f ao
end Go.Proofs.YtaihhnlfcndecaaGreatDoor
namespace Go.Proofs.YtaihhnlfcndecaaGreatDoor
set_option linter.unusedVariables false
theorem consR_inl {x:Tk} {X:Res} {e:Nat × Nat} (h:consR x X=.inl e):X=.inl e:=by
 cases X with
 | inl e'=>exact h
 | inr l=>cases h
theorem consR_inr {x:Tk} {X:Res} {ts:List Tk} (h:consR x X=.inr ts):∃ us,X=.inr us∧ts=x :: us:=by
 cases X with
 | inl e=>cases h
 | inr l =>
  refine ⟨l,rfl,?_⟩
  injection h with h
  exact h.symm
theorem shut_inl {k:Nat} {t:List UInt8} {a e q:Nat} {X:Res} (h:shutP k t a X=.inl (e,q)):(k≠0∧ptok k t a=.inl e∧q=a)∨(X=.inl (e,q)∧(k=0∨∃ x,ptok k t a=.inr x)):=by
 unfold shutP at h
 by_cases hk:k=0
 ·rw [if_pos hk] at h
  exact .inr ⟨h,.inl hk⟩
 ·rw [if_neg hk] at h
  cases hp:ptok k t a with
  | inl e' =>
   rw [hp] at h
   simp only at h
   injection h with h
   injection h with h1 h2
   exact .inl ⟨hk,by rw [h1],h2.symm⟩
  | inr x =>
   rw [hp] at h
   exact .inr ⟨consR_inl h,.inr ⟨x,rfl⟩⟩
theorem shut_inr {k:Nat} {t:List UInt8} {a:Nat} {X:Res} {ts:List Tk} (h:shutP k t a X=.inr ts):(k=0∧X=.inr ts)∨(k≠0∧∃ x us,ptok k t a=.inr x∧X=.inr us∧ts=x :: us):=by
 unfold shutP at h
 by_cases hk:k=0
 ·rw [if_pos hk] at h
  exact .inl ⟨hk,h⟩
 ·rw [if_neg hk] at h
  cases hp:ptok k t a with
  | inl e'=>rw [hp] at h;cases h
  | inr x =>
   rw [hp] at h
   obtain ⟨us,h1,h2⟩:=consR_inr h
   exact .inr ⟨hk,x,us,rfl,h1,h2⟩
theorem err_place (k:Nat) (t:List UInt8) (a p:Nat) (l:List UInt8) (e q:Nat) (h:lexL k t a p l=.inl (e,q)):(k≠0∧q=a)∨(p≤q∧q < p+l.length):=by
 induction l generalizing k t a p with
 | nil =>
  rcases shut_inl h with ⟨h1,_,h2⟩ | ⟨h1,_⟩
  ·exact .inl ⟨h1,h2⟩
  ·cases h1
 | cons c r ih =>
  simp only [List.length_cons]
  cases ht:tks k t c.toNat
  ·rw [lexL_no ht] at h
   rcases shut_inl h with ⟨h1,_,h2⟩ | ⟨h1,_⟩
   ·exact .inl ⟨h1,h2⟩
   ·rcases ih _ _ _ _ h1 with ⟨_,h2⟩ | ⟨h2,h3⟩
    ·exact .inr ⟨by omega,by omega⟩
    ·exact .inr ⟨by omega,by omega⟩
  ·rw [lexL_yes ht] at h
   rcases ih _ _ _ _ h with h2 | ⟨h2,h3⟩
   ·exact .inl h2
   ·exact .inr ⟨by omega,by omega⟩
theorem err_kind (k:Nat) (t:List UInt8) (a p:Nat) (l:List UInt8) (e q:Nat) (h:lexL k t a p l=.inl (e,q)):e=110∨e=111∨e=112:=by
 induction l generalizing k t a p with
 | nil =>
  rcases shut_inl h with ⟨h1,h2,_⟩ | ⟨h1,_⟩
  ·exact ptok_err h2
  ·cases h1
 | cons c r ih =>
  cases ht:tks k t c.toNat
  ·rw [lexL_no ht] at h
   rcases shut_inl h with ⟨h1,h2,_⟩ | ⟨h1,_⟩
   ·exact ptok_err h2
   ·exact ih _ _ _ _ h1
  ·rw [lexL_yes ht] at h
   exact ih _ _ _ _ h
theorem scan_short {l:List UInt8} (h:l.length≤2000):scanA l=lexA l:=by
 unfold scanA
 rw [if_neg (by omega)]
theorem scan_err {l:List UInt8} {e q:Nat} (h:scanA l=.inl (e,q)) (he:e≠113):l.length≤2000∧lexA l=.inl (e,q)∧q < l.length∧(e=110∨e=111∨e=112):=by
 unfold scanA at h
 split at h
 ·injection h with h
  injection h with h1 h2
  omega
 ·refine ⟨by omega,h,?_,err_kind _ _ _ _ _ _ _ h⟩
  rcases err_place _ _ _ _ _ _ _ h with ⟨h1,_⟩ | ⟨_,h1⟩
  ·exact absurd rfl h1
  ·omega
theorem ptok_inr {k:Nat} {t:List UInt8} {a:Nat} {x:Tk} (h:ptok k t a=.inr x):x.a=a∧∀ a',ptok k t a'=.inr ⟨x.k,x.n,x.t,a'⟩:=by
 unfold ptok at h ⊢
 split at h
 ·unfold wrdT at h ⊢
  split at h
  ·rename_i h1
   injection h with h
   subst h
   exact ⟨rfl,fun a'=>by rw [if_pos h1]⟩
  ·rename_i h1
   split at h
   ·rename_i h2
    injection h with h
    subst h
    exact ⟨rfl,fun a'=>by rw [if_neg h1,if_pos h2]⟩
   ·cases h
 ·unfold numT at h ⊢
  cases ha:Lib.atoiAll t with
  | ok v =>
   rw [ha] at h
   simp only at h ⊢
   split at h
   ·cases h
   ·rename_i h1
    injection h with h
    subst h
    exact ⟨rfl,fun a'=>by rw [if_neg h1]⟩
  | _=>rw [ha] at h;cases h
 ·unfold sgnT at h ⊢
  split at h
  ·cases h
  ·rename_i h1
   injection h with h
   subst h
   exact ⟨rfl,fun a'=>by rw [if_neg h1]⟩
 ·cases h
theorem tok_places (k:Nat) (t:List UInt8) (a p:Nat) (l:List UInt8) (ts:List Tk) (h:lexL k t a p l=.inr ts) (ha:a≤p):∀ x,x ∈ ts→x.a≤p+l.length:=by
 induction l generalizing k t a p ts with
 | nil =>
  intro x hx
  rcases shut_inr h with ⟨rfl,h1⟩ | ⟨hk,y,us,hp,h1,h2⟩
  ·injection h1 with h1
   subst h1
   simp at hx
   subst hx
   exact Nat.le_refl _
  ·injection h1 with h1
   subst h1 h2
   simp at hx
   rcases hx with rfl | rfl
   ·have:=(ptok_inr hp).1
    simp
    omega
   ·exact Nat.le_refl _
 | cons c r ih =>
  have e1:p+(c :: r).length=p+1+r.length:=by simp;omega
  rw [e1]
  cases ht:tks k t c.toNat
  ·rw [lexL_no ht] at h
   rcases shut_inr h with ⟨rfl,h1⟩ | ⟨hk,y,us,hp,h1,h2⟩
   ·exact ih _ _ _ _ _ h1 (by omega)
   ·subst h2
    intro x hx
    rcases List.mem_cons.1 hx with rfl | hx
    ·have:=(ptok_inr hp).1
     omega
    ·exact ih _ _ _ _ _ h1 (by omega) x hx
  ·rw [lexL_yes ht] at h
   exact ih _ _ _ _ _ h (by omega)
theorem tok_count (k:Nat) (t:List UInt8) (a p:Nat) (l:List UInt8) (ts:List Tk) (h:lexL k t a p l=.inr ts):ts.length≤l.length+2∧0 < ts.length∧(k=0→ts.length≤l.length+1):=by
 induction l generalizing k t a p ts with
 | nil =>
  rcases shut_inr h with ⟨rfl,h1⟩ | ⟨hk,y,us,hp,h1,h2⟩
  ·injection h1 with h1
   subst h1
   simp
  ·injection h1 with h1
   subst h1 h2
   simp [hk]
 | cons c r ih =>
  simp only [List.length_cons]
  cases ht:tks k t c.toNat
  ·rw [lexL_no ht] at h
   rcases shut_inr h with ⟨rfl,h1⟩ | ⟨hk,y,us,hp,h1,h2⟩
   ·have:=ih _ _ _ _ _ h1
    exact ⟨by omega,by omega,fun _=>by omega⟩
   ·subst h2
    have:=ih _ _ _ _ _ h1
    simp only [List.length_cons]
    exact ⟨by omega,by omega,fun h=>absurd h hk⟩
  ·rw [lexL_yes ht] at h
   have:=ih _ _ _ _ _ h
   exact ⟨by omega,by omega,fun h=>by have:=this.2.2 h;omega⟩
theorem scan_ok {l:List UInt8} {ts:List Tk} (h:scanA l=.inr ts):l.length≤2000∧lexA l=.inr ts∧ts.length≤2001∧ts.length≤l.length+1∧0 < ts.length∧(∀ x,x ∈ ts→x.a≤l.length):=by
 unfold scanA at h
 split at h
 ·cases h
 ·have h1:=tok_count _ _ _ _ _ _ h
  have h2:=tok_places _ _ _ _ _ _ h (Nat.le_refl _)
  have h3:=h1.2.2 rfl
  exact ⟨by omega,h,by omega,h3,h1.2.1,fun x hx=>by have:=h2 x hx;omega⟩
theorem scan_err_pos {l:List UInt8} {e q:Nat} (h:scanA l=.inl (e,q)):e≠0:=by
 by_cases he:e=113
 ·omega
 ·have:=(scan_err h he).2.2.2
  omega
end Go.Proofs.YtaihhnlfcndecaaGreatDoor

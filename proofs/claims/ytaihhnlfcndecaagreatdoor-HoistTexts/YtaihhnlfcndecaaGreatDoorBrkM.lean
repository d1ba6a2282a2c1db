import Derived.Test.YtaihhnlfcndecaaGreatDoorSynZ
import Derived.Deep.RegionHeld3
import Derived.Laws.BytesArg
namespace Go.Proofs.YtaihhnlfcndecaaGreatDoor
open Go.ChangeShapes Go.WideShapes Go.ChangeAt Go.RowKit
set_option linter.unusedVariables false
set_option linter.unusedSimpArgs false
abbrev L0 (o:Nat→Nat):Nat→Prop:=fun b=>o b=0
theorem Sl.stp {w w':World} {o o':Nat→Nat} {f:Fs} {ao:Option Addr} (h:Sl w (L0 o) f ao) (s:Step I12 w o w' o'):Sl w' (L0 o') f ao :=
 h.mono (fun i hp hl=>s.block i hl (fun hi=>by rcases hi with hi | hi <;> (have hp:o i=0:=hp;omega))) s.size (fun i hp hl=>(s.lab i hl).trans hp)
theorem Blk.stp {w w':World} {o o':Nat→Nat} {b:Nat} {ob:Obj} (h:Blk w o 0 b ob) (s:Step I12 w o w' o'):Blk w' o' 0 b ob:=h.step s (by simp [I12])
theorem Step.ofB {I:Nat→Prop} {w w':World} (o:Nat→Nat) (b:Below w.heap.size w w'):Step I w o w' o:=⟨b.os,b.tape,b.output,b.size,fun _ _=>rfl,fun k hk _=>b.block k hk⟩
theorem boxStep (I:Nat→Prop) (w:World) (o:Nat→Nat) (ob:Obj):Step I w o (w.alloc ob) (newLab w o 0):=((Step.refl I w o).labelled 0).alloc ob
theorem boxBlk (w:World) (o:Nat→Nat) (cs:Array Value) (t:TypeId):Blk (w.alloc (.cells cs t)) (newLab w o 0) 0 w.heap.size (.cells cs t (0,0)):=⟨heap_alloc_new w _,newLab_new (Nat.le_refl _)⟩
def okP (k n:Int) (nm:List UInt8) (m:Nat):Prop:=numB k n=true∧namB k nm=true∧kidB k n m=true∧nm.length≤12∧-9223372036854775808≤n∧n≤9223372036854775807
def Fs.okA:Fs→Prop
 | ⟨none⟩=>True
 | ⟨some ⟨k,n,nm,_,ks,r⟩⟩=>okP k n nm ks.len∧ks.okA∧r.okA
def Ex.okA (e:Ex):Prop:=okP e.k e.n e.nm e.kids.len∧e.kids.okA
def Fs.plc:Fs→Prop
 | ⟨none⟩=>True
 | ⟨some ⟨_,_,_,a,ks,r⟩⟩=>0≤a∧a≤1000000000∧ks.plc∧r.plc
abbrev N0 (n0:Nat) (o:Nat→Nat):Nat→Prop:=fun b=>n0≤b∧o b=0
def AccL (w:World) (o:Nat→Nat) (n0:Nat) (acc:Fs) (v:Value):Prop:=∃ xs,Row w o 2 25 5 v acc.len xs∧Fc w (N0 n0 o) acc xs
theorem Fc.lab {I:Nat→Prop} {w w':World} {o o':Nat→Nat} {n0:Nat} {f:Fs} {xs:List Value} (h:Fc w (N0 n0 o) f xs) (s:Step I w o w' o') (h0:¬ I 0):Fc w' (N0 n0 o') f xs :=
 h.mono (fun i hp hl=>s.block i hl (by rw [hp.2];exact h0)) s.size (fun i hp hl=>⟨hp.1,(s.lab i hl).trans hp.2⟩)
theorem Sl.lab {I:Nat→Prop} {w w':World} {o o':Nat→Nat} {n0:Nat} {f:Fs} {ao:Option Addr} (h:Sl w (N0 n0 o) f ao) (s:Step I w o w' o') (h0:¬ I 0):Sl w' (N0 n0 o') f ao :=
 h.mono (fun i hp hl=>s.block i hl (by rw [hp.2];exact h0)) s.size (fun i hp hl=>⟨hp.1,(s.lab i hl).trans hp.2⟩)
theorem AccL.step {I:Nat→Prop} {w w':World} {o o':Nat→Nat} {n0:Nat} {acc:Fs} {v:Value} (h:AccL w o n0 acc v) (s:Step I w o w' o') (h0:¬ I 0) (h2:¬ I 2):AccL w' o' n0 acc v:=by
 obtain ⟨xs,r,f⟩:=h
 exact ⟨xs,r.step s h2,f.lab s h0⟩
theorem AccL.push {w w2:World} {o o2:Nat→Nat} {n0:Nat} {acc:Fs} {xs:List Value} {v2:Value} {y:Ex} {ao:Option Addr} {ce:Nat} (f:Fc w (N0 n0 o) acc xs) (S:Sl w (N0 n0 o) y.kids ao) (s:Step (fun x=>x=2) w o w2 o2)
  (r:Row w2 o2 2 25 5 v2 (acc.len+1) (xs++[.int .i64 y.k,.int .i64 y.n,stv y.nm,.slice ao y.kids.len ce,.int .i64 y.a])):AccL w2 o2 n0 (acc.snoc y) v2 :=
 ⟨_,by rw [Fs.len_snoc];exact r,(f.lab s (by decide)).app (Fc.one ce (S.lab s (by decide)))⟩
theorem below_stepB {I:Nat→Prop} {n0:Nat} {a w w':World} {o o':Nat→Nat} (b:Below n0 a w) (s:Step I w o w' o') (h:∀ k,k < n0→¬ I (o k)) (hn:n0≤a.heap.size):Below n0 a w' :=
 ⟨s.os.trans b.os,s.tape.trans b.tape,s.output.trans b.output,Nat.le_trans b.size s.size,fun k hk=>(s.block k (by have:=b.size;omega) (h k hk)).trans (b.block k hk)⟩
theorem app_nil':∀ (x:Fs),x.app .nil=x
 | ⟨none⟩=>rfl
 | ⟨some ⟨k,n,nm,a,ks,r⟩⟩=>by simp only [Fs.app];rw [app_nil' r]
def FcN (w:World) (P:Nat→Prop):Fs→List Value→Prop
 | ⟨none⟩,xs=>xs=[]
 | ⟨some ⟨k,n,nm,a,ks,r⟩⟩,xs=>∃ ao cap ys,xs=.int .i64 k :: .int .i64 n :: stv nm :: .slice ao ks.len cap :: ys ∧
   (ks=.nil∨∃ b off zs,ao=some ⟨b,off,none⟩∧P b∧b < w.heap.size∧(∀ j u,zs[j]?=some u→w.cell? ⟨b,off+j,none⟩=some u)∧FcN w P ks zs)∧FcN w P r ys
def SlN (w:World) (P:Nat→Prop) (ks:Fs) (ao:Option Addr):Prop :=
 ks=.nil∨∃ b off zs,ao=some ⟨b,off,none⟩∧P b∧b < w.heap.size∧(∀ j u,zs[j]?=some u→w.cell? ⟨b,off+j,none⟩=some u)∧FcN w P ks zs
def exN (e:Ex) (ao:Option Addr) (cap:Nat):Value:=.agg #[.int .i64 e.k,.int .i64 e.n,stv e.nm,.slice ao e.kids.len cap]
theorem exN_out (e:Ex) (ao:Option Addr) (cap:Nat):exN e ao cap=.agg #[.int .i64 e.k,.int .i64 e.n,stv e.nm,.slice ao e.kids.len cap]:=rfl
theorem FcN.len {w:World} {P:Nat→Prop}:∀ {f:Fs} {xs:List Value},FcN w P f xs→xs.length=f.len * 4
 | ⟨none⟩,xs,h=>by
  have h:xs=[]:=h
  subst h
  rfl
 | ⟨some ⟨k,n,nm,a,ks,r⟩⟩,xs,h=>by
  obtain ⟨ao,cap,ys,rfl,_,h2⟩:=h
  have:=FcN.len h2
  simp only [List.length_cons,Fs.len]
  omega
theorem FcN.mono {w w':World} {P Q:Nat→Prop} (hb:∀ k,P k→k < w.heap.size→w'.heap[k]?=w.heap[k]?) (hs:w.heap.size≤w'.heap.size) (hq:∀ k,P k→k < w.heap.size→Q k):∀ {f:Fs} {xs:List Value},FcN w P f xs→FcN w' Q f xs
 | ⟨none⟩,xs,h=>h
 | ⟨some ⟨k,n,nm,a,ks,r⟩⟩,xs,h=>by
  obtain ⟨ao,cap,ys,rfl,h1,h2⟩:=h
  refine ⟨ao,cap,ys,rfl,?_,FcN.mono hb hs hq h2⟩
  rcases h1 with h1 | ⟨b,off,zs,rfl,hp,hlt,hc,h3⟩
  ·exact .inl h1
  ·exact .inr ⟨b,off,zs,rfl,hq b hp hlt,Nat.lt_of_lt_of_le hlt hs,fun j u hu=>(World.cell?_of_block (a:=⟨b,off+j,none⟩) (hb b hp hlt)).trans (hc j u hu),FcN.mono hb hs hq h3⟩
theorem SlN.mono {w w':World} {P Q:Nat→Prop} {f:Fs} {ao:Option Addr} (hb:∀ k,P k→k < w.heap.size→w'.heap[k]?=w.heap[k]?) (hs:w.heap.size≤w'.heap.size) (hq:∀ k,P k→k < w.heap.size→Q k) (h:SlN w P f ao):SlN w' Q f ao:=by
 rcases h with h | ⟨b,off,zs,rfl,hp,hlt,hc,h3⟩
 ·exact .inl h
 ·exact .inr ⟨b,off,zs,rfl,hq b hp hlt,Nat.lt_of_lt_of_le hlt hs,fun j u hu=>(World.cell?_of_block (a:=⟨b,off+j,none⟩) (hb b hp hlt)).trans (hc j u hu),h3.mono hb hs hq⟩
theorem FcN.app {w:World} {P:Nat→Prop}:∀ {f g:Fs} {xs ys:List Value},FcN w P f xs→FcN w P g ys→FcN w P (f.app g) (xs++ys)
 | ⟨none⟩,g,xs,ys,h,k=>by
  have h:xs=[]:=h
  subst h
  exact k
 | ⟨some ⟨i,n,nm,a,ks,r⟩⟩,g,xs,ys,h,k=>by
  obtain ⟨ao,cap,zs,rfl,h1,h2⟩:=h
  exact ⟨ao,cap,zs++ys,rfl,h1,FcN.app h2 k⟩
theorem FcN.one {w:World} {P:Nat→Prop} {e:Ex} {ao:Option Addr} (cap:Nat) (h:SlN w P e.kids ao):FcN w P (one e) [.int .i64 e.k,.int .i64 e.n,stv e.nm,.slice ao e.kids.len cap]:=⟨ao,cap,[],rfl,h,rfl⟩
theorem SlN.nil (w:World) (P:Nat→Prop) (ao:Option Addr):SlN w P .nil ao:=.inl rfl
theorem FcN.split {w:World} {P:Nat→Prop}:∀ {x y:Fs} {zs:List Value},FcN w P (x.app y) zs→∃ zx zy,zs=zx++zy∧FcN w P x zx∧FcN w P y zy
 | ⟨none⟩,y,zs,h=>⟨[],zs,rfl,rfl,h⟩
 | ⟨some ⟨k,n,nm,a,ks,r⟩⟩,y,zs,h=>by
  obtain ⟨ao,cap,ys,rfl,h1,h2⟩:=h
  obtain ⟨zx,zy,rfl,h3,h4⟩:=FcN.split h2
  exact ⟨_,zy,rfl,⟨ao,cap,zx,rfl,h1,h3⟩,h4⟩
theorem SlN.kidQ {P:Nat→Prop} {w:World} {x r:Fs} {k n:Int} {nm:List UInt8} {a:Int} {ks:Fs} {ao:Option Addr} (h:SlN w P (x.app (.cons k n nm a ks r)) ao):∃ b off ak ck,ao=some ⟨b,off,none⟩∧b < w.heap.size∧P b∧w.cell? ⟨b,off+x.len * 4,none⟩=some (.int .i64 k)∧w.cell? ⟨b,off+x.len * 4+1,none⟩=some (.int .i64 n)∧w.cell? ⟨b,off+x.len * 4+2,none⟩=some (stv nm)∧w.cell? ⟨b,off+x.len * 4+3,none⟩=some (.slice ak ks.len ck)∧SlN w P ks ak:=by
 rcases h with h | ⟨b,off,zs,rfl,hp,hlt,hc,hf⟩
 ·cases x using Fs.on with
  | nil=>cases h
  | cons k n nm a ks r=>cases h
 ·obtain ⟨zx,zy,rfl,h3,h4⟩:=FcN.split hf
  have hl:=h3.len
  obtain ⟨ak,ck,ys,rfl,h5,h6⟩:=h4
  have hc':∀ j u,(.int .i64 k :: .int .i64 n :: stv nm :: .slice ak ks.len ck :: ys:List Value)[j]?=some u→w.cell? ⟨b,off+x.len * 4+j,none⟩=some u:=fun j u hu=>by
   have:=hc (x.len * 4+j) u (by rw [List.getElem?_append_right (by omega),hl,Nat.add_sub_cancel_left];exact hu)
   rw [Nat.add_assoc]
   exact this
  exact ⟨b,off,ak,ck,rfl,hlt,hp,hc' 0 _ rfl,hc' 1 _ rfl,hc' 2 _ rfl,hc' 3 _ rfl,h5⟩
abbrev SnA (w:World) (f:Fs) (ao:Option Addr):Prop:=SlN w (fun _=>True) f ao
theorem SnA.below {w w':World} {f:Fs} {ao:Option Addr} (h:SnA w f ao) (b:Below w.heap.size w w'):SnA w' f ao:=h.mono (fun i _ hl=>b.block i hl) b.size (fun _ h _=>h)
theorem SlN.all {w:World} {P:Nat→Prop} {f:Fs} {ao:Option Addr} (h:SlN w P f ao):SnA w f ao:=h.mono (fun _ _ _=>rfl) (Nat.le_refl _) (fun _ _ _=>trivial)
theorem box4 {w:World} {b:Nat} {a0 a1 a2 a3:Value} {t:TypeId} (h:w.heap[b]?=some (.cells #[a0,a1,a2,a3] t (0,0))):w.cell? ⟨b,0,none⟩=some a0∧w.cell? ⟨b,1,none⟩=some a1∧w.cell? ⟨b,2,none⟩=some a2∧w.cell? ⟨b,3,none⟩=some a3∧∀ j,w.frozen? ⟨b,j,none⟩=false:=by
 refine ⟨?_,?_,?_,?_,fun j=>frozen_of_row w b j _ t h⟩ <;> simp [cell_of_row w b _ _ t (0,0) h]
theorem infoNode:(Tryz.prog.info? 34).map (fun i=>(i.zero,i.size,i.bytes))=some (some (.agg #[.int .i64 0,.int .i64 0,.string ⟨#[]⟩,.slice none 0 0]),4,56):=by kernel_rfl
def PostMn (w:World) (y:Ex) (x:Ending) (w':World):Prop:=∃ ao cap,x=.returned (exN y ao cap)∧SlN w' (Nw w.heap.size) y.kids ao∧Below w.heap.size w w'
def Fs.ex (x:Ex) (r:Fs):Fs:=.cons x.k x.n x.nm x.a x.kids r
theorem okA_ex {x:Ex} {r:Fs} (h:(Fs.ex x r).okA):x.okA∧r.okA:=⟨⟨h.1,h.2.1⟩,h.2.2⟩
theorem size_ex (x:Ex) (r:Fs):(Fs.ex x r).size=x.kids.size+r.size+1:=rfl
theorem len_ex (x:Ex) (r:Fs):(Fs.ex x r).len=r.len+1:=rfl
theorem len1:∀ {f:Fs},f.len=1→∃ x,f=Fs.ex x .nil
 | ⟨none⟩,h=>by cases h
 | ⟨some ⟨k,n,nm,a,ks,⟨none⟩⟩⟩,h=>⟨⟨k,n,nm,a,ks⟩,rfl⟩
 | ⟨some ⟨_,_,_,_,_,(⟨some ⟨_,_,_,_,_,_⟩⟩)⟩⟩,h=>by simp [Fs.len] at h
theorem len2:∀ {f:Fs},f.len=2→∃ x y,f=Fs.ex x (Fs.ex y .nil)
 | ⟨none⟩,h=>by cases h
 | ⟨some ⟨k,n,nm,a,ks,r⟩⟩,h=>by
  obtain ⟨y,rfl⟩:=len1 (f:=r) (by simp only [Fs.len] at h;omega)
  exact ⟨⟨k,n,nm,a,ks⟩,y,rfl⟩
theorem len3:∀ {f:Fs},f.len=3→∃ x y z,f=Fs.ex x (Fs.ex y (Fs.ex z .nil))
 | ⟨none⟩,h=>by cases h
 | ⟨some ⟨k,n,nm,a,ks,r⟩⟩,h=>by
  obtain ⟨y,z,rfl⟩:=len2 (f:=r) (by simp only [Fs.len] at h;omega)
  exact ⟨⟨k,n,nm,a,ks⟩,y,z,rfl⟩
theorem Sl.kidP {w:World} {P:Nat→Prop} {x r:Fs} {y:Ex} {ao:Option Addr} (h:Sl w P (x.app (Fs.ex y r)) ao) (i:Nat) (hi:x.len=i):∃ b off ak ck,ao=some ⟨b,off,none⟩∧w.cell? ⟨b,off+i * 5,none⟩=some (.int .i64 y.k)∧w.cell? ⟨b,off+i * 5+1,none⟩=some (.int .i64 y.n)∧w.cell? ⟨b,off+i * 5+2,none⟩=some (stv y.nm)∧w.cell? ⟨b,off+i * 5+3,none⟩=some (.slice ak y.kids.len ck)∧w.cell? ⟨b,off+i * 5+4,none⟩=some (.int .i64 y.a)∧Sl w P y.kids ak:=by
 subst hi
 rcases h with h | ⟨b,off,zs,rfl,hp,hlt,hc,hf⟩
 ·cases x using Fs.on with
  | nil=>cases h
  | cons k n nm a ks r=>cases h
 ·obtain ⟨zx,zy,rfl,h3,h4⟩:=Fc.split hf
  have hl:=h3.len
  obtain ⟨ak,ck,ys,rfl,h5,h6⟩:=h4
  have hc':∀ j u,(.int .i64 y.k :: .int .i64 y.n :: stv y.nm :: .slice ak y.kids.len ck :: .int .i64 y.a :: ys:List Value)[j]?=some u→w.cell? ⟨b,off+x.len * 5+j,none⟩=some u:=fun j u hu=>by
   have:=hc (x.len * 5+j) u (by rw [List.getElem?_append_right (by omega),hl,Nat.add_sub_cancel_left];exact hu)
   rw [Nat.add_assoc]
   exact this
  exact ⟨b,off,ak,ck,rfl,hc' 0 _ rfl,hc' 1 _ rfl,hc' 2 _ rfl,hc' 3 _ rfl,hc' 4 _ rfl,h5⟩
end Go.Proofs.YtaihhnlfcndecaaGreatDoor
namespace Go.Proofs.YtaihhnlfcndecaaGreatDoor
set_option linter.unusedVariables false
set_option linter.unusedSimpArgs false
def Fs.rng:Fs→Prop
 | ⟨none⟩=>True
 | ⟨some ⟨_,n,_,_,ks,r⟩⟩=>-9223372036854775808≤n∧n≤9223372036854775807∧ks.rng∧r.rng
structure Ex.fit (e:Ex):Prop where
 nm:e.nm.length≤maxLen
 sh:e.kids.short
 len:e.kids.len≤1000000000
 n1:-9223372036854775808≤e.n
 n2:e.n≤9223372036854775807
 rng:e.kids.rng
theorem nameB_len {t:List UInt8} (h:nameB t=true):t.length≤12:=by
 cases t with
 | nil=>simp
 | cons c r =>
  simp only [nameB,Bool.and_eq_true,decide_eq_true_eq] at h
  have:=h.1.1.1
  simp only [List.length_cons]
  omega
theorem namB_len {k:Int} {nm:List UInt8} (h:namB k nm=true):nm.length≤12:=by
 unfold namB at h
 split at h
 ·exact nameB_len h
 ·have:nm=[]:=by simpa using h
  rw [this]
  simp
theorem okP_of {k n:Int} {nm:List UInt8} {m:Nat} (h:(numB k n && namB k nm && kidB k n m)=true) (h1:-9223372036854775808≤n) (h2:n≤9223372036854775807):okP k n nm m:=by
 simp only [Bool.and_eq_true] at h
 exact ⟨h.1.1,h.1.2,h.2,namB_len h.1.2,h1,h2⟩
theorem hFs_ok:∀ (f:Fs) (b:Bool) (c c':Nat),f.rng→hFs f b c=some c'→f.okA∧c'=c+f.size
 | ⟨none⟩,b,c,c',hr,h=>by
  unfold hFs at h
  injection h with h
  exact ⟨trivial,h.symm⟩
 | ⟨some ⟨k,n,nm,a,ks,r⟩⟩,b,c,c',hr,h=>by
  unfold hFs at h
  split at h
  ·cases h
  ·split at h
   ·cases h
   ·split at h
    ·rename_i hk
     split at h
     ·cases h
     ·rename_i c2 h2
      obtain ⟨o1,e1⟩:=hFs_ok ks _ (c+1) c2 hr.2.2.1 h2
      obtain ⟨o2,e2⟩:=hFs_ok r false c2 c' hr.2.2.2 h
      exact ⟨⟨okP_of hk hr.1 hr.2.1,o1,o2⟩,by simp only [Fs.size];omega⟩
    ·cases h
theorem hE_ok {e:Ex} {c c':Nat} (hf:e.fit) (h:hE e c=some c'):e.okA∧c'=c+1+e.kids.size∧c'≤2000:=by
 have hle:=hE_le h
 unfold hE at h
 split at h
 ·cases h
 ·split at h
  ·rename_i hk
   obtain ⟨o1,e1⟩:=hFs_ok e.kids _ (c+1) c' hf.rng h
   exact ⟨⟨okP_of hk hf.n1 hf.n2,o1⟩,e1,hle⟩
  ·cases h
def s0:St:=⟨[],0,0,0,0⟩
def roomB (s:St):Bool:=!(decide (2000 < s.t.length) || decide (64 < s.m) || decide (4 < s.n))
def writA (e:Ex):Option (List UInt8) :=
 if isSetK e.k then none
 else match hE e 0 with
  | none=>none
  | some _=>if roomB (wEx e 0 s0) then some (wEx e 0 s0).t else none
end Go.Proofs.YtaihhnlfcndecaaGreatDoor
namespace Go.Proofs.YtaihhnlfcndecaaGreatDoor
open Go.ChangeShapes Go.WideShapes Go.ChangeAt Go.RowKit
set_option linter.unusedVariables false
set_option linter.unusedSimpArgs false
abbrev SlT (w:World) (f:Fs) (ao:Option Addr):Prop:=Sl w (fun _=>True) f ao
theorem SlT.below {w w':World} {f:Fs} {ao:Option Addr} (h:SlT w f ao) (b:Below w.heap.size w w'):SlT w' f ao:=h.mono (fun i _ hl=>b.block i hl) b.size (fun _ h _=>h)
theorem Sl.all {P:Nat→Prop} {w:World} {f:Fs} {ao:Option Addr} (h:Sl w P f ao):SlT w f ao:=h.mono (fun i _ hl=>rfl) (Nat.le_refl _) (fun _ _ _=>trivial)
theorem row_text {w:World} {o:Nat→Nat} {i:Nat} {v:Value} {l:List UInt8} (h:Row w o i 5 1 v l.length (byL l)) :
  (convert 116 9 v).run Tryz.prog w=.ok (stv l) w:=by
 rcases Nat.eq_zero_or_pos l.length with h0 | h0
 ·obtain rfl:l=[]:=List.length_eq_zero_iff.1 h0
  obtain ⟨ao,cap,rfl⟩:=h.form
  cases ao with
  | none=>exact run_convert_bytes_nil (P:=Tryz.prog) w 116 5 Tryz.underlying116 Tryz.underlying5 _ _ 9 Tryz.underlying9
  | some a=>exact run_convert_bytes_back w 116 9 5 a cap [] Tryz.underlying116 Tryz.underlying5 Tryz.underlying9 (fun j hj=>by simp at hj)
 ·obtain ⟨g,cap,rfl,-,-,-,-,hc,-⟩:=h.pos h0
  refine run_convert_bytes_back w 116 9 5 ⟨g,0,none⟩ cap l Tryz.underlying116 Tryz.underlying5 Tryz.underlying9 (fun j hj=>?_)
  have:=hc j (by omega)
  rw [show (⟨g,0,none⟩:Addr).add j=⟨g,j,none⟩ by simp [Addr.add];intro h;exact h.symm,this]
  simp [byL,hj]
def PostP (w:World) (r:Option (List UInt8)) (x:Ending) (w':World):Prop:=x=.returned (.tuple #[stv (r.getD []),.int .i64 (if r.isSome then 0 else 122)])∧Below w.heap.size w w'
end Go.Proofs.YtaihhnlfcndecaaGreatDoor
namespace Go.Proofs.YtaihhnlfcndecaaGreatDoor
set_option linter.unusedVariables false
def parR (rec:Rdr) (o q:Nat) (ts:List Tk):Rs Ex:=(enterT [40] o ts).bind fun _ t1=>(rec 1 (o+1) q t1).bind fun e t2=>(passT [41] t2).bind fun _ t4=>.ok e t4
theorem par_args (rec:Rdr) (o q:Nat) (ts:List Tk):((argsR rec 1 o q ts).bind fun ks t1=>.ok ks.head t1)=parR rec o q ts:=by
 unfold argsR parR
 cases enterT [40] o ts using Rs.on with
 | out=>rfl
 | bad e a=>rfl
 | ok a t1 =>
  show (((rec 1 (o+1) q t1).bind fun e t2=>(argsL rec 0 (o+1) q (one e) t2).bind fun ks t3=>(passT [41] t3).bind fun _ t4=>.ok ks t4).bind fun ks t1=>.ok ks.head t1)=(rec 1 (o+1) q t1).bind fun e t2=>(passT [41] t2).bind fun _ t4=>.ok e t4
  cases rec 1 (o+1) q t1 using Rs.on with
  | out=>rfl
  | bad e a=>rfl
  | ok e t2 =>
   show (((passT [41] t2).bind fun _ t4=>Rs.ok (one e) t4).bind fun ks t1=>.ok ks.head t1)=(passT [41] t2).bind fun _ t4=>.ok e t4
   cases passT [41] t2 using Rs.on with
   | out=>rfl
   | bad e a=>rfl
   | ok a t4=>rfl
section
variable {g d:Nat} {v v':List Tk} {rec:Rdr}
end
theorem lexL_thenG (k:Nat) (t:List UInt8) (a p:Nat) (l:List UInt8) (ts:List Tk) (c:UInt8) (m:List UInt8) (hb:∀ k t,k≠0→tks k t c.toNat=false) (h:lexL k t a p l=.inr ts) :
  ∃ us,ts=us++[⟨0,0,[],p+l.length⟩]∧lexL k t a p (l++c :: m)=preR us (lexL 0 [] (p+l.length) (p+l.length) (c :: m)):=by
 induction l generalizing k t a p ts with
 | nil =>
  rcases shut_inr h with ⟨rfl,h1⟩ | ⟨hk,x,us,hp,h1,h2⟩
  ·injection h1 with h1
   exact ⟨[],h1.symm,lexL_blank _ _ _ _ _ _⟩
  ·injection h1 with h1
   subst h1
   refine ⟨[x],h2,?_⟩
   simp only [List.nil_append,List.length_nil,Nat.add_zero]
   rw [lexL_shut (hb k t hk)]
   unfold shutP
   rw [if_neg hk,hp]
   rfl
 | cons d r ih =>
  have e1:p+(d :: r).length=p+1+r.length:=by simp;omega
  rw [e1]
  cases ht:tks k t d.toNat
  ·rw [lexL_no ht] at h
   rw [List.cons_append,lexL_no ht]
   rcases shut_inr h with ⟨rfl,h1⟩ | ⟨hk,x,us,hp,h1,h2⟩
   ·obtain ⟨vs,h3,h4⟩:=ih _ _ _ _ _ h1
    refine ⟨vs,h3,?_⟩
    rw [h4]
    rfl
   ·obtain ⟨vs,h3,h4⟩:=ih _ _ _ _ _ h1
    refine ⟨x :: vs,by rw [h2,h3];rfl,?_⟩
    rw [h4]
    unfold shutP
    rw [if_neg hk,hp]
    rfl
  ·rw [lexL_yes ht] at h
   rw [List.cons_append,lexL_yes ht]
   exact ih _ _ _ _ _ h
theorem par_tks (c:UInt8) (hc:c=40∨c=41) (k:Nat) (t:List UInt8) (hk:k≠0):tks k t c.toNat=false:=by
 unfold tks
 split
 ·exact absurd rfl hk
 ·rcases hc with rfl | rfl <;> rfl
 ·rcases hc with rfl | rfl <;> rfl
 ·rcases hc with rfl | rfl <;> rfl
 ·rfl
theorem ptok_kind {k:Nat} {t:List UInt8} {a:Nat} {x:Tk} (h:ptok k t a=.inr x):x.k≠0:=by
 unfold ptok at h
 split at h
 ·unfold wrdT at h
  repeat' split at h
  all_goals first | (injection h with h;subst h;simp) | cases h
 ·unfold numT at h
  repeat' split at h
  all_goals first | (injection h with h;subst h;simp) | cases h
 ·unfold sgnT at h
  split at h
  all_goals first | (injection h with h;subst h;simp) | cases h
 ·cases h
theorem lex_last (k:Nat) (t:List UInt8) (a p:Nat) (l:List UInt8) (us:List Tk) (e:Tk) (h:lexL k t a p l=.inr (us++[e])):∀ x,x ∈ us→x.k≠0:=by
 induction l generalizing k t a p us with
 | nil =>
  unfold lexL at h
  rcases shut_inr h with ⟨_,h2⟩ | ⟨_,x,vs,hp,h2,h3⟩
  ·unfold endR at h2
   injection h2 with h2
   have:us=[]:=by
    have:=congrArg List.length h2
    simp at this
    exact this
   subst this
   intro x hx
   cases hx
  ·unfold endR at h2
   injection h2 with h2
   subst h2
   have:us=[x]:=by
    have h4:us++[e]=[x]++[⟨0,0,[],p⟩]:=h3
    exact List.append_inj_left' h4 rfl
   subst this
   intro y hy
   simp at hy
   rw [hy]
   exact ptok_kind hp
 | cons c r ih =>
  unfold lexL at h
  split at h
  ·exact ih _ _ _ _ _ h
  ·rcases shut_inr h with ⟨_,h2⟩ | ⟨_,x,vs,hp,h2,h3⟩
   ·exact ih _ _ _ _ _ h2
   ·cases us with
    | nil=>intro y hy;cases hy
    | cons z us =>
     rw [List.cons_append] at h3
     injection h3 with h4 h5
     subst h4 h5
     intro y hy
     rcases List.mem_cons.1 hy with rfl | hy
     ·exact ptok_kind hp
     ·exact ih _ _ _ _ _ h2 y hy
theorem parse_text {s:List UInt8} {x:Ex} {t:List Tk} (h:parseA s=.ok x t):∃ us E,s.length≤2000∧lexA s=.inr (us++[E])∧E=⟨0,0,[],s.length⟩∧us.length≤s.length∧(∀ y,y ∈ us→y.k≠0)∧partF 30000 1 0 0 (us++[E])=.ok x [E]:=by
 unfold parseA at h
 cases hs:scanA s with
 | inl z=>obtain ⟨e,p⟩:=z;rw [hs] at h;cases h
 | inr ts =>
  rw [hs] at h
  have h:readF 30000 ts=.ok x t:=h
  have hk:=scan_ok hs
  obtain ⟨us,h1,_⟩:=lexL_thenG 0 [] 0 0 s ts 41 [] (par_tks 41 (.inr rfl)) hk.2.1
  rw [Nat.zero_add] at h1
  subst h1
  have hl:=lex_last _ _ _ _ _ _ _ hk.2.1
  refine ⟨us,_,hk.1,hk.2.1,rfl,by have:=hk.2.2.2.1;simp at this;exact this,hl,?_⟩
  unfold readF at h
  cases hp:partF 30000 1 0 0 (us++[⟨0,0,[],s.length⟩]) using Rs.on with
  | out=>rw [hp] at h;cases h
  | bad e a=>rw [hp] at h;cases h
  | ok y t0 =>
   rw [hp] at h
   have hsf:=lq_part 30000 1 0 0 _ _ (List.suffix_refl _) y t0 hp
   cases t0 with
   | nil=>cases h
   | cons z r =>
    simp only [Rs.bind] at h
    by_cases hz:z.k=0
    ·rw [if_pos hz] at h
     obtain ⟨h1,h2⟩:=Rs.ok_inj h
     subst h1
     obtain ⟨pre,hpre⟩:=hsf
     cases r with
     | nil =>
      have h3:pre++[z]=us++[⟨0,0,[],s.length⟩]:=hpre
      have h4:=List.append_inj_right' h3 rfl
      rw [h4]
     | cons z2 r =>
      exfalso
      have h5:z ∈ us:=by
       have h6:pre++z :: (z2 :: r)=us++[⟨0,0,[],s.length⟩]:=hpre
       have h7:(pre++z :: (z2 :: r)).dropLast=us:=by rw [h6];simp
       rw [←h7]
       have:pre++z :: (z2 :: r)=(pre++[z])++(z2 :: r):=by simp
       rw [this,List.dropLast_append_cons]
       simp
      exact hl z h5 hz
    ·rw [if_neg hz] at h
     cases h
end Go.Proofs.YtaihhnlfcndecaaGreatDoor

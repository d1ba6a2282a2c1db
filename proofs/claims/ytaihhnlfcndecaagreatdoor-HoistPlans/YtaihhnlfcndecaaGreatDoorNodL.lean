import Derived.Test.YtaihhnlfcndecaaGreatDoorSzA
import Derived.Deep.RegionHeld3
import Derived.Laws.BytesArg
namespace Go.Proofs.YtaihhnlfcndecaaGreatDoor
open Go.ChangeShapes Go.WideShapes Go.ChangeAt Go.RowKit
set_option linter.unusedVariables false
set_option linter.unusedSimpArgs false
def Fs.plc:Fs→Prop
 | ⟨none⟩=>True
 | ⟨some ⟨_,_,_,a,ks,r⟩⟩=>0≤a∧a≤1000000000∧ks.plc∧r.plc
abbrev N0 (n0:Nat) (o:Nat→Nat):Nat→Prop:=fun b=>n0≤b∧o b=0
def AccL (w:World) (o:Nat→Nat) (n0:Nat) (acc:Fs) (v:Value):Prop:=∃ xs,Row w o 2 25 5 v acc.len xs∧Fc w (N0 n0 o) acc xs
theorem Fc.lab {I:Nat→Prop} {w w':World} {o o':Nat→Nat} {n0:Nat} {f:Fs} {xs:List Value} (h:Fc w (N0 n0 o) f xs) (s:Step I w o w' o') (h0:¬ I 0):Fc w' (N0 n0 o') f xs :=
 h.mono (fun i hp hl=>s.block i hl (by rw [hp.2];exact h0)) s.size (fun i hp hl=>⟨hp.1,(s.lab i hl).trans hp.2⟩)
theorem Sl.lab {I:Nat→Prop} {w w':World} {o o':Nat→Nat} {n0:Nat} {f:Fs} {ao:Option Addr} (h:Sl w (N0 n0 o) f ao) (s:Step I w o w' o') (h0:¬ I 0):Sl w' (N0 n0 o') f ao :=
 h.mono (fun i hp hl=>s.block i hl (by rw [hp.2];exact h0)) s.size (fun i hp hl=>⟨hp.1,(s.lab i hl).trans hp.2⟩)
theorem AccL.step {I:Nat→Prop} {w w':World} {o o':Nat→Nat} {n0:Nat} {acc:Fs} {v:Value} (h:AccL w o n0 acc v) (s:Step I w o w' o') (h0:¬ I 0) (h2:¬ I 2):AccL w' o' n0 acc v:=by
 obtain ⟨xs,r,f⟩:=h
 exact ⟨xs,r.step s h2,f.lab s h0⟩
theorem AccL.push {w w2:World} {o o2:Nat→Nat} {n0:Nat} {acc:Fs} {xs:List Value} {v2:Value} {y:Ex} {ao:Option Addr} {ce:Nat} (f:Fc w (N0 n0 o) acc xs) (S:Sl w (N0 n0 o) y.kids ao) (s:Step (fun x=>x=2) w o w2 o2)
  (r:Row w2 o2 2 25 5 v2 (acc.len+1) (xs++[.int .i64 y.k,.int .i64 y.n,stv y.nm,.slice ao y.kids.len ce,.int .i64 y.a])):AccL w2 o2 n0 (acc.snoc y) v2 :=
 ⟨_,by rw [Fs.len_snoc];exact r,(f.lab s (by decide)).app (Fc.one ce (S.lab s (by decide)))⟩
theorem below_stepB {I:Nat→Prop} {n0:Nat} {a w w':World} {o o':Nat→Nat} (b:Below n0 a w) (s:Step I w o w' o') (h:∀ k,k < n0→¬ I (o k)) (hn:n0≤a.heap.size):Below n0 a w' :=
 ⟨s.os.trans b.os,s.tape.trans b.tape,s.output.trans b.output,Nat.le_trans b.size s.size,fun k hk=>(s.block k (by have:=b.size;omega) (h k hk)).trans (b.block k hk)⟩
theorem app_nil':∀ (x:Fs),x.app .nil=x
 | ⟨none⟩=>rfl
 | ⟨some ⟨k,n,nm,a,ks,r⟩⟩=>by simp only [Fs.app];rw [app_nil' r]
def FcN (w:World) (P:Nat→Prop):Fs→List Value→Prop
 | ⟨none⟩,xs=>xs=[]
 | ⟨some ⟨k,n,nm,a,ks,r⟩⟩,xs=>∃ ao cap ys,xs=.int .i64 k :: .int .i64 n :: stv nm :: .slice ao ks.len cap :: ys ∧
   (ks=.nil∨∃ b off zs,ao=some ⟨b,off,none⟩∧P b∧b < w.heap.size∧(∀ j u,zs[j]?=some u→w.cell? ⟨b,off+j,none⟩=some u)∧FcN w P ks zs)∧FcN w P r ys
def SlN (w:World) (P:Nat→Prop) (ks:Fs) (ao:Option Addr):Prop :=
 ks=.nil∨∃ b off zs,ao=some ⟨b,off,none⟩∧P b∧b < w.heap.size∧(∀ j u,zs[j]?=some u→w.cell? ⟨b,off+j,none⟩=some u)∧FcN w P ks zs
def exN (e:Ex) (ao:Option Addr) (cap:Nat):Value:=.agg #[.int .i64 e.k,.int .i64 e.n,stv e.nm,.slice ao e.kids.len cap]
theorem exN_out (e:Ex) (ao:Option Addr) (cap:Nat):exN e ao cap=.agg #[.int .i64 e.k,.int .i64 e.n,stv e.nm,.slice ao e.kids.len cap]:=rfl
theorem FcN.len {w:World} {P:Nat→Prop}:∀ {f:Fs} {xs:List Value},FcN w P f xs→xs.length=f.len * 4
 | ⟨none⟩,xs,h=>by
  have h:xs=[]:=h
  subst h
  rfl
 | ⟨some ⟨k,n,nm,a,ks,r⟩⟩,xs,h=>by
  obtain ⟨ao,cap,ys,rfl,_,h2⟩:=h
  have:=FcN.len h2
  simp only [List.length_cons,Fs.len]
  omega
theorem FcN.mono {w w':World} {P Q:Nat→Prop} (hb:∀ k,P k→k < w.heap.size→w'.heap[k]?=w.heap[k]?) (hs:w.heap.size≤w'.heap.size) (hq:∀ k,P k→k < w.heap.size→Q k):∀ {f:Fs} {xs:List Value},FcN w P f xs→FcN w' Q f xs
 | ⟨none⟩,xs,h=>h
 | ⟨some ⟨k,n,nm,a,ks,r⟩⟩,xs,h=>by
  obtain ⟨ao,cap,ys,rfl,h1,h2⟩:=h
  refine ⟨ao,cap,ys,rfl,?_,FcN.mono hb hs hq h2⟩
  rcases h1 with h1 | ⟨b,off,zs,rfl,hp,hlt,hc,h3⟩
  ·exact .inl h1
  ·exact .inr ⟨b,off,zs,rfl,hq b hp hlt,Nat.lt_of_lt_of_le hlt hs,fun j u hu=>(World.cell?_of_block (a:=⟨b,off+j,none⟩) (hb b hp hlt)).trans (hc j u hu),FcN.mono hb hs hq h3⟩
theorem SlN.mono {w w':World} {P Q:Nat→Prop} {f:Fs} {ao:Option Addr} (hb:∀ k,P k→k < w.heap.size→w'.heap[k]?=w.heap[k]?) (hs:w.heap.size≤w'.heap.size) (hq:∀ k,P k→k < w.heap.size→Q k) (h:SlN w P f ao):SlN w' Q f ao:=by
 rcases h with h | ⟨b,off,zs,rfl,hp,hlt,hc,h3⟩
 ·exact .inl h
 ·exact .inr ⟨b,off,zs,rfl,hq b hp hlt,Nat.lt_of_lt_of_le hlt hs,fun j u hu=>(World.cell?_of_block (a:=⟨b,off+j,none⟩) (hb b hp hlt)).trans (hc j u hu),h3.mono hb hs hq⟩
theorem FcN.app {w:World} {P:Nat→Prop}:∀ {f g:Fs} {xs ys:List Value},FcN w P f xs→FcN w P g ys→FcN w P (f.app g) (xs++ys)
 | ⟨none⟩,g,xs,ys,h,k=>by
  have h:xs=[]:=h
  subst h
  exact k
 | ⟨some ⟨i,n,nm,a,ks,r⟩⟩,g,xs,ys,h,k=>by
  obtain ⟨ao,cap,zs,rfl,h1,h2⟩:=h
  exact ⟨ao,cap,zs++ys,rfl,h1,FcN.app h2 k⟩
theorem FcN.one {w:World} {P:Nat→Prop} {e:Ex} {ao:Option Addr} (cap:Nat) (h:SlN w P e.kids ao):FcN w P (one e) [.int .i64 e.k,.int .i64 e.n,stv e.nm,.slice ao e.kids.len cap]:=⟨ao,cap,[],rfl,h,rfl⟩
theorem SlN.nil (w:World) (P:Nat→Prop) (ao:Option Addr):SlN w P .nil ao:=.inl rfl
theorem FcN.split {w:World} {P:Nat→Prop}:∀ {x y:Fs} {zs:List Value},FcN w P (x.app y) zs→∃ zx zy,zs=zx++zy∧FcN w P x zx∧FcN w P y zy
 | ⟨none⟩,y,zs,h=>⟨[],zs,rfl,rfl,h⟩
 | ⟨some ⟨k,n,nm,a,ks,r⟩⟩,y,zs,h=>by
  obtain ⟨ao,cap,ys,rfl,h1,h2⟩:=h
  obtain ⟨zx,zy,rfl,h3,h4⟩:=FcN.split h2
  exact ⟨_,zy,rfl,⟨ao,cap,zx,rfl,h1,h3⟩,h4⟩
theorem SlN.kidQ {P:Nat→Prop} {w:World} {x r:Fs} {k n:Int} {nm:List UInt8} {a:Int} {ks:Fs} {ao:Option Addr} (h:SlN w P (x.app (.cons k n nm a ks r)) ao):∃ b off ak ck,ao=some ⟨b,off,none⟩∧b < w.heap.size∧P b∧w.cell? ⟨b,off+x.len * 4,none⟩=some (.int .i64 k)∧w.cell? ⟨b,off+x.len * 4+1,none⟩=some (.int .i64 n)∧w.cell? ⟨b,off+x.len * 4+2,none⟩=some (stv nm)∧w.cell? ⟨b,off+x.len * 4+3,none⟩=some (.slice ak ks.len ck)∧SlN w P ks ak:=by
 rcases h with h | ⟨b,off,zs,rfl,hp,hlt,hc,hf⟩
 ·cases x using Fs.on with
  | nil=>cases h
  | cons k n nm a ks r=>cases h
 ·obtain ⟨zx,zy,rfl,h3,h4⟩:=FcN.split hf
  have hl:=h3.len
  obtain ⟨ak,ck,ys,rfl,h5,h6⟩:=h4
  have hc':∀ j u,(.int .i64 k :: .int .i64 n :: stv nm :: .slice ak ks.len ck :: ys:List Value)[j]?=some u→w.cell? ⟨b,off+x.len * 4+j,none⟩=some u:=fun j u hu=>by
   have:=hc (x.len * 4+j) u (by rw [List.getElem?_append_right (by omega),hl,Nat.add_sub_cancel_left];exact hu)
   rw [Nat.add_assoc]
   exact this
  exact ⟨b,off,ak,ck,rfl,hlt,hp,hc' 0 _ rfl,hc' 1 _ rfl,hc' 2 _ rfl,hc' 3 _ rfl,h5⟩
abbrev SnA (w:World) (f:Fs) (ao:Option Addr):Prop:=SlN w (fun _=>True) f ao
theorem SnA.below {w w':World} {f:Fs} {ao:Option Addr} (h:SnA w f ao) (b:Below w.heap.size w w'):SnA w' f ao:=h.mono (fun i _ hl=>b.block i hl) b.size (fun _ h _=>h)
theorem SlN.all {w:World} {P:Nat→Prop} {f:Fs} {ao:Option Addr} (h:SlN w P f ao):SnA w f ao:=h.mono (fun _ _ _=>rfl) (Nat.le_refl _) (fun _ _ _=>trivial)
theorem box4 {w:World} {b:Nat} {a0 a1 a2 a3:Value} {t:TypeId} (h:w.heap[b]?=some (.cells #[a0,a1,a2,a3] t (0,0))):w.cell? ⟨b,0,none⟩=some a0∧w.cell? ⟨b,1,none⟩=some a1∧w.cell? ⟨b,2,none⟩=some a2∧w.cell? ⟨b,3,none⟩=some a3∧∀ j,w.frozen? ⟨b,j,none⟩=false:=by
 refine ⟨?_,?_,?_,?_,fun j=>frozen_of_row w b j _ t h⟩ <;> simp [cell_of_row w b _ _ t (0,0) h]
theorem infoNode:(Tryz.prog.info? 34).map (fun i=>(i.zero,i.size,i.bytes))=some (some (.agg #[.int .i64 0,.int .i64 0,.string ⟨#[]⟩,.slice none 0 0]),4,56):=by kernel_rfl
def PostMn (w:World) (y:Ex) (x:Ending) (w':World):Prop:=∃ ao cap,x=.returned (exN y ao cap)∧SlN w' (Nw w.heap.size) y.kids ao∧Below w.heap.size w w'
def Fs.ex (x:Ex) (r:Fs):Fs:=.cons x.k x.n x.nm x.a x.kids r
theorem okA_ex {x:Ex} {r:Fs} (h:(Fs.ex x r).okA):x.okA∧r.okA:=⟨⟨h.1,h.2.1⟩,h.2.2⟩
theorem size_ex (x:Ex) (r:Fs):(Fs.ex x r).size=x.kids.size+r.size+1:=rfl
theorem len_ex (x:Ex) (r:Fs):(Fs.ex x r).len=r.len+1:=rfl
theorem len1:∀ {f:Fs},f.len=1→∃ x,f=Fs.ex x .nil
 | ⟨none⟩,h=>by cases h
 | ⟨some ⟨k,n,nm,a,ks,⟨none⟩⟩⟩,h=>⟨⟨k,n,nm,a,ks⟩,rfl⟩
 | ⟨some ⟨_,_,_,_,_,(⟨some ⟨_,_,_,_,_,_⟩⟩)⟩⟩,h=>by simp [Fs.len] at h
theorem len2:∀ {f:Fs},f.len=2→∃ x y,f=Fs.ex x (Fs.ex y .nil)
 | ⟨none⟩,h=>by cases h
 | ⟨some ⟨k,n,nm,a,ks,r⟩⟩,h=>by
  obtain ⟨y,rfl⟩:=len1 (f:=r) (by simp only [Fs.len] at h;omega)
  exact ⟨⟨k,n,nm,a,ks⟩,y,rfl⟩
theorem len3:∀ {f:Fs},f.len=3→∃ x y z,f=Fs.ex x (Fs.ex y (Fs.ex z .nil))
 | ⟨none⟩,h=>by cases h
 | ⟨some ⟨k,n,nm,a,ks,r⟩⟩,h=>by
  obtain ⟨y,z,rfl⟩:=len2 (f:=r) (by simp only [Fs.len] at h;omega)
  exact ⟨⟨k,n,nm,a,ks⟩,y,z,rfl⟩
theorem Sl.kidP {w:World} {P:Nat→Prop} {x r:Fs} {y:Ex} {ao:Option Addr} (h:Sl w P (x.app (Fs.ex y r)) ao) (i:Nat) (hi:x.len=i):∃ b off ak ck,ao=some ⟨b,off,none⟩∧w.cell? ⟨b,off+i * 5,none⟩=some (.int .i64 y.k)∧w.cell? ⟨b,off+i * 5+1,none⟩=some (.int .i64 y.n)∧w.cell? ⟨b,off+i * 5+2,none⟩=some (stv y.nm)∧w.cell? ⟨b,off+i * 5+3,none⟩=some (.slice ak y.kids.len ck)∧w.cell? ⟨b,off+i * 5+4,none⟩=some (.int .i64 y.a)∧Sl w P y.kids ak:=by
 subst hi
 rcases h with h | ⟨b,off,zs,rfl,hp,hlt,hc,hf⟩
 ·cases x using Fs.on with
  | nil=>cases h
  | cons k n nm a ks r=>cases h
 ·obtain ⟨zx,zy,rfl,h3,h4⟩:=Fc.split hf
  have hl:=h3.len
  obtain ⟨ak,ck,ys,rfl,h5,h6⟩:=h4
  have hc':∀ j u,(.int .i64 y.k :: .int .i64 y.n :: stv y.nm :: .slice ak y.kids.len ck :: .int .i64 y.a :: ys:List Value)[j]?=some u→w.cell? ⟨b,off+x.len * 5+j,none⟩=some u:=fun j u hu=>by
   have:=hc (x.len * 5+j) u (by rw [List.getElem?_append_right (by omega),hl,Nat.add_sub_cancel_left];exact hu)
   rw [Nat.add_assoc]
   exact this
  exact ⟨b,off,ak,ck,rfl,hc' 0 _ rfl,hc' 1 _ rfl,hc' 2 _ rfl,hc' 3 _ rfl,hc' 4 _ rfl,h5⟩
end Go.Proofs.YtaihhnlfcndecaaGreatDoor
namespace Go.Proofs.YtaihhnlfcndecaaGreatDoor
set_option linter.unusedVariables false
set_option linter.unusedSimpArgs false
def Fs.rng:Fs→Prop
 | ⟨none⟩=>True
 | ⟨some ⟨_,n,_,_,ks,r⟩⟩=>-9223372036854775808≤n∧n≤9223372036854775807∧ks.rng∧r.rng
structure Ex.fit (e:Ex):Prop where
 nm:e.nm.length≤maxLen
 sh:e.kids.short
 len:e.kids.len≤1000000000
 n1:-9223372036854775808≤e.n
 n2:e.n≤9223372036854775807
 rng:e.kids.rng
theorem nameB_len {t:List UInt8} (h:nameB t=true):t.length≤12:=by
 cases t with
 | nil=>simp
 | cons c r =>
  simp only [nameB,Bool.and_eq_true,decide_eq_true_eq] at h
  have:=h.1.1.1
  simp only [List.length_cons]
  omega
theorem namB_len {k:Int} {nm:List UInt8} (h:namB k nm=true):nm.length≤12:=by
 unfold namB at h
 split at h
 ·exact nameB_len h
 ·have:nm=[]:=by simpa using h
  rw [this]
  simp
theorem okP_of {k n:Int} {nm:List UInt8} {m:Nat} (h:(numB k n && namB k nm && kidB k n m)=true) (h1:-9223372036854775808≤n) (h2:n≤9223372036854775807):okP k n nm m:=by
 simp only [Bool.and_eq_true] at h
 exact ⟨h.1.1,h.1.2,h.2,namB_len h.1.2,h1,h2⟩
theorem hFs_ok:∀ (f:Fs) (b:Bool) (c c':Nat),f.rng→hFs f b c=some c'→f.okA∧c'=c+f.size
 | ⟨none⟩,b,c,c',hr,h=>by
  unfold hFs at h
  injection h with h
  exact ⟨trivial,h.symm⟩
 | ⟨some ⟨k,n,nm,a,ks,r⟩⟩,b,c,c',hr,h=>by
  unfold hFs at h
  split at h
  ·cases h
  ·split at h
   ·cases h
   ·split at h
    ·rename_i hk
     split at h
     ·cases h
     ·rename_i c2 h2
      obtain ⟨o1,e1⟩:=hFs_ok ks _ (c+1) c2 hr.2.2.1 h2
      obtain ⟨o2,e2⟩:=hFs_ok r false c2 c' hr.2.2.2 h
      exact ⟨⟨okP_of hk hr.1 hr.2.1,o1,o2⟩,by simp only [Fs.size];omega⟩
    ·cases h
theorem hE_ok {e:Ex} {c c':Nat} (hf:e.fit) (h:hE e c=some c'):e.okA∧c'=c+1+e.kids.size∧c'≤2000:=by
 have hle:=hE_le h
 unfold hE at h
 split at h
 ·cases h
 ·split at h
  ·rename_i hk
   obtain ⟨o1,e1⟩:=hFs_ok e.kids _ (c+1) c' hf.rng h
   exact ⟨⟨okP_of hk hf.n1 hf.n2,o1⟩,e1,hle⟩
  ·cases h
def s0:St:=⟨[],0,0,0,0⟩
def roomB (s:St):Bool:=!(decide (2000 < s.t.length) || decide (64 < s.m) || decide (4 < s.n))
def writA (e:Ex):Option (List UInt8) :=
 if isSetK e.k then none
 else match hE e 0 with
  | none=>none
  | some _=>if roomB (wEx e 0 s0) then some (wEx e 0 s0).t else none
end Go.Proofs.YtaihhnlfcndecaaGreatDoor
namespace Go.Proofs.YtaihhnlfcndecaaGreatDoor
open Go.ChangeShapes Go.WideShapes Go.ChangeAt Go.RowKit
set_option linter.unusedVariables false
set_option linter.unusedSimpArgs false
abbrev SlT (w:World) (f:Fs) (ao:Option Addr):Prop:=Sl w (fun _=>True) f ao
theorem SlT.below {w w':World} {f:Fs} {ao:Option Addr} (h:SlT w f ao) (b:Below w.heap.size w w'):SlT w' f ao:=h.mono (fun i _ hl=>b.block i hl) b.size (fun _ h _=>h)
theorem Sl.all {P:Nat→Prop} {w:World} {f:Fs} {ao:Option Addr} (h:Sl w P f ao):SlT w f ao:=h.mono (fun i _ hl=>rfl) (Nat.le_refl _) (fun _ _ _=>trivial)
theorem row_text {w:World} {o:Nat→Nat} {i:Nat} {v:Value} {l:List UInt8} (h:Row w o i 5 1 v l.length (byL l)) :
  (convert 116 9 v).run Tryz.prog w=.ok (stv l) w:=by
 rcases Nat.eq_zero_or_pos l.length with h0 | h0
 ·obtain rfl:l=[]:=List.length_eq_zero_iff.1 h0
  obtain ⟨ao,cap,rfl⟩:=h.form
  cases ao with
  | none=>exact run_convert_bytes_nil (P:=Tryz.prog) w 116 5 Tryz.underlying116 Tryz.underlying5 _ _ 9 Tryz.underlying9
  | some a=>exact run_convert_bytes_back w 116 9 5 a cap [] Tryz.underlying116 Tryz.underlying5 Tryz.underlying9 (fun j hj=>by simp at hj)
 ·obtain ⟨g,cap,rfl,-,-,-,-,hc,-⟩:=h.pos h0
  refine run_convert_bytes_back w 116 9 5 ⟨g,0,none⟩ cap l Tryz.underlying116 Tryz.underlying5 Tryz.underlying9 (fun j hj=>?_)
  have:=hc j (by omega)
  rw [show (⟨g,0,none⟩:Addr).add j=⟨g,j,none⟩ by simp [Addr.add];intro h;exact h.symm,this]
  simp [byL,hj]
def PostP (w:World) (r:Option (List UInt8)) (x:Ending) (w':World):Prop:=x=.returned (.tuple #[stv (r.getD []),.int .i64 (if r.isSome then 0 else 122)])∧Below w.heap.size w w'
end Go.Proofs.YtaihhnlfcndecaaGreatDoor
namespace Go.Proofs.YtaihhnlfcndecaaGreatDoor
set_option linter.unusedVariables false
def parR (rec:Rdr) (o q:Nat) (ts:List Tk):Rs Ex:=(enterT [40] o ts).bind fun _ t1=>(rec 1 (o+1) q t1).bind fun e t2=>(passT [41] t2).bind fun _ t4=>.ok e t4
theorem par_args (rec:Rdr) (o q:Nat) (ts:List Tk):((argsR rec 1 o q ts).bind fun ks t1=>.ok ks.head t1)=parR rec o q ts:=by
 unfold argsR parR
 cases enterT [40] o ts using Rs.on with
 | out=>rfl
 | bad e a=>rfl
 | ok a t1 =>
  show (((rec 1 (o+1) q t1).bind fun e t2=>(argsL rec 0 (o+1) q (one e) t2).bind fun ks t3=>(passT [41] t3).bind fun _ t4=>.ok ks t4).bind fun ks t1=>.ok ks.head t1)=(rec 1 (o+1) q t1).bind fun e t2=>(passT [41] t2).bind fun _ t4=>.ok e t4
  cases rec 1 (o+1) q t1 using Rs.on with
  | out=>rfl
  | bad e a=>rfl
  | ok e t2 =>
   show (((passT [41] t2).bind fun _ t4=>Rs.ok (one e) t4).bind fun ks t1=>.ok ks.head t1)=(passT [41] t2).bind fun _ t4=>.ok e t4
   cases passT [41] t2 using Rs.on with
   | out=>rfl
   | bad e a=>rfl
   | ok a t4=>rfl
section
variable {g d:Nat} {v v':List Tk} {rec:Rdr}
end
theorem lexL_thenG (k:Nat) (t:List UInt8) (a p:Nat) (l:List UInt8) (ts:List Tk) (c:UInt8) (m:List UInt8) (hb:∀ k t,k≠0→tks k t c.toNat=false) (h:lexL k t a p l=.inr ts) :
  ∃ us,ts=us++[⟨0,0,[],p+l.length⟩]∧lexL k t a p (l++c :: m)=preR us (lexL 0 [] (p+l.length) (p+l.length) (c :: m)):=by
 induction l generalizing k t a p ts with
 | nil =>
  rcases shut_inr h with ⟨rfl,h1⟩ | ⟨hk,x,us,hp,h1,h2⟩
  ·injection h1 with h1
   exact ⟨[],h1.symm,lexL_blank _ _ _ _ _ _⟩
  ·injection h1 with h1
   subst h1
   refine ⟨[x],h2,?_⟩
   simp only [List.nil_append,List.length_nil,Nat.add_zero]
   rw [lexL_shut (hb k t hk)]
   unfold shutP
   rw [if_neg hk,hp]
   rfl
 | cons d r ih =>
  have e1:p+(d :: r).length=p+1+r.length:=by simp;omega
  rw [e1]
  cases ht:tks k t d.toNat
  ·rw [lexL_no ht] at h
   rw [List.cons_append,lexL_no ht]
   rcases shut_inr h with ⟨rfl,h1⟩ | ⟨hk,x,us,hp,h1,h2⟩
   ·obtain ⟨vs,h3,h4⟩:=ih _ _ _ _ _ h1
    refine ⟨vs,h3,?_⟩
    rw [h4]
    rfl
   ·obtain ⟨vs,h3,h4⟩:=ih _ _ _ _ _ h1
    refine ⟨x :: vs,by rw [h2,h3];rfl,?_⟩
    rw [h4]
    unfold shutP
    rw [if_neg hk,hp]
    rfl
  ·rw [lexL_yes ht] at h
   rw [List.cons_append,lexL_yes ht]
   exact ih _ _ _ _ _ h
theorem par_tks (c:UInt8) (hc:c=40∨c=41) (k:Nat) (t:List UInt8) (hk:k≠0):tks k t c.toNat=false:=by
 unfold tks
 split
 ·exact absurd rfl hk
 ·rcases hc with rfl | rfl <;> rfl
 ·rcases hc with rfl | rfl <;> rfl
 ·rcases hc with rfl | rfl <;> rfl
 ·rfl
theorem ptok_kind {k:Nat} {t:List UInt8} {a:Nat} {x:Tk} (h:ptok k t a=.inr x):x.k≠0:=by
 unfold ptok at h
 split at h
 ·unfold wrdT at h
  repeat' split at h
  all_goals first | (injection h with h;subst h;simp) | cases h
 ·unfold numT at h
  repeat' split at h
  all_goals first | (injection h with h;subst h;simp) | cases h
 ·unfold sgnT at h
  split at h
  all_goals first | (injection h with h;subst h;simp) | cases h
 ·cases h
theorem lex_last (k:Nat) (t:List UInt8) (a p:Nat) (l:List UInt8) (us:List Tk) (e:Tk) (h:lexL k t a p l=.inr (us++[e])):∀ x,x ∈ us→x.k≠0:=by
 induction l generalizing k t a p us with
 | nil =>
  unfold lexL at h
  rcases shut_inr h with ⟨_,h2⟩ | ⟨_,x,vs,hp,h2,h3⟩
  ·unfold endR at h2
   injection h2 with h2
   have:us=[]:=by
    have:=congrArg List.length h2
    simp at this
    exact this
   subst this
   intro x hx
   cases hx
  ·unfold endR at h2
   injection h2 with h2
   subst h2
   have:us=[x]:=by
    have h4:us++[e]=[x]++[⟨0,0,[],p⟩]:=h3
    exact List.append_inj_left' h4 rfl
   subst this
   intro y hy
   simp at hy
   rw [hy]
   exact ptok_kind hp
 | cons c r ih =>
  unfold lexL at h
  split at h
  ·exact ih _ _ _ _ _ h
  ·rcases shut_inr h with ⟨_,h2⟩ | ⟨_,x,vs,hp,h2,h3⟩
   ·exact ih _ _ _ _ _ h2
   ·cases us with
    | nil=>intro y hy;cases hy
    | cons z us =>
     rw [List.cons_append] at h3
     injection h3 with h4 h5
     subst h4 h5
     intro y hy
     rcases List.mem_cons.1 hy with rfl | hy
     ·exact ptok_kind hp
     ·exact ih _ _ _ _ _ h2 y hy
theorem parse_text {s:List UInt8} {x:Ex} {t:List Tk} (h:parseA s=.ok x t):∃ us E,s.length≤2000∧lexA s=.inr (us++[E])∧E=⟨0,0,[],s.length⟩∧us.length≤s.length∧(∀ y,y ∈ us→y.k≠0)∧partF 30000 1 0 0 (us++[E])=.ok x [E]:=by
 unfold parseA at h
 cases hs:scanA s with
 | inl z=>obtain ⟨e,p⟩:=z;rw [hs] at h;cases h
 | inr ts =>
  rw [hs] at h
  have h:readF 30000 ts=.ok x t:=h
  have hk:=scan_ok hs
  obtain ⟨us,h1,_⟩:=lexL_thenG 0 [] 0 0 s ts 41 [] (par_tks 41 (.inr rfl)) hk.2.1
  rw [Nat.zero_add] at h1
  subst h1
  have hl:=lex_last _ _ _ _ _ _ _ hk.2.1
  refine ⟨us,_,hk.1,hk.2.1,rfl,by have:=hk.2.2.2.1;simp at this;exact this,hl,?_⟩
  unfold readF at h
  cases hp:partF 30000 1 0 0 (us++[⟨0,0,[],s.length⟩]) using Rs.on with
  | out=>rw [hp] at h;cases h
  | bad e a=>rw [hp] at h;cases h
  | ok y t0 =>
   rw [hp] at h
   have hsf:=lq_part 30000 1 0 0 _ _ (List.suffix_refl _) y t0 hp
   cases t0 with
   | nil=>cases h
   | cons z r =>
    simp only [Rs.bind] at h
    by_cases hz:z.k=0
    ·rw [if_pos hz] at h
     obtain ⟨h1,h2⟩:=Rs.ok_inj h
     subst h1
     obtain ⟨pre,hpre⟩:=hsf
     cases r with
     | nil =>
      have h3:pre++[z]=us++[⟨0,0,[],s.length⟩]:=hpre
      have h4:=List.append_inj_right' h3 rfl
      rw [h4]
     | cons z2 r =>
      exfalso
      have h5:z ∈ us:=by
       have h6:pre++z :: (z2 :: r)=us++[⟨0,0,[],s.length⟩]:=hpre
       have h7:(pre++z :: (z2 :: r)).dropLast=us:=by rw [h6];simp
       rw [←h7]
       have:pre++z :: (z2 :: r)=(pre++[z])++(z2 :: r):=by simp
       rw [this,List.dropLast_append_cons]
       simp
      exact hl z h5 hz
    ·rw [if_neg hz] at h
     cases h
end Go.Proofs.YtaihhnlfcndecaaGreatDoor
namespace Go.Proofs.YtaihhnlfcndecaaGreatDoor
open Go.ChangeShapes Go.WideShapes Go.ChangeAt Go.RowKit
set_option linter.unusedVariables false
set_option linter.unusedSimpArgs false
def LFn (w:World) (P:Nat→Prop):Fs→List Value→Prop
 | ⟨none⟩,xs=>xs=[]
 | ⟨some ⟨k,n,nm,a,ks,r⟩⟩,xs=>∃ b cap zs ys,xs=.int .i64 k :: .int .i64 n :: stv nm :: .slice (some ⟨b,0,none⟩) ks.len cap :: ys ∧
   (P b∧b < w.heap.size∧ks.len+1≤cap∧cap≤maxLen∧(∀ j u,zs[j]?=some u→w.cell? ⟨b,0+j,none⟩=some u)∧w.cell? ⟨b,ks.len * 4,none⟩=some (.int .i64 (-7))∧LFn w P ks zs)∧LFn w P r ys
def Spn (w:World) (P:Nat→Prop) (f:Fs) (b cap:Nat):Prop :=
 ∃ zs,P b∧b < w.heap.size∧f.len+1≤cap∧cap≤maxLen∧(∀ j u,zs[j]?=some u→w.cell? ⟨b,0+j,none⟩=some u)∧w.cell? ⟨b,f.len * 4,none⟩=some (.int .i64 (-7))∧LFn w P f zs
theorem LFn.len {w:World} {P:Nat→Prop}:∀ {f:Fs} {xs:List Value},LFn w P f xs→xs.length=f.len * 4
 | ⟨none⟩,xs,h=>by
  have h:xs=[]:=h
  subst h
  rfl
 | ⟨some ⟨k,n,nm,a,ks,r⟩⟩,xs,h=>by
  obtain ⟨b,cap,zs,ys,rfl,_,h2⟩:=h
  have:=LFn.len h2
  simp only [List.length_cons,Fs.len]
  omega
theorem LFn.mono {w w':World} {P Q:Nat→Prop} (hb:∀ k,P k→k < w.heap.size→w'.heap[k]?=w.heap[k]?) (hs:w.heap.size≤w'.heap.size) (hq:∀ k,P k→k < w.heap.size→Q k):∀ {f:Fs} {xs:List Value},LFn w P f xs→LFn w' Q f xs
 | ⟨none⟩,xs,h=>h
 | ⟨some ⟨k,n,nm,a,ks,r⟩⟩,xs,h=>by
  obtain ⟨b,cap,zs,ys,rfl,⟨hp,hlt,h1,h2,hc,h7,h3⟩,h4⟩:=h
  exact ⟨b,cap,zs,ys,rfl,⟨hq b hp hlt,Nat.lt_of_lt_of_le hlt hs,h1,h2,fun j u hu=>(World.cell?_of_block (a:=⟨b,0+j,none⟩) (hb b hp hlt)).trans (hc j u hu),(World.cell?_of_block (a:=⟨b,ks.len * 4,none⟩) (hb b hp hlt)).trans h7,LFn.mono hb hs hq h3⟩,LFn.mono hb hs hq h4⟩
theorem Spn.mono {w w':World} {P Q:Nat→Prop} {f:Fs} {b cap:Nat} (hb:∀ k,P k→k < w.heap.size→w'.heap[k]?=w.heap[k]?) (hs:w.heap.size≤w'.heap.size) (hq:∀ k,P k→k < w.heap.size→Q k) (h:Spn w P f b cap):Spn w' Q f b cap:=by
 obtain ⟨zs,hp,hlt,h1,h2,hc,h7,h3⟩:=h
 exact ⟨zs,hq b hp hlt,Nat.lt_of_lt_of_le hlt hs,h1,h2,fun j u hu=>(World.cell?_of_block (a:=⟨b,0+j,none⟩) (hb b hp hlt)).trans (hc j u hu),(World.cell?_of_block (a:=⟨b,f.len * 4,none⟩) (hb b hp hlt)).trans h7,h3.mono hb hs hq⟩
theorem LFn.fc {w:World} {P:Nat→Prop}:∀ {f:Fs} {xs:List Value},LFn w P f xs→FcN w P f xs
 | ⟨none⟩,xs,h=>h
 | ⟨some ⟨k,n,nm,a,ks,r⟩⟩,xs,h=>by
  obtain ⟨b,cap,zs,ys,rfl,⟨hp,hlt,h1,h2,hc,h7,h3⟩,h4⟩:=h
  exact ⟨some ⟨b,0,none⟩,cap,ys,rfl,.inr ⟨b,0,zs,rfl,hp,hlt,hc,h3.fc⟩,h4.fc⟩
theorem Spn.sl {w:World} {P:Nat→Prop} {f:Fs} {b cap:Nat} (h:Spn w P f b cap):SnA w f (some ⟨b,0,none⟩):=by
 obtain ⟨zs,hp,hlt,h1,h2,hc,h7,h3⟩:=h
 exact (show SlN w P f (some ⟨b,0,none⟩) from .inr ⟨b,0,zs,rfl,hp,hlt,hc,h3.fc⟩).all
theorem LFn.app {w:World} {P:Nat→Prop}:∀ {f g:Fs} {xs ys:List Value},LFn w P f xs→LFn w P g ys→LFn w P (f.app g) (xs++ys)
 | ⟨none⟩,g,xs,ys,h,k=>by
  have h:xs=[]:=h
  subst h
  exact k
 | ⟨some ⟨i,n,nm,a,ks,r⟩⟩,g,xs,ys,h,k=>by
  obtain ⟨b,cap,zs,us,rfl,h1,h2⟩:=h
  exact ⟨b,cap,zs,us++ys,rfl,h1,LFn.app h2 k⟩
theorem LFn.one {w:World} {P:Nat→Prop} {e:Ex} {b cap:Nat} (h:Spn w P e.kids b cap):LFn w P (one e) [.int .i64 e.k,.int .i64 e.n,stv e.nm,.slice (some ⟨b,0,none⟩) e.kids.len cap]:=by
 obtain ⟨zs,h⟩:=h
 exact ⟨b,cap,zs,[],rfl,h,rfl⟩
theorem LFn.lab {I:Nat→Prop} {w w':World} {o o':Nat→Nat} {n0:Nat} {f:Fs} {xs:List Value} (h:LFn w (N0 n0 o) f xs) (s:Step I w o w' o') (h0:¬ I 0):LFn w' (N0 n0 o') f xs :=
 h.mono (fun i hp hl=>s.block i hl (by rw [hp.2];exact h0)) s.size (fun i hp hl=>⟨hp.1,(s.lab i hl).trans hp.2⟩)
theorem Spn.lab {I:Nat→Prop} {w w':World} {o o':Nat→Nat} {n0 b cap:Nat} {f:Fs} (h:Spn w (N0 n0 o) f b cap) (s:Step I w o w' o') (h0:¬ I 0):Spn w' (N0 n0 o') f b cap :=
 h.mono (fun i hp hl=>s.block i hl (by rw [hp.2];exact h0)) s.size (fun i hp hl=>⟨hp.1,(s.lab i hl).trans hp.2⟩)
def AccTn (w:World) (o:Nat→Nat) (n0:Nat) (acc:Fs) (v:Value):Prop:=∃ xs,Row w o 2 34 4 v acc.len xs∧LFn w (N0 n0 o) acc xs
theorem AccTn.step {I:Nat→Prop} {w w':World} {o o':Nat→Nat} {n0:Nat} {acc:Fs} {v:Value} (h:AccTn w o n0 acc v) (s:Step I w o w' o') (h0:¬ I 0) (h2:¬ I 2):AccTn w' o' n0 acc v:=by
 obtain ⟨xs,r,f⟩:=h
 exact ⟨xs,r.step s h2,f.lab s h0⟩
theorem AccTn.push {w w2:World} {o o2:Nat→Nat} {n0 b ce:Nat} {acc:Fs} {xs:List Value} {v2:Value} {y:Ex} (f:LFn w (N0 n0 o) acc xs) (S:Spn w (N0 n0 o) y.kids b ce) (s:Step (fun x=>x=2) w o w2 o2)
  (r:Row w2 o2 2 34 4 v2 (acc.len+1) (xs++[.int .i64 y.k,.int .i64 y.n,stv y.nm,.slice (some ⟨b,0,none⟩) y.kids.len ce])):AccTn w2 o2 n0 (acc.snoc y) v2 :=
 ⟨_,by rw [Fs.len_snoc];exact r,(f.lab s (by decide)).app (LFn.one (S.lab s (by decide)))⟩
theorem AccTn.last {w w2:World} {o o2:Nat→Nat} {n0 g cap:Nat} {acc:Fs} {xs:List Value} (f:LFn w (N0 n0 o) acc xs) (s:Step (fun x=>x=2) w o w2 o2) (ho:∀ k,k < n0→o2 k=0)
  (r:Row w2 o2 2 34 4 (.slice (some ⟨g,0,none⟩) (acc.len+1) cap) (acc.len+1) (xs++[.int .i64 (-7),.int .i64 0,.string ⟨#[]⟩,.slice none 0 0])) :
  Spn w2 (fun b=>n0≤b∧(o2 b=0∨o2 b=2)) acc g cap∧acc.len+1≤cap:=by
 obtain ⟨g',cap',hv,hg,hc1,hc2,hlt,hc,_⟩:=r.pos (by omega)
 simp only [Value.slice.injEq,Option.some.injEq,Addr.mk.injEq,true_and,and_true] at hv
 obtain ⟨rfl,rfl⟩:=hv
 have hl:=f.len
 have f2:=f.lab s (by decide)
 refine ⟨⟨xs,⟨?_,.inr hg⟩,hlt,hc1,hc2,fun j u hu=>?_,?_,f2.mono (fun _ _ _=>rfl) (Nat.le_refl _) (fun _ hp _=>⟨hp.1,.inl hp.2⟩)⟩,hc1⟩
 ·by_cases hn:n0≤g
  ·exact hn
  ·have:=ho g (by omega)
   omega
 ·have hj:j < xs.length:=by
   by_cases hj:j < xs.length
   ·exact hj
   ·rw [List.getElem?_eq_none (by omega)] at hu
    cases hu
  rw [Nat.zero_add,hc j (by omega),List.getElem?_append_left hj]
  exact hu
 ·rw [hc (acc.len * 4) (by omega),List.getElem?_append_right (by omega),hl,Nat.sub_self]
  rfl
theorem heap_set4 (w:World) (b k:Nat) (b0 b1 b2 b3:Value) (h:k≠b):((((w.setCell ⟨b,0,none⟩ b0).setCell ⟨b,1,none⟩ b1).setCell ⟨b,2,none⟩ b2).setCell ⟨b,3,none⟩ b3).heap[k]?=w.heap[k]? :=
 (heap_setCell_other _ ⟨b,3,none⟩ k _ h).trans ((heap_setCell_other _ ⟨b,2,none⟩ k _ h).trans ((heap_setCell_other _ ⟨b,1,none⟩ k _ h).trans (heap_setCell_other _ ⟨b,0,none⟩ k _ h)))
def PostLn (w:World) (e:Ex) (x:Ending) (w':World):Prop:=∃ b cap,x=.returned (exN e (some ⟨b,0,none⟩) cap)∧Spn w' (Nw w.heap.size) e.kids b cap∧Below w.heap.size w w'
def LentNOk (N:Nat):Prop:=∀ (e:Ex) (ao:Option Addr) (cap:Nat) (w:World),e.kids.size < N→e.kids.len≤1000000000→e.kids.short→SnA w e.kids ao →
 Calls Tryz.prog 38 #[exN e ao cap] w (PostLn w e)
set_option maxRecDepth 100000 in
set_option maxHeartbeats 2000000 in
theorem lentn_step {N:Nat} (IH:LentNOk N):LentNOk (N+1):=by
 intro e ao cap w hN hlen hsh S
 obtain ⟨ii,hii,hzi0,hzi1,hzi2⟩:=info_parts infoNode
 obtain ⟨w0,hw0⟩:∃ w0,w0=((w.alloc (.cells #[.int .i64 e.k,.int .i64 e.n,stv e.nm,.slice ao e.kids.len cap] 34)).alloc (.cells #[.int .i64 0,.int .i64 0,.string ⟨#[]⟩,.slice none 0 0] 34)).alloc (.cells #[.int .i64 e.k,.int .i64 e.n,stv e.nm,.slice none 0 0] 34):=⟨_,rfl⟩
 have B0:Below w.heap.size w w0:=by rw [hw0];exact (((Below.refl _ w).alloc (Nat.le_refl _) _).alloc (by simp) _).alloc (by simp;omega) _
 obtain ⟨o0,ho0⟩:∃ o0:Nat→Nat,o0=fun k=>if k=w.heap.size+1+1 then 1 else if k=w.heap.size+1 then 3 else 0:=⟨_,rfl⟩
 have E0:Blk w0 o0 0 w.heap.size (.cells #[.int .i64 e.k,.int .i64 e.n,stv e.nm,.slice ao e.kids.len cap] 34):=by
  refine ⟨?_,by rw [ho0];simp only;rw [if_neg (by omega),if_neg (by omega)]⟩
  rw [hw0]
  exact (Below.heap_alloc _ _ _ (by simp;omega)).trans ((Below.heap_alloc _ _ _ (by simp)).trans (heap_alloc_new w _))
 have Z0:Blk w0 o0 3 (w.heap.size+1) (.cells #[.int .i64 0,.int .i64 0,.string ⟨#[]⟩,.slice none 0 0] 34):=by
  refine ⟨?_,by rw [ho0];simp⟩
  rw [hw0]
  refine (Below.heap_alloc _ _ _ (by simp)).trans ?_
  have:=heap_alloc_new (w.alloc (.cells #[.int .i64 e.k,.int .i64 e.n,stv e.nm,.slice ao e.kids.len cap] 34)) (.cells #[.int .i64 0,.int .i64 0,.string ⟨#[]⟩,.slice none 0 0] 34)
  simpa using this
 have O0:Blk w0 o0 1 (w.heap.size+1+1) (.cells #[.int .i64 e.k,.int .i64 e.n,stv e.nm,.slice none 0 0] 34):=by
  refine ⟨?_,by rw [ho0];simp⟩
  rw [hw0]
  have:=heap_alloc_new ((w.alloc (.cells #[.int .i64 e.k,.int .i64 e.n,stv e.nm,.slice ao e.kids.len cap] 34)).alloc (.cells #[.int .i64 0,.int .i64 0,.string ⟨#[]⟩,.slice none 0 0] 34)) (.cells #[.int .i64 e.k,.int .i64 e.n,stv e.nm,.slice none 0 0] 34)
  simpa using this
 have L0:∀ k,k < w.heap.size→o0 k=0:=fun k hk=>by rw [ho0];simp only;rw [if_neg (by omega),if_neg (by omega)]
 have A0:AccTn w0 o0 w.heap.size .nil (.slice none 0 0):=⟨[],Row.nil _ _ _ _ _,rfl⟩
 rw [exN_out]
 go_enter Tryz.func38,Tryz.ntmps38
 go_upto_region 2 with fail
 rw [←hw0]
 clear hw0 ho0
 obtain ⟨n0,hn0⟩:∃ n0,n0=w.heap.size:=⟨_,rfl⟩
 unfold PostLn
 rw [←hn0] at E0 Z0 O0 L0 A0 B0 ⊢
 have HB:Hid (n0=w.heap.size):=hn0
 clear hn0
 go_wp2
 go_loopw [4] (fun v wr=>∃ (done r:Fs) (o:Nat→Nat) (va:Value),Hid (e.kids=done.app r)∧v=.int .i64 (done.len:Nat)∧Blk wr o 0 n0 (.cells #[.int .i64 e.k,.int .i64 e.n,stv e.nm,.slice ao e.kids.len cap] 34)∧Blk wr o 3 (n0+1) (.cells #[.int .i64 0,.int .i64 0,.string ⟨#[]⟩,.slice none 0 0] 34)∧Blk wr o 1 (n0+1+1) (.cells #[.int .i64 e.k,.int .i64 e.n,stv e.nm,va] 34)∧AccTn wr o n0 done va∧Hid (∀ k,k < n0→o k=0)∧Below n0 w wr) (fun v _=>e.kids.len - (intOf v).toNat)
 case atStart=>exact ⟨.nil,e.kids,o0,.slice none 0 0,rfl,by show _=Value.int .i64 ((0:Nat):Int);rfl,E0,Z0,O0,A0,L0,B0⟩
 case round =>
  clear E0 Z0 O0 A0 L0 B0
  obtain ⟨done,r,o,va,hk,rfl,E1,Z1,O1,A1,L1,B1⟩:=hrel
  have hlk:e.kids.len=done.len+r.len:=by rw [hk.out,Fs.len_app]
  obtain ⟨p0,p1,p2,p3,pf⟩:=box4 E1.1
  cases r using Fs.on with
  | nil =>
   have hl0:¬ (done.len:Int) < (e.kids.len:Int):=by simp only [Fs.len] at hlk;omega
   have hdn:e.kids=done:=by rw [hk.out];clear hk hlk hl0 A1;exact app_nil' done
   have HDN:=Lib.hid hdn
   obtain ⟨xs,R1,F1⟩:=A1
   obtain ⟨a8,c8,rfl⟩:=R1.form
   have b1:done.len+1≤maxLen:=by unfold maxLen;omega
   have b2:(done.len+1) * 56≤140737488355328:=by omega
   have hone:∀ u ∈ [Value.int .i64 (-7),.int .i64 0,.string ⟨#[]⟩,.slice none 0 0],u.oneCell'=true:=by intro u hu;simp at hu;rcases hu with rfl | rfl | rfl | rfl <;> rfl
   have hO:=O1.lt
   clear hk hlk hdn
   go_upto_region 7 with fail
   go_cut [41] (fun v wx=>∃ (o9:Nat→Nat) (g9 c9:Nat),Blk wx o9 1 (n0+1+1) (.cells #[.int .i64 e.k,.int .i64 e.n,stv e.nm,.slice (some ⟨g9,0,none⟩) done.len c9] 34 (0,0))∧Blk wx o9 3 (n0+1) (.cells #[.int .i64 0,.int .i64 0,.string ⟨#[]⟩,.slice none 0 0] 34 (0,0))∧Spn wx (fun b=>n0≤b∧(o9 b=0∨o9 b=2)) done g9 c9∧Below n0 w wx)
   case first =>
    obtain ⟨t0,t1,t2,t3,tf⟩:=box4 O1.1
    have sA:=(boxStep (fun _=>False) wr o (.cells #[.int .i64 (-7),.int .i64 0,.string ⟨#[]⟩,.slice none 0 0] 34)).drew
    have LA:Hid (∀ k,k < n0→newLab wr o 0 k=0):=fun k hk=>by rw [newLab_old (by have:=E1.lt;omega)];exact L1.out k hk
    have RA:=R1.step sA id
    have FA:=F1.lab sA id
    have OA:=O1.step sA id
    have ZA:=Z1.step sA id
    have BA:=below_stepB B1 sA (fun _ _=>id) (by rw [HB.out];exact Nat.le_refl _)
    have hnI:(done.len:Int)≤(done.len:Int)+1:=by omega
    go_region_law (refine step_append_lab rfl (.tmp 33) (.tmp 35) 32 rfl 34 ii _ 4 56 Tryz.underlying32 hii hzi0 hzi1 hzi2 rfl (by decide) (newLab wr o 0) 2 _ done.len xs (by simp [Act.eval,Act.put]) RA ⟨wr.heap.size,0,none⟩ 1 1 [Value.int .i64 (-7),.int .i64 0,.string ⟨#[]⟩,.slice none 0 0] (by simp [Act.eval,Act.put]) rfl (new_cells_at wr _ _) hone (by decide) b1 b2 ?_;intro g9 c9 w9 o9 r9 s9;have L9:∀ k,k < n0→o9 k=0:=fun k hk=>(s9.lab k (by have h1:=OA.lt;omega)).trans (LA.out k hk);have SP:=AccTn.last FA s9 L9 r9;have hc9:done.len≤c9:=(by have:=SP.2;omega);have O9:=OA.step s9 (by decide);have Z9:=ZA.step s9 (by decide);have B9:=below_stepB BA s9 (fun k hk=>by rw [LA.out k hk];decide) (by rw [HB.out];exact Nat.le_refl _);obtain ⟨u0,u1,u2,u3,uf⟩:=box4 O9.1)
    all_goals
     have s10:Step (fun k=>k=1) w9 o9 (w9.setCell ⟨n0+1+1,3,none⟩ (.slice (some ⟨g9,0,none⟩) done.len c9)) o9:=setStep _ w9 o9 ⟨n0+1+1,3,none⟩ _ O9.2
     have O10:=O9.set 3 (.slice (some ⟨g9,0,none⟩) done.len c9)
     have Z10:=Z9.step s10 (by decide)
     have B10:=below_stepB B9 s10 (fun k hk=>by rw [L9 k hk];decide) (by rw [HB.out];exact Nat.le_refl _)
     have SP10:=SP.1.mono (fun i hp hl=>s10.block i hl (by rcases hp.2 with h | h <;> omega)) s10.size (fun _ h _=>h)
     clear s10 SP O9 Z9 B9 L9 s9 r9 RA FA OA ZA BA LA sA
     go_wp2
     go_meet
     exact ⟨o9,g9,c9,O10,Z10,SP10,B10⟩
   case rest =>
   obtain ⟨o9,g9,c9,O9,Z9,SP,B9⟩:=hcut
   clear E1 Z1 O1 R1 F1 L1 B1
   have SE:=SP.mono (w':=(((wc.setCell ⟨n0+1,0,none⟩ (.int .i64 e.k)).setCell ⟨n0+1,1,none⟩ (.int .i64 e.n)).setCell ⟨n0+1,2,none⟩ (stv e.nm)).setCell ⟨n0+1,3,none⟩ (.slice (some ⟨g9,0,none⟩) done.len c9)) (Q:=Nw n0) (fun i hp hl=>heap_set4 wc (n0+1) i _ _ _ _ (fun ee=>by
    have h2:=Z9.2
    rw [←ee] at h2
    rcases hp.2 with h | h <;> omega)) (by simp) (fun i hp _=>hp.1)
   have BE:=(((B9.setCell (p:=⟨n0+1,0,none⟩) (Nat.le_succ _) (.int .i64 e.k)).setCell (p:=⟨n0+1,1,none⟩) (Nat.le_succ _) (.int .i64 e.n)).setCell (p:=⟨n0+1,2,none⟩) (Nat.le_succ _) (stv e.nm)).setCell (p:=⟨n0+1,3,none⟩) (Nat.le_succ _) (.slice (some ⟨g9,0,none⟩) done.len c9)
   have ZE:=set4k (b0:=.int .i64 e.k) (b1:=.int .i64 e.n) (b2:=stv e.nm) (b3:=.slice (some ⟨g9,0,none⟩) done.len c9) Z9.1
   have HU:Hid (∃ wz,wz=(((wc.setCell ⟨n0+1,0,none⟩ (.int .i64 e.k)).setCell ⟨n0+1,1,none⟩ (.int .i64 e.n)).setCell ⟨n0+1,2,none⟩ (stv e.nm)).setCell ⟨n0+1,3,none⟩ (.slice (some ⟨g9,0,none⟩) done.len c9)∧wz.cell? ⟨n0+1,0,none⟩=some (.int .i64 e.k)∧wz.cell? ⟨n0+1,1,none⟩=some (.int .i64 e.n)∧wz.cell? ⟨n0+1,2,none⟩=some (stv e.nm)∧wz.cell? ⟨n0+1,3,none⟩=some (.slice (some ⟨g9,0,none⟩) done.len c9)∧Spn wz (Nw n0) done g9 c9∧Below n0 w wz):=by
    obtain ⟨u0,u1,u2,u3,-⟩:=box4 ZE
    exact ⟨_,rfl,u0,u1,u2,u3,SE,BE⟩
   obtain ⟨u0,u1,u2,u3,uf⟩:=box4 O9.1
   obtain ⟨z0,z1,z2,z3,zf⟩:=box4 Z9.1
   clear SE BE ZE O9 Z9 SP B9
   go_wp2
   obtain ⟨wz,hwz,v0,v1,v2,v3,SZ,BZ⟩:=HU.out
   clear HU
   rw [←hwz]
   clear hwz
   refine bodyPost_ret (v:=exN e (some ⟨g9,0,none⟩) c9) (by simp [results,Tryz.results38,go_sem,v0,v1,v2,v3,exN,HDN.out]) rfl ⟨g9,c9,rfl,by rw [HDN.out,←HB.out];exact SZ,by rw [←HB.out];exact BZ⟩
  | cons kk kn km ka kks kr =>
   have hl0:(done.len:Int) < (e.kids.len:Int):=by simp only [Fs.len] at hlk;omega
   have hl1:done.len < e.kids.len:=by omega
   have hsz:e.kids.size=done.size+(kks.size+kr.size+1):=by rw [hk.out,Fs.size_app];rfl
   have hsk:(Fs.cons kk kn km ka kks kr).short:=Fs.app_short (by rw [←hk.out];exact hsh)
   have hn0:n0≤wr.heap.size:=by have:=E1.lt;omega
   obtain ⟨b,off,ak,ck,hao,lb1,-,x0,x1,x2,x3,SK⟩:=SlN.kidQ (by rw [←hk.out];exact SnA.below S (by rw [←HB.out];exact B1))
   subst hao
   obtain ⟨y,hy⟩:∃ y:Ex,y=⟨kk,kn,km,ka,kks⟩:=⟨_,rfl⟩
   have hc0:=IH ⟨kk,kn,km,ka,kks⟩ ak ck wr (by show kks.size < N;omega) hsk.2.1 hsk.2.2.1 SK
   have hc:Calls Tryz.prog 38 #[.agg #[.int .i64 kk,.int .i64 kn,stv km,.slice ak kks.len ck]] wr (PostLn wr y):=by rw [hy];exact hc0
   clear hc0
   have hk2:Hid (e.kids=(done.snoc ⟨kk,kn,km,ka,kks⟩).app kr):=by show e.kids=_;rw [hk.out];unfold Fs.snoc;rw [Fs.app_assoc];rfl
   have HS:Hid (done.snoc ⟨kk,kn,km,ka,kks⟩=done.snoc y):=by show _=_;rw [hy]
   have hl2:(done.len:Int)+1=((done.snoc ⟨kk,kn,km,ka,kks⟩).len:Nat):=by rw [Fs.len_snoc];rfl
   clear hlk hsz hsk hy SK
   go_wp2_with fail
   refine hc.mono ?_
   rintro x w6 ⟨bk6,ck6,rfl,S6,b6⟩
   have s6:Step (fun _=>False) wr o w6 (newLab wr o 0):=((Step.refl _ wr o).labelled 0).trans (Step.ofB (newLab wr o 0) b6)
   have T6:Spn w6 (N0 n0 (newLab wr o 0)) y.kids bk6 ck6:=S6.mono (fun _ _ _=>rfl) (Nat.le_refl _) (fun i hp hl=>⟨Nat.le_trans hn0 hp,newLab_new hp⟩)
   have L6:Hid (∀ k,k < n0→newLab wr o 0 k=0):=fun k hk=>by rw [newLab_old (by omega)];exact L1.out k hk
   have E6:=E1.step s6 id
   have Z6:=Z1.step s6 id
   have O6:=O1.step s6 id
   have A6:=A1.step s6 id id
   have B6:=below_stepB B1 s6 (fun _ _=>id) (by rw [HB.out];exact Nat.le_refl _)
   generalize newLab wr o 0=o6 at *
   clear hc S6 b6 s6 E1 Z1 O1 A1 B1 L1 x0 x1 x2 x3 p0 p1 p2 p3 pf
   have s7:=boxStep (fun _=>False) w6 o6 (.cells #[.int .i64 y.k,.int .i64 y.n,stv y.nm,.slice (some ⟨bk6,0,none⟩) y.kids.len ck6] 34)
   have K7:=boxBlk w6 o6 #[.int .i64 y.k,.int .i64 y.n,stv y.nm,.slice (some ⟨bk6,0,none⟩) y.kids.len ck6] 34
   have T7:=T6.lab s7 id
   have hs6:n0≤w6.heap.size:=by have:=E6.lt;omega
   have L7:Hid (∀ k,k < n0→newLab w6 o6 0 k=0):=fun k hk=>by rw [newLab_old (by omega)];exact L6.out k hk
   have E7:=E6.step s7 id
   have Z7:=Z6.step s7 id
   have O7:=O6.step s7 id
   have A7:=A6.step s7 id id
   have B7:=below_stepB B6 s7 (fun _ _=>id) (by rw [HB.out];exact Nat.le_refl _)
   rw [exN_out]
   go_upto_region 6 with fail
   generalize newLab w6 o6 0=o7 at *
   generalize w6.alloc (.cells #[.int .i64 y.k,.int .i64 y.n,stv y.nm,.slice (some ⟨bk6,0,none⟩) y.kids.len ck6] 34)=w7 at *
   generalize w6.heap.size=bk at *
   clear s7 T6 E6 Z6 O6 A6 B6 L6
   obtain ⟨p0,p1,p2,p3,pf⟩:=box4 O7.1
   obtain ⟨q0,q1,q2,q3,qf⟩:=box4 K7.1
   have s8:=boxStep (fun _=>False) w7 o7 (.cells #[.int .i64 y.k,.int .i64 y.n,stv y.nm,.slice (some ⟨bk6,0,none⟩) y.kids.len ck6] 34)
   have T8:=T7.lab s8 id
   have L8:Hid (∀ k,k < n0→newLab w7 o7 0 k=0):=fun k hk=>by rw [newLab_old (by have:=E7.lt;omega)];exact L7.out k hk
   have E8:=E7.step s8 id
   have Z8:=Z7.step s8 id
   have O8:=O7.step s8 id
   have A8:=A7.step s8 id id
   have B8:=below_stepB B7 s8 (fun _ _=>id) (by rw [HB.out];exact Nat.le_refl _)
   obtain ⟨xs,R8,F8⟩:=A8
   obtain ⟨a8,c8,rfl⟩:=R8.form
   have b1:done.len+1≤maxLen:=by unfold maxLen;omega
   have b2:(done.len+1) * 56≤140737488355328:=by omega
   have hone:∀ u ∈ [Value.int .i64 y.k,.int .i64 y.n,stv y.nm,.slice (some ⟨bk6,0,none⟩) y.kids.len ck6],u.oneCell'=true:=by intro u hu;simp at hu;rcases hu with rfl | rfl | rfl | rfl <;> rfl
   clear E7 Z7 O7 A7 B7 L7 T7 s8
   go_wp2_with (first | (at_builtin;refine wpList_append_lab rfl (.tmp 27) (.tmp 29) 32 rfl 34 ii _ 4 56 Tryz.underlying32 hii hzi0 hzi1 hzi2 rfl (by decide) (newLab w7 o7 0) 2 _ done.len xs rfl R8 ⟨w7.heap.size,0,none⟩ 1 1 [Value.int .i64 y.k,.int .i64 y.n,stv y.nm,.slice (some ⟨bk6,0,none⟩) y.kids.len ck6] rfl rfl (new_cells_at w7 _ _) hone (by decide) b1 b2 ?_) | go_in)
   intro g9 c9 w9 o9 r9 s9
   have A9:AccTn w9 o9 n0 (done.snoc y) (.slice (some ⟨g9,0,none⟩) (done.len+1) c9):=AccTn.push F8 T8 s9 r9
   have E9:=E8.step s9 (by decide)
   have Z9:=Z8.step s9 (by decide)
   have O9:=O8.step s9 (by decide)
   have L9:Hid (∀ k,k < n0→o9 k=0):=fun k hk=>(s9.lab k (by have:=E8.lt;omega)).trans (L8.out k hk)
   have B9:=below_stepB B8 s9 (fun k hk=>by rw [L8.out k hk];decide) (by rw [HB.out];exact Nat.le_refl _)
   have s10:Step (fun k=>k=1) w9 o9 (w9.setCell ⟨n0+1+1,3,none⟩ (.slice (some ⟨g9,0,none⟩) (done.len+1) c9)) o9:=setStep _ w9 o9 ⟨n0+1+1,3,none⟩ _ O9.2
   have A10:=A9.step s10 (by decide) (by decide)
   have E10:=E9.step s10 (by decide)
   have Z10:=Z9.step s10 (by decide)
   have O10:=O9.set 3 (.slice (some ⟨g9,0,none⟩) (done.len+1) c9)
   have B10:=below_stepB B9 s10 (fun k hk=>by rw [L9.out k hk];decide) (by rw [HB.out];exact Nat.le_refl _)
   obtain ⟨t0,t1,t2,t3,tf⟩:=box4 O9.1
   rw [←HS.out] at A10
   clear A9 E9 Z9 O9 B9 s10 E8 Z8 O8 B8 L8 T8 R8 F8 r9 s9 p0 p1 p2 p3 pf q0 q1 q2 q3 qf hk HS K7
   go_wp2
   go_roundw
   case rel=>exact ⟨_,kr,o9,_,hk2,by rw [←hl2],E10,Z10,O10,A10,L9,B10⟩
   case measure=>simp [intOf];omega
theorem lentn_ok:∀ N,LentNOk N -- 38
 | 0=>fun e ao cap w h=>absurd h (Nat.not_lt_zero _)
 | N+1=>lentn_step (lentn_ok N)
end Go.Proofs.YtaihhnlfcndecaaGreatDoor

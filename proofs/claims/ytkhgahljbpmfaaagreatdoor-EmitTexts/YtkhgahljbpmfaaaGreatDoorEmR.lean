import Derived.Test.YtkhgahljbpmfaaaGreatDoorEmM
import Derived.Laws.BitsAllLaws
import Derived.Laws.Bits64
import Derived.Laws.ShiftsVarLaws
import Derived.Below
import Derived.IntWalk
import Derived.Lib.LaidTab
set_option maxRecDepth 100000
set_option maxHeartbeats 8000000
namespace Go.Proofs.YtkhgahljbpmfaaaGreatDoor
open Option renaming none->GA,some->GB
open Nat renaming le_refl->GC,lt_of_lt_of_le->GM,le_trans->Hn
open Go.Proofs.Tryz renaming prog->GD,underlying35->Hu,ntmps85->Iv,func85->IC,underlying9->IL,underlying3->IS,underlying40->I2
open Go renaming World->GE,bodyPost_ret->GG,heap_alloc_new->GH,Value->GJ,heap_setCell_other->GP,Calls->GR,maxLen->GY,Addr->G1,TypeId->Hl,heap_setCell_same->Ij,heap_alloc_old->In,Ending->IG,results_none->IY,MemPlace->Jc,DataW->Jm,Program->Jr
open List renaming getElem?_eq_getElem->GI,length_append->G4,length_cons->G5,getD_eq_getElem?_getD->Hb,mem_cons->Iq,getElem_mem->It,getD_cons_zero->Iz,getD_cons_succ->IA,drop_eq_getElem_cons->IK,ext_getElem?->Jj,idxOf_append->J6
open Go.RowKit renaming Below->GK,intOf->Hh,wrap64->Ho
open Go.Lib renaming hid->GL
open Go.RowKit.Below renaming refl->GN
open Go.World renaming cell?_of_block->GS,cell?->JE,frozen?->JP
open Exists renaming intro->G0
open Go.Instr renaming lookup->J0
open Int renaming toNat_natCast->If
open Go.Ending renaming returned->I5
open Go.Maps renaming size->JI,has->JX
open Go.WideAt renaming IsKeyLit->JS
open Go.ChangeShapes Go.WideShapes Go.ChangeAt Go.RowKit Go.Maps
set_option linter.unusedVariables false
set_option linter.unusedSimpArgs false
theorem ob {P:Jr}{K:Hl}{R:GJ->Option (Jm Unit × List Jc)}{w:GE}{b n:Nat}{D:Jm Unit}(h:w.ownsMap P K R b n D):w.ownsMap P K R b (JI D) D:=by
 obtain⟨d,a,c,F,e,rfl⟩:=h;exact⟨d,a,c,F,by simp[JI,length_sorted],rfl⟩
theorem kZ {P:Jr}{K:Hl}{R:GJ->Option (Jm Unit × List Jc)}{w w':GE}{o o':Nat->Nat}{I:Nat->Prop}{b n:Nat}{D:Jm Unit}(h:w.ownsMap P K R b n D)(s:dQ I w o w' o')(e:¬I (o b)):w'.ownsMap P K R b n D:=by
 have c:=h.lt;obtain⟨i,a,f,F,d,g⟩:=h;exact⟨i,a,(s.block b c e).trans f,F,d,g⟩
theorem mg {w w':GE}{o:Nat->Nat}{b i:Nat}(h:w.mapTurned w' b)(d:o b=i):dQ (λk=>k=i) w o w' o :=
 let g:=h.grown
 ⟨g.os,g.tape,g.output,g.size,λ_ _=>rfl,λk c a=>g.block k c (λe=>a (by cases e;exact d))⟩
def mO:GJ->Option (Jm Unit × List Jc)
 | .int .i64 a=>GB (.lit (.int .i64 a),[])
 | _=>GA
theorem oD {v:GJ}{a:Int}{ps:List Jc}(h:mO v=GB (.lit (.int .i64 a),ps)):v=.int .i64 a:=by
 unfold mO at h;split at h
 ·simp at h;rw[h.1]
 ·cases h
theorem nC {v:GJ}{y:Jm Unit × List Jc}(h:mO v=GB y):∃a,v=.int .i64 a:=by
 unfold mO at h;split at h
 ·exact⟨_,rfl⟩
 ·cases h
theorem rC (w:GE):(zeroValue 3).run GD w=.ok (.int .i64 0) w:=by kernel_rfl
theorem nJ:Keyed GD 3:=int_keyed IS
theorem nT:Keyed GD 9:=string_keyed IL
theorem D2 (k:Int)(h:-9223372036854775808<=k/\k<=9223372036854775807):keyOf GD 3 (.int .i64 k)=GB (.int .i64 k):=keyOf_int_mk IS (WalkArith.wf_i64 (by have:=h.1;have:=h.2;omega))
theorem EX (x:List UInt8)(h:x.length<=GY):keyOf GD 9 (stv x)=GB (.string x):=by
 have:=WideMaps.keyOf_string_mk (P:=GD) IL (s:=⟨x.toArray⟩) (by rw[show (⟨x.toArray⟩:ByteArray).size=x.toArray.size from rfl];simpa using h)
 simpa using this
theorem wT {α:Type}[BEq α][LawfulBEq α]{l:List α}{x:α}(h:x ∉ l):(l++[x]).idxOf x=l.length:=by
 rw[J6,if_neg h];simp
theorem wM {α:Type}[BEq α][LawfulBEq α]{l:List α}{x y:α}(h:y ∈ l):(l++[x]).idxOf y=l.idxOf y:=by
 rw[J6,if_pos h]
theorem mC {α:Type}[BEq α][LawfulBEq α]{l:List α}{x:α}(h:x ∉ l):l.idxOf x=l.length:=List.idxOf_eq_length h
def MpC (w:GE)(o:Nat->Nat)(i b:Nat)(l:List (Int)):Prop :=
 ∃D:Jm Unit,w.ownsMap GD 3 mO b l.length D/\JI D=l.length/\o b=i /\
  ∀ k:Int,JX D (.int .i64 k)=decide (k ∈ l)/\(k ∈ l->D.atKey (.int .i64 k) (.lit (.int .i64 0))=.lit (.int .i64 (l.idxOf k:Nat)))
theorem MpC.step {I:Nat->Prop}{w w':GE}{o o':Nat->Nat}{i b:Nat}{l:List (Int)}(h:MpC w o i b l)(s:dQ I w o w' o')(c:¬I i):MpC w' o' i b l:=by
 obtain⟨D,h1,h2,a,d⟩:=h;exact⟨D,kZ h1 s (by rw[a];exact c),h2,(s.lab b h1.lt).trans a,d⟩
theorem MpC.made (w:GE)(o:Nat->Nat)(i:Nat):MpC (w.alloc (.map #[] 0)) (dR w o i) i w.heap.size [] :=
 ⟨.map [],World.ownsMap_made _ _ _ _,rfl,dY (GC _),λk=>⟨by simp[JX],λh=>by simp at h⟩⟩
theorem MpC.look {w:GE}{o:Nat->Nat}{i b:Nat}{l:List (Int)}(h:MpC w o i b l)(k:Int)(g:-9223372036854775808<=k/\k<=9223372036854775807)(d:k ∈ l) :
  (J0 87 (.map (GB b)) (.int .i64 k) true).run GD w=.ok (.tuple #[.int .i64 (l.idxOf k:Nat),.bool true]) w:=by
 obtain⟨D,h1,h2,j,f⟩:=h;obtain⟨c,ps,a,e⟩:=h1.look_ok nJ Tryz.underlying87 (rC w) (zd:=.lit (.int .i64 0)) (zp:=[]) rfl (D2 k g);rw[(f k).2 d] at e;rw[(f k).1,oD e,decide_eq_true d] at a;exact a
theorem MpC.miss {w:GE}{o:Nat->Nat}{i b:Nat}{l:List (Int)}(h:MpC w o i b l)(k:Int)(e:-9223372036854775808<=k/\k<=9223372036854775807)(d:k ∉ l) :
  ∃x:Int,(J0 87 (.map (GB b)) (.int .i64 k) true).run GD w=.ok (.tuple #[.int .i64 x,.bool false]) w:=by
 obtain⟨D,h1,h2,j,g⟩:=h;obtain⟨c,ps,a,f⟩:=h1.look_ok nJ Tryz.underlying87 (rC w) (zd:=.lit (.int .i64 0)) (zp:=[]) rfl (D2 k e);obtain⟨x,rfl⟩:=nC f;rw[(g k).1,decide_eq_false d] at a;exact⟨x,a⟩
theorem MpC.put {w:GE}{o:Nat->Nat}{i b:Nat}{l:List (Int)}(h:MpC w o i b l)(k:Int)(s:-9223372036854775808<=k/\k<=9223372036854775807)(j:k ∉ l)(t:l.length<=1000000000) :
  ∃w',(Instr.mapUpdate 87 (.map (GB b)) (.int .i64 k) (.int .i64 (l.length:Nat))).run GD w=.ok () w'/\MpC w' o i b (l++[k])/\dQ (λk=>k=i) w o w' o:=by
 obtain⟨D,h1,h2,m,g⟩:=h;obtain⟨w',q,r,p⟩:=h1.store (val:=.int .i64 (l.length:Nat)) (d:=.lit (.int .i64 (l.length:Nat))) (ps:=[]) nJ Tryz.underlying87 (by unfold GY;omega) (D2 k s) rfl;have a:JI (D.put (.int .i64 k) (.lit (.int .i64 (l.length:Nat))))=l.length+1:=by
  rw[size_put (h1.tidy nJ),h2,(g k).1,decide_eq_false j];simp
 have c:=ob r;rw[a] at c;refine⟨w',q,⟨_,by rw[G4];exact c,by rw[a,G4];rfl,m,λy=>?_⟩,mg p m⟩;by_cases e:y=k
 ·subst e;rw[has_put_same h1.isMap (show JS (.int .i64 y) from trivial),atKey_put_same h1.isMap (show JS (.int .i64 y) from trivial),wT j];exact⟨by simp,λ_=>rfl⟩
 ·have f:Lit.int .i64 y≠Lit.int .i64 k:=λh=>e (by simpa using h);rw[has_put_other f,atKey_put_other f,(g y).1];refine⟨by simp[e],λn=>?_⟩;have hy2:y ∈ l:=by simpa [e] using n
  rw[wM hy2];exact(g y).2 hy2
def MpS (w:GE)(o:Nat->Nat)(i b:Nat)(l:List (List UInt8)):Prop :=
 ∃D:Jm Unit,w.ownsMap GD 9 mO b l.length D/\JI D=l.length/\o b=i /\
  ∀ k:List UInt8,JX D (.string k)=decide (k ∈ l)/\(k ∈ l->D.atKey (.string k) (.lit (.int .i64 0))=.lit (.int .i64 (l.idxOf k:Nat)))
theorem MpS.step {I:Nat->Prop}{w w':GE}{o o':Nat->Nat}{i b:Nat}{l:List (List UInt8)}(h:MpS w o i b l)(s:dQ I w o w' o')(c:¬I i):MpS w' o' i b l:=by
 obtain⟨D,h1,h2,a,d⟩:=h;exact⟨D,kZ h1 s (by rw[a];exact c),h2,(s.lab b h1.lt).trans a,d⟩
theorem MpS.made (w:GE)(o:Nat->Nat)(i:Nat):MpS (w.alloc (.map #[] 0)) (dR w o i) i w.heap.size [] :=
 ⟨.map [],World.ownsMap_made _ _ _ _,rfl,dY (GC _),λk=>⟨by simp[JX],λh=>by simp at h⟩⟩
theorem MpS.look {w:GE}{o:Nat->Nat}{i b:Nat}{l:List (List UInt8)}(h:MpS w o i b l)(k:List UInt8)(g:k.length<=GY)(d:k ∈ l) :
  (J0 88 (.map (GB b)) (stv k) true).run GD w=.ok (.tuple #[.int .i64 (l.idxOf k:Nat),.bool true]) w:=by
 obtain⟨D,h1,h2,j,f⟩:=h;obtain⟨c,ps,a,e⟩:=h1.look_ok nT Tryz.underlying88 (rC w) (zd:=.lit (.int .i64 0)) (zp:=[]) rfl (EX k g);rw[(f k).2 d] at e;rw[(f k).1,oD e,decide_eq_true d] at a;exact a
theorem MpS.miss {w:GE}{o:Nat->Nat}{i b:Nat}{l:List (List UInt8)}(h:MpS w o i b l)(k:List UInt8)(e:k.length<=GY)(d:k ∉ l) :
  ∃x:Int,(J0 88 (.map (GB b)) (stv k) true).run GD w=.ok (.tuple #[.int .i64 x,.bool false]) w:=by
 obtain⟨D,h1,h2,j,g⟩:=h;obtain⟨c,ps,a,f⟩:=h1.look_ok nT Tryz.underlying88 (rC w) (zd:=.lit (.int .i64 0)) (zp:=[]) rfl (EX k e);obtain⟨x,rfl⟩:=nC f;rw[(g k).1,decide_eq_false d] at a;exact⟨x,a⟩
theorem MpS.put {w:GE}{o:Nat->Nat}{i b:Nat}{l:List (List UInt8)}(h:MpS w o i b l)(k:List UInt8)(s:k.length<=GY)(j:k ∉ l)(t:l.length<=1000000000) :
  ∃w',(Instr.mapUpdate 88 (.map (GB b)) (stv k) (.int .i64 (l.length:Nat))).run GD w=.ok () w'/\MpS w' o i b (l++[k])/\dQ (λk=>k=i) w o w' o:=by
 obtain⟨D,h1,h2,m,g⟩:=h;obtain⟨w',q,r,p⟩:=h1.store (val:=.int .i64 (l.length:Nat)) (d:=.lit (.int .i64 (l.length:Nat))) (ps:=[]) nT Tryz.underlying88 (by unfold GY;omega) (EX k s) rfl;have a:JI (D.put (.string k) (.lit (.int .i64 (l.length:Nat))))=l.length+1:=by
  rw[size_put (h1.tidy nT),h2,(g k).1,decide_eq_false j];simp
 have c:=ob r;rw[a] at c;refine⟨w',q,⟨_,by rw[G4];exact c,by rw[a,G4];rfl,m,λy=>?_⟩,mg p m⟩;by_cases e:y=k
 ·subst e;rw[has_put_same h1.isMap (show JS (.string y) from trivial),atKey_put_same h1.isMap (show JS (.string y) from trivial),wT j];exact⟨by simp,λ_=>rfl⟩
 ·have f:Lit.string y≠Lit.string k:=λh=>e (by simpa using h);rw[has_put_other f,atKey_put_other f,(g y).1];refine⟨by simp[e],λn=>?_⟩;have hy2:y ∈ l:=by simpa [e] using n
  rw[wM hy2];exact(g y).2 hy2
open Go.RowKit
theorem jM (n:Int)(h1:-9223372036854775808<=n)(h2:n<=9223372036854775807):Ho n=n:=by
 unfold Ho;omega
theorem BF (x y:Int)(h1:0<=x)(h2:x<68719476736)(b:0<=y)(a:y<268435456):bits .or .u64 (x*268435456) y=x*268435456+y:=by
 rw[u64_or _ _ (by omega) (by omega) (by omega) (by omega),nat_join 28 _ _ (by omega) (by omega)];omega
theorem CG (o a b:Int)(h1:0<=o)(h2:o<=255)(f:0<=a)(d:a<=268435455)(h5:0<=b)(c:b<=268435455) :
  bits .or .u64 (bits .or .u64 (o*72057594037927936) (a*268435456)) b=(o*268435456+a)*268435456+b:=by
 have e:bits .or .u64 (o*72057594037927936) (a*268435456)=(o*268435456+a)*268435456:=by
  rw[u64_or _ _ (by omega) (by omega) (by omega) (by omega),nat_join 56 _ _ (by omega) (by omega)];omega
 rw[e,BF _ _ (by omega) (by omega) h5 (by omega)]
theorem zr (u:Int)(h1:0<=u)(h2:u<18446744073709551616):Ho (bits .and .u64 (u / 72057594037927936) 255)=u / 72057594037927936:=by
 rw[u64_and _ _ (by omega) (by omega) (by omega) (by omega),show (255:Int).toNat=255 from rfl,nat_mask8,jM _ (by omega) (by omega)];omega
theorem pj (x:Nat):x &&& 268435455=x % 268435456:=Nat.and_two_pow_sub_one_eq_mod x 28
theorem AB (u:Int)(h1:0<=u)(h2:u<18446744073709551616):Ho (bits .and .u64 (u / 268435456) 268435455)=u / 268435456 % 268435456:=by
 rw[u64_and _ _ (by omega) (by omega) (by omega) (by omega),show (268435455:Int).toNat=268435455 from rfl,pj,jM _ (by omega) (by omega)];omega
theorem Aa (u:Int)(h1:0<=u)(h2:u<18446744073709551616):Ho (bits .and .u64 u 268435455)=u % 268435456:=by
 rw[u64_and _ _ (by omega) (by omega) (by omega) (by omega),show (268435455:Int).toNat=268435455 from rfl,pj,jM _ (by omega) (by omega)];omega
open Go.ChangeShapes Go.WideShapes Go.ChangeAt Go.RowKit
theorem gTab : Tryz.prog.globalNamed "isthmus/pack.fields" = GB 2 := by kernel_rfl
theorem Ac:(Tryz.prog.globals[2]?).map (·.type)=GB 223:=by kernel_rfl
theorem zH:Tryz.prog.cellsOf 223=6:=by kernel_rfl
theorem oj:Tryz.prog.cellsOf 222=2:=by kernel_rfl
theorem wX:Tryz.prog.cellsOf 175=1:=by kernel_rfl
theorem sG:Tryz.prog.cellsOf 54=1:=by kernel_rfl
def Tab (w:GE):Prop :=
 w.cell? ⟨2,0,GA⟩=GB (.int .u64 56)/\w.cell? ⟨2,1,GA⟩=GB (.int .u64 255)/\w.cell? ⟨2,2,GA⟩=GB (.int .u64 28) /\
 w.cell? ⟨2,3,GA⟩=GB (.int .u64 268435455)/\w.cell? ⟨2,4,GA⟩=GB (.int .u64 0)/\w.cell? ⟨2,5,GA⟩=GB (.int .u64 268435455)/\2<w.heap.size
theorem Tab.below {w w':GE}(h:Tab w)(b:GK w.heap.size w w'):Tab w':=by
 obtain⟨e,h1,h2,d,c,h5,a⟩:=h;refine⟨?_,?_,?_,?_,?_,?_,GM a b.size⟩
 ·exact(b.cell (p:=⟨2,0,GA⟩) a).trans e
 ·exact(b.cell (p:=⟨2,1,GA⟩) a).trans h1
 ·exact(b.cell (p:=⟨2,2,GA⟩) a).trans h2
 ·exact(b.cell (p:=⟨2,3,GA⟩) a).trans d
 ·exact(b.cell (p:=⟨2,4,GA⟩) a).trans c
 ·exact(b.cell (p:=⟨2,5,GA⟩) a).trans h5
theorem kG (w:GE)(n:Nat):GK w.heap.size w (w.drewN n):=by
 have a:∀ (n:Nat) (v:GE),GK w.heap.size w v->GK w.heap.size w (v.drewN n):=by
  intro n
  induction n with
  | zero=>intro v h;exact h
  | succ n b=>intro v h;exact(b v h).drew
 exact a n w (GN _ _)
theorem DQ {a b c:GE}(h:GK a.heap.size a b)(k:GK b.heap.size b c):GK a.heap.size a c:=h.trans (k.mono h.size)
theorem wV (n:Int)(w:GE)(a:Tab w)(h1:0<=n)(h2:n<=255) :
  GR GD 134 #[.int .i64 0,.int .i64 n] w λe w'=>e=.returned (.bool true)/\w'=w:=by
 have b:=a.2.1;go_enter Tryz.func134,Tryz.ntmps134;go_wp2;go_ret;exact⟨eO (by simp;try omega),rfl⟩
theorem xz (n:Int)(w:GE)(a:Tab w)(h1:0<=n)(h2:n<=268435455) :
  GR GD 134 #[.int .i64 1,.int .i64 n] w λe w'=>e=.returned (.bool true)/\w'=w:=by
 have b:=a.2.2.2.1;go_enter Tryz.func134,Tryz.ntmps134;go_wp2;go_ret;exact⟨eO (by simp;try omega),rfl⟩
theorem ye (n:Int)(w:GE)(a:Tab w)(h1:0<=n)(h2:n<=268435455) :
  GR GD 134 #[.int .i64 2,.int .i64 n] w λe w'=>e=.returned (.bool true)/\w'=w:=by
 have b:=a.2.2.2.2.2.1;go_enter Tryz.func134,Tryz.ntmps134;go_wp2;go_ret;exact⟨eO (by simp;try omega),rfl⟩
theorem lay0 (n:Int)(w:GE)(a:Tab w)(h1:0<=n)(h2:n<=255) :
  GR GD 135 #[.int .i64 0,.int .i64 n] w λe w'=>e=.returned (.int .u64 (n*72057594037927936))/\w'=w:=by
 have b:=a.1;go_enter Tryz.func135,Tryz.ntmps135;go_wp2;go_ret;exact⟨rfl,rfl⟩
theorem lay1 (n:Int)(w:GE)(a:Tab w)(h1:0<=n)(h2:n<=268435455) :
  GR GD 135 #[.int .i64 1,.int .i64 n] w λe w'=>e=.returned (.int .u64 (n*268435456))/\w'=w:=by
 have b:=a.2.2.1;go_enter Tryz.func135,Tryz.ntmps135;go_wp2;go_ret;exact⟨rfl,rfl⟩
theorem lay2 (n:Int)(w:GE)(a:Tab w)(h1:0<=n)(h2:n<=268435455) :
  GR GD 135 #[.int .i64 2,.int .i64 n] w λe w'=>e=.returned (.int .u64 n)/\w'=w:=by
 have b:=a.2.2.2.2.1;go_enter Tryz.func135,Tryz.ntmps135;go_wp2;go_ret;exact⟨nY (by simp),rfl⟩
theorem Gr (u:Int)(w:GE)(a:Tab w)(h1:0<=u)(h2:u<18446744073709551616) :
  GR GD 196 #[.int .i64 0,.int .u64 u] w λe w'=>e=.returned (.int .i64 (u / 72057594037927936))/\GK w.heap.size w w':=by
 have c:=a.1;have b:=a.2.1;go_enter Tryz.func196,Tryz.ntmps196;go_wp2
 go_quiet (fail)
 go_wp2;go_ret;exact⟨nY (zr u h1 h2),kG _ _⟩
theorem Gt (u:Int)(w:GE)(a:Tab w)(h1:0<=u)(h2:u<18446744073709551616) :
  GR GD 196 #[.int .i64 1,.int .u64 u] w λe w'=>e=.returned (.int .i64 (u / 268435456 % 268435456))/\GK w.heap.size w w':=by
 have c:=a.2.2.1;have b:=a.2.2.2.1;go_enter Tryz.func196,Tryz.ntmps196;go_wp2
 go_quiet (fail)
 go_wp2;go_ret;exact⟨nY (AB u h1 h2),kG _ _⟩
theorem Gv (u:Int)(w:GE)(a:Tab w)(h1:0<=u)(h2:u<18446744073709551616) :
  GR GD 196 #[.int .i64 2,.int .u64 u] w λe w'=>e=.returned (.int .i64 (u % 268435456))/\GK w.heap.size w w':=by
 have c:=a.2.2.2.2.1;have b:=a.2.2.2.2.2.1;go_enter Tryz.func196,Tryz.ntmps196;go_wp2
 go_quiet (fail)
 go_wp2;go_ret;exact⟨nY (by simpa using Aa u h1 h2),kG _ _⟩
theorem Ct {k l:IntKind}{a b c:Int}(h:a=b):I5 (.tuple #[.int k a,.int l c])=.returned (.tuple #[.int k b,.int l c]):=by rw[h]
theorem tc (o a b:Int)(w:GE)(c:Tab w)(h1:0<=o)(h2:o<=255)(g:0<=a)(f:a<=268435455)(h5:0<=b)(d:b<=268435455) :
  GR GD 86 #[.int .i64 o,.int .i64 a,.int .i64 b] w λe w' =>
   e=.returned (.tuple #[.int .u64 ((o*268435456+a)*268435456+b),.int .i64 0])/\w'=w:=by
 go_enter Tryz.func86,Tryz.ntmps86;go_wp2_with fail;refine(wV o w c h1 h2).mono ?_;rintro e w1 ⟨rfl,rfl⟩;go_wp2_with fail;refine(xz a _ c g f).mono ?_;rintro e w1 ⟨rfl,rfl⟩;go_wp2_with fail;refine(ye b _ c h5 d).mono ?_;rintro e w1 ⟨rfl,rfl⟩;go_wp2_with fail;refine(lay0 o _ c h1 h2).mono ?_;rintro e w1 ⟨rfl,rfl⟩;go_wp2_with fail;refine(lay1 a _ c g f).mono ?_;rintro e w1 ⟨rfl,rfl⟩;go_wp2_with fail;refine(lay2 b _ c h5 d).mono ?_;rintro e w1 ⟨rfl,rfl⟩;go_wp2;go_ret2;exact⟨Ct (CG o a b h1 h2 g f h5 d),rfl⟩
theorem ya (u:Int)(w:GE)(g:Tab w)(h1:0<=u)(h2:u<18446744073709551616) :
  GR GD 146 #[.int .u64 u] w λe w' =>
   e=.returned (.tuple #[.int .i64 (u / 72057594037927936),.int .i64 (u / 268435456 % 268435456),.int .i64 (u % 268435456)])/\GK w.heap.size w w':=by
 go_enter Tryz.func146,Tryz.ntmps146;go_wp2_with fail;refine(Gr u w g h1 h2).mono ?_;rintro e w1 ⟨rfl,b⟩;have c:=g.below b;go_wp2_with fail;refine(Gt u w1 c h1 h2).mono ?_;rintro e w2 ⟨rfl,a⟩;have f:=c.below a;go_wp2_with fail;refine(Gv u w2 f h1 h2).mono ?_;rintro e w3 ⟨rfl,d⟩;go_wp2;go_ret3;exact⟨rfl,DQ (DQ b a) d⟩
abbrev I17:Nat->Prop:=λk=>1<=k/\k<=7
theorem fx {i:Nat}(h:1<=i/\i<=7):∀ k,k=i->I17 k:=λk a=>by subst a;exact h
def iW (x:Wo):Int:=((x.op:Int)*268435456+(x.a:Int))*268435456+(x.b:Int)
def Wo.ok (x:Wo):Prop:=x.op<=255/\x.a<=268435455/\x.b<=268435455
theorem Ci {x:Wo}(h:x.ok):0<=iW x/\iW x<18446744073709551616:=by
 obtain⟨h1,h2,a⟩:=h;unfold iW;omega
theorem tP {x:Wo}(h:x.ok):iW x / 72057594037927936=(x.op:Int)/\iW x / 268435456 % 268435456=(x.a:Int)/\iW x % 268435456=(x.b:Int):=by
 obtain⟨h1,h2,c⟩:=h;unfold iW;omega
def woV (l:List Wo):List GJ:=l.map λx=>.int .u64 (iW x)
def eiV (l:List Int):List GJ:=l.map (.int .i64 ·)
def esV (l:List (List UInt8)):List GJ:=l.map stv
structure EmW (w:GE)(o:Nat->Nat)(rb:Nat)(lv:GJ)(s:Em):Prop where
 ok:∀ x ∈ s.ws,x.ok
 ci:∀ n ∈ s.cs,-9223372036854775808<=n/\n<=9223372036854775807
 ni:∀ x ∈ s.ns,x.length<=GY
 mem:∃vw vc vn vk mc mn,Blk w o 1 rb (.cells #[vw,vc,vn,vk,.map (GB mc),.map (GB mn),lv,.int .i64 (s.dp:Nat)] 90) /\
  Row w o 2 54 1 vw s.ws.length (woV s.ws)/\Row w o 3 3 1 vc s.cs.length (eiV s.cs)/\Row w o 4 9 1 vn s.ns.length (esV s.ns)/\Row w o 5 3 1 vk s.ks.length (eiV s.ks) /\
  MpC w o 6 mc s.cs/\MpS w o 7 mn s.ns
theorem EmW.step {I:Nat->Prop}{w w':GE}{o o':Nat->Nat}{rb:Nat}{lv:GJ}{s:Em}(h:EmW w o rb lv s)(x:dQ I w o w' o')(a:∀ k,I17 k->¬I k):EmW w' o' rb lv s:=by
 obtain⟨h1,h2,i,vw,vc,vn,vk,mc,mn,g,f,q2,e,d,c,b⟩:=h;exact⟨h1,h2,i,vw,vc,vn,vk,mc,mn,g.step x (a 1 (by decide)),f.step x (a 2 (by decide)),q2.step x (a 3 (by decide)),e.step x (a 4 (by decide)),d.step x (a 5 (by decide)),c.step x (a 6 (by decide)),b.step x (a 7 (by decide))⟩
theorem EmW.below {w w':GE}{o:Nat->Nat}{rb:Nat}{lv:GJ}{s:Em}(h:EmW w o rb lv s)(b:GK w.heap.size w w'):EmW w' o rb lv s :=
 h.step (dQ.ofBelow (I:=λ_=>False) o b) (λ_ _=>id)
theorem ia {w:GE}{b:Nat}{k i g f e d c a:GJ}{t:Hl}(h:w.heap[b]?=GB (.cells #[k,i,g,f,e,d,c,a] t)):(w.cell? ⟨b,0,GA⟩=GB k/\w.cell? ⟨b,1,GA⟩=GB i/\w.cell? ⟨b,2,GA⟩=GB g/\w.cell? ⟨b,3,GA⟩=GB f/\w.cell? ⟨b,4,GA⟩=GB e/\w.cell? ⟨b,5,GA⟩=GB d/\w.cell? ⟨b,6,GA⟩=GB c/\w.cell? ⟨b,7,GA⟩=GB a)/\∀ j,w.frozen? ⟨b,j,GA⟩=false:=by
 refine⟨⟨?_,?_,?_,?_,?_,?_,?_,?_⟩,λj=>?_⟩<;>simp[JE,JP,h]
structure EmX (w:GE)(o:Nat->Nat)(lv:GJ)(ls:List Int):Prop where
 tab:Tab w
 tl:o 2=0
 bar:∀ k:Nat,k<25->w.cell? ⟨0,k,GA⟩=GB (.int .i64 ([0,0,0,0,0,0,4,5,6,7,8,9,10,0,0,0,0,0,0,0,0,0,20,0,22].getD k 0))
 bl:o 0=0/\0<w.heap.size
 lvs:∃ao cap,lv=.slice ao ls.length cap/\(ls=[]\/∃b off,ao=GB ⟨b,off,GA⟩/\o b=0/\b<w.heap.size/\∀ j x,ls[j]?=GB x->w.cell? ⟨b,off+j,GA⟩=GB (.int .i64 x))
theorem EmX.step {I:Nat->Prop}{w w':GE}{o o':Nat->Nat}{lv:GJ}{ls:List Int}(h:EmX w o lv ls)(x:dQ I w o w' o')(f:¬I 0):EmX w' o' lv ls:=by
 obtain⟨h1,h2,s,⟨n,h5⟩,ao,cap,r,i⟩:=h;have m:=h1.2.2.2.2.2.2;have c:=x.block 2 m (by rw[h2];exact f);have g:=x.block 0 h5 (by rw[n];exact f);refine⟨?_,(x.lab _ m).trans h2,λk q=>(GS (a:=⟨0,k,GA⟩) g).trans (s k q),⟨(x.lab _ h5).trans n,GM h5 x.size⟩,ao,cap,r,?_⟩
 ·obtain⟨e0,l,e,d,e4,u,t⟩:=h1;exact⟨(GS (a:=⟨2,0,GA⟩) c).trans e0,(GS (a:=⟨2,1,GA⟩) c).trans l,(GS (a:=⟨2,2,GA⟩) c).trans e,(GS (a:=⟨2,3,GA⟩) c).trans d,(GS (a:=⟨2,4,GA⟩) c).trans e4,(GS (a:=⟨2,5,GA⟩) c).trans u,GM t x.size⟩
 ·rcases i with i|⟨b,off,l,e,d,e4⟩
  ·exact .inl i
  ·exact .inr ⟨b,off,l,(x.lab b d).trans e,GM d x.size,λj y p=>(GS (a:=⟨b,off+j,GA⟩) (x.block b d (by rw[e];exact f))).trans (e4 j y p)⟩
theorem EmX.below {w w':GE}{o:Nat->Nat}{lv:GJ}{ls:List Int}(h:EmX w o lv ls)(b:GK w.heap.size w w'):EmX w' o lv ls:=h.step (dQ.ofBelow (I:=λ_=>False) o b) id
def mX (w:GE)(o:Nat->Nat)(rb:Nat)(lv:GJ)(s:Em)(v:GJ)(e:IG)(w':GE):Prop:=e=.returned v/\∃o',EmW w' o' rb lv s/\dQ I17 w o w' o'
abbrev SnO (w:GE)(o:Nat->Nat)(f:Fs)(ao:Option G1):Prop:=SlN w (λb=>o b=0) f ao
theorem SlN.stepO {I:Nat->Prop}{w w':GE}{o o':Nat->Nat}{f:Fs}{ao:Option G1}(h:SnO w o f ao)(x:dQ I w o w' o')(c:¬I 0):SnO w' o' f ao :=
 h.mono (λk b a=>x.block k a (by rw[b];exact c)) x.size (λk b a=>(x.lab k a).trans b)
theorem uU:(Tryz.prog.info? 54).map (λi=>(i.zero,i.size,i.bytes))=GB (GB (.int .u64 0),1,8):=by kernel_rfl
theorem rn:(Tryz.prog.info? 3).map (λi=>(i.zero,i.size,i.bytes))=GB (GB (.int .i64 0),1,8):=by kernel_rfl
theorem uY:(Tryz.prog.info? 9).map (λi=>(i.zero,i.size,i.bytes))=GB (GB (.string ⟨#[]⟩),1,16):=by kernel_rfl
theorem ku (v:GJ)(h:v.oneCell'=true):∀ u ∈ [v],u.oneCell'=true:=by
 intro u a;simp at a;subst a;exact h
theorem noF:∀ k,I17 k->¬(λ_:Nat=>False) k:=λ_ _=>id
theorem fm (op a b:Nat)(w:GE)(o:Nat->Nat)(rb:Nat)(lv:GJ)(ls:List Int)(s:Em)(n:op<=255)(N:a<=268435455)(M:b<=268435455)(D:s.mes<=100000000)(X:EmX w o lv ls)(h:EmW w o rb lv s) :
  GR GD 41 #[.pointer (GB ⟨rb,0,GA⟩),.int .i64 op,.int .i64 a,.int .i64 b] w (mX w o rb lv (s.lay op a b) (.int .i64 (s.ws.length:Nat))):=by
 obtain⟨h1,h2,O,vw,vc,vn,vk,mc,mn,j,z,q2,y,v,u,t⟩:=h;obtain⟨J,K,i2,i3,i4⟩:=ek uU;obtain⟨⟨c0,c1,c2,c3,c4,c5,T,S⟩,R⟩:=ia j.1;have r:=tc (op:Int) (a:Int) (b:Int) w X.tab (by omega) (by omega) (by omega) (by omega) (by omega) (by omega);have V:s.ws.length<=100000000:=by unfold Em.mes at D;omega
 have L:Hid ((⟨op,a,b⟩:Wo).ok):=⟨n,N,M⟩;have p:s.ws.length+1<=GY:=by unfold GY;omega
 have hn2:(s.ws.length+1)*8<=140737488355328:=by omega
 have E:(((op:Int)*268435456+(a:Int))*268435456+(b:Int))=iW ⟨op,a,b⟩:=rfl;rw[E] at r;have m:Hid (woV (s.lay op a b).ws=woV s.ws++[.int .u64 (iW ⟨op,a,b⟩)]):=by show _=_;simp[woV,Em.lay]
 generalize iW ⟨op,a,b⟩=F at *;have i:=z.step (dQ.ofBelow (I:=λ_=>False) o (b1 w (.cells #[.int .u64 F] 54))) id;clear E X D;go_enter Tryz.func41,Tryz.ntmps41;go_wp2_with (first|(go_at_call 86;refine r.mono ?_;rintro e w1 ⟨rfl,l⟩;subst l)|(at_builtin;refine eb rfl (.tmp 23) (.tmp 25) 39 rfl 54 J (.int .u64 0) 1 8 Tryz.underlying39 K i2 i3 i4 rfl (by decide) o 2 vw s.ws.length (woV s.ws) rfl i ⟨w1.heap.size,0,GA⟩ 1 1 [.int .u64 F] rfl rfl (fG _ _ _) (ku _ rfl) (by decide) p hn2 ?_)|go_in);intro g1 q w2 g H G;have f:dQ (λk=>k=2) w1 o w2 g:=(dQ.ofBelow o (b1 w1 _)).trans G;have p0:=j.step f (by decide);have p2:=q2.step f (by decide);have p3:=y.step f (by decide);have p4:=v.step f (by decide);have B:=u.step f (by decide);have A:=t.step f (by decide);obtain⟨⟨d0,d1,d2,d3,d4,Z,Y,W⟩,Q⟩:=ia p0.1;have P:=Q 0;have d:dQ (λk=>k=1) w2 g (w2.setCell ⟨rb,0,GA⟩ (.slice (GB ⟨g1,0,GA⟩) (s.ws.length+1) q)) g:=fj _ w2 g ⟨rb,0,GA⟩ _ p0.2;have U:Hid (EmW (w2.setCell ⟨rb,0,GA⟩ (.slice (GB ⟨g1,0,GA⟩) (s.ws.length+1) q)) g rb lv (s.lay op a b)/\dQ I17 w1 o (w2.setCell ⟨rb,0,GA⟩ (.slice (GB ⟨g1,0,GA⟩) (s.ws.length+1) q)) g):=by
  refine⟨⟨λx c=>?_,h2,O,_,vc,vn,vk,mc,mn,p0.set 0 _,?_,p2.step d (by decide),p3.step d (by decide),p4.step d (by decide),B.step d (by decide),A.step d (by decide)⟩,(f.mono (fx (by decide))).trans (d.mono (fx (by decide)))⟩
  ·rcases List.mem_append.1 c with c|c
   ·exact h1 x c
   ·simp at c;rw[c];exact L.out
  ·rw[m.out]
   have:=H.step d (by decide)
   have e:(s.lay op a b).ws.length=s.ws.length+1:=by simp[Em.lay]
   rw[e];exact this
 clear f d H G p0 p2 p3 p4 B A j z q2 y v u t i r c0 c1 c2 c3 c4 c5 T S R;go_wp2;go_ret;exact⟨by first|rfl|(simp;done)|(congr 1;simp),g,U.out⟩
theorem ua (w:GE)(o:Nat->Nat)(rb:Nat)(lv:GJ)(s:Em)(h:EmW w o rb lv s) :
  GR GD 189 #[.pointer (GB ⟨rb,0,GA⟩)] w λe w'=>e=.returned (.int .i64 (s.ws.length:Nat))/\w'=w:=by
 obtain⟨h1,h2,c,vw,vc,vn,vk,mc,mn,b,a,-⟩:=h;obtain⟨⟨c0,c1,c2,c3,c4,c5,g,f⟩,d⟩:=ia b.1;obtain⟨ao,cap,rfl⟩:=a.form;clear b a;go_enter Tryz.func189,Tryz.ntmps189;go_wp2;go_ret;exact⟨rfl,rfl⟩
abbrev spV (ar u:Nat):GJ:=.agg #[.int .i64 ar,.int .i64 u]
theorem lj {w:GE}{b:Nat}{c a:GJ}{t:Hl}(h:w.heap[b]?=GB (.cells #[c,a] t)):(w.cell? ⟨b,0,GA⟩=GB c/\w.cell? ⟨b,1,GA⟩=GB a)/\∀ j,w.frozen? ⟨b,j,GA⟩=false:=by
 refine⟨⟨?_,?_⟩,λj=>?_⟩<;>simp[JE,JP,h]
theorem vh (op a b ar u:Nat)(w:GE)(o:Nat->Nat)(rb:Nat)(lv:GJ)(ls:List Int)(s:Em)(l:op<=255)(L:a<=268435455)(K:b<=268435455)(R:u<=1000000000)(S:s.dp<=1000000001)(J:s.mes<=100000000)(X:EmX w o lv ls)(h:EmW w o rb lv s) :
  GR GD 76 #[.pointer (GB ⟨rb,0,GA⟩),.int .i64 op,.int .i64 a,.int .i64 b,spV ar u] w (mX w o rb lv (s.push op a b u) (.tuple #[])):=by
 obtain⟨w1,c⟩:=exq (w.alloc (.cells #[.int .i64 ar,.int .i64 u] 86));obtain⟨g,m⟩:=exq w.heap.size;have s0:∀ {I:Nat->Prop},dQ I w o w1 (dR w o 0):=λ{I}=>by rw[c];exact et I w o _
 have G:Blk w1 (dR w o 0) 0 g (.cells #[.int .i64 ar,.int .i64 u] 86):=by rw[c,m];exact⟨GH _ _,dY (GC _)⟩
 have E:=h.step (s0 (I:=λ_=>False)) noF;have B:=X.step (s0 (I:=λ_=>False)) id;have C:=s0 (I:=I17);generalize dR w o 0=H at *;have D:=fm op a b w1 H rb lv ls s l L K J B E;have O:=GL m;clear s0 h X m E B;go_enter Tryz.func76,Tryz.ntmps76;go_upto_region 1 with fail;rw[<-c,<-O.out];clear c;go_upto_region 2 with (first|(go_at_call 41;refine D.mono ?_;rintro e w2 ⟨rfl,d,Q,p⟩))
 have F:=G.step p (by decide);obtain⟨h1,h2,M,vw,vc,vn,vk,mc,mn,i,z,q2,y,x,v,t⟩:=Q;have t3:dQ (λk=>k=1) w2 d (w2.setCell ⟨rb,7,GA⟩ (.int .i64 (max s.dp (u+1):Nat))).drew d:=((dQ.refl _ w2 d).setCell ⟨rb,7,GA⟩ _ i.2).drew;have P:Hid (EmW (w2.setCell ⟨rb,7,GA⟩ (.int .i64 (max s.dp (u+1):Nat))).drew d rb lv (s.push op a b u)/\dQ I17 w o (w2.setCell ⟨rb,7,GA⟩ (.int .i64 (max s.dp (u+1):Nat))).drew d):=by
  have j:=(i.set 7 (.int .i64 (max s.dp (u+1):Nat))).step ((dQ.refl (λ_=>False) _ d).drew) id;exact⟨⟨h1,h2,M,vw,vc,vn,vk,mc,mn,j,z.step t3 (by decide),q2.step t3 (by decide),y.step t3 (by decide),x.step t3 (by decide),v.step t3 (by decide),t.step t3 (by decide)⟩,(C.trans p).trans (t3.mono (fx (by decide)))⟩
 obtain⟨⟨c0,c1,c2,c3,c4,c5,U,N⟩,A⟩:=ia i.1;obtain⟨⟨e0,T⟩,-⟩:=lj F.1;have cf7:=A 7;have n:(s.lay op a b).dp=s.dp:=rfl;rw[n] at N;have f:(if (s.dp:Int)<(u:Int)+1 then (u:Int)+1 else (s.dp:Int))=((max s.dp (u+1):Nat):Int):=by split<;>omega
 have r:=GL f;have q:Hid (max (s.dp:Int) ((u:Int)+1)=((max s.dp (u+1):Nat):Int)):=by show _=_;omega
 clear t3 i z q2 y x v t G F D p C f A;go_region
 all_goals
  first|rw[r.out] | rw[q.out]
  go_end0
  exact⟨rfl,d,P.out⟩
theorem kO (ar u v:Nat)(w:GE)(m:u<=1000000000)(l:v<=1000000000) :
  GR GD 84 #[spV ar u,.int .i64 v] w λe w'=>e=.returned (spV ar (u+v))/\GK w.heap.size w w':=by
 obtain⟨w1,a⟩:=exq ((w.alloc (.cells #[.int .i64 ar,.int .i64 u] 86)).alloc (.cells #[.int .i64 0,.int .i64 0] 86));obtain⟨g,b⟩:=exq w.heap.size;have h:GK g w w1:=by rw[a,b];exact((GN _ w).alloc (GC _) _).alloc (by simp) _
 have e0:w1.heap[g]?=GB (.cells #[.int .i64 ar,.int .i64 u] 86):=by rw[a,b];exact(In _ _ (by simp)).trans (GH _ _)
 have c:w1.heap[g+1]?=GB (.cells #[.int .i64 0,.int .i64 0] 86):=by
  have:=GH (w.alloc (.cells #[.int .i64 ar,.int .i64 u] 86)) (.cells #[.int .i64 0,.int .i64 0] 86)
  rw[a,b];simpa using this
 obtain⟨⟨c0,c1⟩,q⟩:=lj e0;obtain⟨⟨o,d1⟩,n⟩:=lj c;have f:=GL b;clear b;go_enter Tryz.func84,Tryz.ntmps84;go_upto_region 1 with fail;rw[<-a,<-f.out];clear a;have d:=Ij _ (g+1) 1 #[.int .i64 ar,.int .i64 0] _ (.int .i64 ((u:Int)+(v:Int))) (Ij _ (g+1) 0 _ _ (.int .i64 ar) ((GP w1 ⟨g,1,GA⟩ (g+1) (.int .i64 ((u:Int)+(v:Int))) (by simp)).trans c));obtain⟨⟨j,i⟩,-⟩:=lj d;have k:Hid (GK g w (((w1.setCell ⟨g,1,GA⟩ (.int .i64 ((u:Int)+(v:Int)))).setCell ⟨g+1,0,GA⟩ (.int .i64 ar)).setCell ⟨g+1,1,GA⟩ (.int .i64 ((u:Int)+(v:Int))))):=((h.setCell (p:=⟨g,1,GA⟩) (GC _) _).setCell (p:=⟨g+1,0,GA⟩) (by show g<=g+1;omega) _).setCell (p:=⟨g+1,1,GA⟩) (by show g<=g+1;omega) _;clear d h e0 c;go_wp2;exact GG (v:=spV ar (u+v)) (by simp[results,Tryz.results84,go_sem,j,i]) rfl ⟨rfl,by rw[<-f.out];exact k.out⟩
theorem wJ (k:Int)(w:GE)(o:Nat->Nat)(rb:Nat)(lv:GJ)(ls:List Int)(s:Em)(l:-9223372036854775808<=k/\k<=9223372036854775807)(K:s.mes<=100000000)(X:EmX w o lv ls)(h:EmW w o rb lv s) :
  GR GD 77 #[.pointer (GB ⟨rb,0,GA⟩),.int .i64 k] w (mX w o rb lv (s.kc k) (.int .i64 (s.cs.idxOf k:Nat))):=by
 have C:=h;obtain⟨h1,h2,L,vw,vc,vn,vk,mc,mn,j,q,q2,p,n,g,m⟩:=h;obtain⟨H,J,i2,i3,i4⟩:=ek rn;obtain⟨⟨c0,c1,c2,c3,c4,c5,W,V⟩,U⟩:=ia j.1;obtain⟨ao,cap,rfl⟩:=q2.form;have T:s.cs.length<=100000000:=by unfold Em.mes at K;omega
 by_cases a:k ∈ s.cs
 ·have B:=g.look k l a;have e:s.kc k=s:=by simp[Em.kc,a]
  rw[e];have z:=GL C;clear C j q q2 p n g m e;go_enter Tryz.func77,Tryz.ntmps77;go_wp2;go_ret;exact⟨rfl,o,z.out,dQ.refl _ _ _⟩
 ·obtain⟨x,B⟩:=g.miss k l a;obtain⟨w1,r,G,c⟩:=g.put k l a (by omega);have t:s.cs.length+1<=GY:=by unfold GY;omega
  have hn2:(s.cs.length+1)*8<=140737488355328:=by omega
  have p0:=j.step c (by decide);have A:=(q2.step c (by decide)).step (dQ.ofBelow (I:=λ_=>False) o (b1 w1 (.cells #[.int .i64 k] 3))) id;obtain⟨⟨R,d1,d2,d3,d4,Q,P,O⟩,D⟩:=ia p0.1;have v:Hid (s.kc k=⟨s.ws,s.cs++[k],s.ns,s.ks,s.dp⟩/\s.cs.idxOf k=s.cs.length):=⟨by simp[Em.kc,a],mC a⟩;clear X;go_enter Tryz.func77,Tryz.ntmps77;go_wp2_with (first|(at_builtin;refine eb rfl (.tmp 35) (.tmp 37) 35 rfl 3 H (.int .i64 0) 1 8 Hu J i2 i3 i4 rfl (by decide) o 3 (.slice ao s.cs.length cap) s.cs.length (eiV s.cs) rfl A ⟨w1.heap.size,0,GA⟩ 1 1 [.int .i64 k] rfl rfl (fG _ _ _) (ku _ rfl) (by decide) t hn2 ?_)|go_in);intro g1 u w2 d F E;have s2:dQ (λk=>k=3) w1 o w2 d:=(dQ.ofBelow o (b1 w1 _)).trans E;have i:=p0.step s2 (by decide);obtain⟨⟨R,d1,d2,d3,d4,Q,P,O⟩,D⟩:=ia i.1;have N:=D 1;have b:dQ (λk=>k=1) w2 d (w2.setCell ⟨rb,1,GA⟩ (.slice (GB ⟨g1,0,GA⟩) (s.cs.length+1) u)) d:=fj _ w2 d ⟨rb,1,GA⟩ _ i.2;have z:Hid (EmW (w2.setCell ⟨rb,1,GA⟩ (.slice (GB ⟨g1,0,GA⟩) (s.cs.length+1) u)) d rb lv (s.kc k)/\dQ I17 w o (w2.setCell ⟨rb,1,GA⟩ (.slice (GB ⟨g1,0,GA⟩) (s.cs.length+1) u)) d):=by
   rw[v.out.1];refine⟨⟨h1,?_,L,vw,_,vn,vk,mc,mn,i.set 1 _,((q.step c (by decide)).step s2 (by decide)).step b (by decide),?_,((p.step c (by decide)).step s2 (by decide)).step b (by decide),((n.step c (by decide)).step s2 (by decide)).step b (by decide),(G.step s2 (by decide)).step b (by decide),((m.step c (by decide)).step s2 (by decide)).step b (by decide)⟩,((c.mono (fx (by decide))).trans (s2.mono (fx (by decide)))).trans (b.mono (fx (by decide)))⟩
   ·intro y f;rcases List.mem_append.1 f with f|f
    ·exact h2 y f
    ·simp at f;rw[f];exact l
   ·have:=F.step b (by decide)
    have e:(s.cs++[k]).length=s.cs.length+1:=by simp
    have M:eiV (s.cs++[k])=eiV s.cs++[.int .i64 k]:=by simp[eiV]
    rw[e,M];exact this
  have S:Hid (s.cs.idxOf k=s.cs.length):=v.out.2;clear c s2 b F E p0 A i j q q2 p n g m B r G v;go_wp2;go_ret;exact⟨by rw[S.out];rfl,d,z.out⟩
theorem zv (k:List UInt8)(w:GE)(o:Nat->Nat)(rb:Nat)(lv:GJ)(ls:List Int)(s:Em)(m:k.length<=GY)(K:s.mes<=100000000)(X:EmX w o lv ls)(h:EmW w o rb lv s) :
  GR GD 133 #[.pointer (GB ⟨rb,0,GA⟩),stv k] w (mX w o rb lv (s.kn k) (.int .i64 (s.ns.idxOf k:Nat))):=by
 have C:=h;obtain⟨h1,h2,L,vw,vc,vn,vk,mc,mn,l,q,q2,j,p,n,g⟩:=h;obtain⟨H,J,i2,i3,i4⟩:=ek uY;obtain⟨⟨c0,c1,c2,c3,c4,c5,W,V⟩,U⟩:=ia l.1;obtain⟨ao,cap,rfl⟩:=j.form;have T:s.ns.length<=100000000:=by unfold Em.mes at K;omega
 by_cases a:k ∈ s.ns
 ·have B:=g.look k m a;have e:s.kn k=s:=by simp[Em.kn,a]
  rw[e];have z:=GL C;clear C l q q2 j p n g e;go_enter Tryz.func133,Tryz.ntmps133;go_wp2;go_ret;exact⟨rfl,o,z.out,dQ.refl _ _ _⟩
 ·obtain⟨x,B⟩:=g.miss k m a;obtain⟨w1,r,G,c⟩:=g.put k m a (by omega);have t:s.ns.length+1<=GY:=by unfold GY;omega
  have hn2:(s.ns.length+1)*16<=140737488355328:=by omega
  have p0:=l.step c (by decide);have A:=(j.step c (by decide)).step (dQ.ofBelow (I:=λ_=>False) o (b1 w1 (.cells #[stv k] 9))) id;obtain⟨⟨R,d1,d2,d3,d4,Q,P,O⟩,D⟩:=ia p0.1;have v:Hid (s.kn k=⟨s.ws,s.cs,s.ns++[k],s.ks,s.dp⟩/\s.ns.idxOf k=s.ns.length):=⟨by simp[Em.kn,a],mC a⟩;clear X;go_enter Tryz.func133,Tryz.ntmps133;go_wp2_with (first|(at_builtin;refine eb rfl (.tmp 35) (.tmp 37) 40 rfl 9 H (.string ⟨#[]⟩) 1 16 I2 J i2 i3 i4 rfl (by decide) o 4 (.slice ao s.ns.length cap) s.ns.length (esV s.ns) rfl A ⟨w1.heap.size,0,GA⟩ 1 1 [stv k] rfl rfl (fG _ _ _) (ku _ rfl) (by decide) t hn2 ?_)|go_in);intro g1 u w2 d F E;have s2:dQ (λk=>k=4) w1 o w2 d:=(dQ.ofBelow o (b1 w1 _)).trans E;have i:=p0.step s2 (by decide);obtain⟨⟨R,d1,d2,d3,d4,Q,P,O⟩,D⟩:=ia i.1;have N:=D 2;have b:dQ (λk=>k=1) w2 d (w2.setCell ⟨rb,2,GA⟩ (.slice (GB ⟨g1,0,GA⟩) (s.ns.length+1) u)) d:=fj _ w2 d ⟨rb,2,GA⟩ _ i.2;have z:Hid (EmW (w2.setCell ⟨rb,2,GA⟩ (.slice (GB ⟨g1,0,GA⟩) (s.ns.length+1) u)) d rb lv (s.kn k)/\dQ I17 w o (w2.setCell ⟨rb,2,GA⟩ (.slice (GB ⟨g1,0,GA⟩) (s.ns.length+1) u)) d):=by
   rw[v.out.1];refine⟨⟨h1,h2,?_,vw,vc,_,vk,mc,mn,i.set 2 _,((q.step c (by decide)).step s2 (by decide)).step b (by decide),((q2.step c (by decide)).step s2 (by decide)).step b (by decide),?_,((p.step c (by decide)).step s2 (by decide)).step b (by decide),((n.step c (by decide)).step s2 (by decide)).step b (by decide),(G.step s2 (by decide)).step b (by decide)⟩,((c.mono (fx (by decide))).trans (s2.mono (fx (by decide)))).trans (b.mono (fx (by decide)))⟩
   ·intro y f;rcases List.mem_append.1 f with f|f
    ·exact L y f
    ·simp at f;rw[f];exact m
   ·have:=F.step b (by decide)
    have e:(s.ns++[k]).length=s.ns.length+1:=by simp
    have M:esV (s.ns++[k])=esV s.ns++[stv k]:=by simp[esV]
    rw[e,M];exact this
  have S:Hid (s.ns.idxOf k=s.ns.length):=v.out.2;clear c s2 b F E p0 A i l q q2 j p n g B r G v;go_wp2;go_ret;exact⟨by rw[S.out];rfl,d,z.out⟩
theorem eh {w:GE}{g:Nat}{ar u:Nat}(h:w.heap[g]?=GB (.cells #[.int .i64 ar,.int .i64 u] 86)):w.cell? ⟨g,0,GA⟩=GB (.int .i64 ar)/\w.cell? ⟨g,1,GA⟩=GB (.int .i64 u):=(lj h).1
theorem fo (n:Int)(kd ar u:Nat)(w:GE)(o:Nat->Nat)(rb:Nat)(lv:GJ)(ls:List Int)(s:Em)(B:-9223372036854775808<=n/\n<=9223372036854775807)(D:kd<=268435455)(A:u<=1000000000)(E:s.dp<=1000000001)(C:s.mes<=99999998)(X:EmX w o lv ls)(h:EmW w o rb lv s) :
  GR GD 74 #[.pointer (GB ⟨rb,0,GA⟩),.int .i64 n,.int .i64 kd,spV ar u] w (mX w o rb lv (s.con n kd u) (.tuple #[])):=by
 obtain⟨w1,b⟩:=exq (w.alloc (.cells #[.int .i64 ar,.int .i64 u] 86));obtain⟨g,k⟩:=exq w.heap.size;have s0:∀ {I:Nat->Prop},dQ I w o w1 (dR w o 0):=λ{I}=>by rw[b];exact et I w o _
 have r:Blk w1 (dR w o 0) 0 g (.cells #[.int .i64 ar,.int .i64 u] 86):=by rw[b,k];exact⟨GH _ _,dY (GC _)⟩
 have x:=h.step (s0 (I:=λ_=>False)) noF;have m:=X.step (s0 (I:=λ_=>False)) id;have v:=s0 (I:=I17);generalize dR w o 0=f at *;have K:=GL k;have z:=s.mes_kc n;have j:s.cs.idxOf n<=268435455:=by
  have:=List.idxOf_le_length (a:=n) (l:=s.cs)
  unfold Em.mes at C;omega
 clear s0 h X k;go_enter Tryz.func74,Tryz.ntmps74;go_upto_region 1 with fail;rw[<-b,<-K.out];clear b;have d1:dQ (λ_=>False) w1 f w1.drew f:=(dQ.refl _ w1 f).drew;have L:=wJ n w1.drew f rb lv ls s B (by omega) (m.step d1 id) (x.step d1 noF);have d:=r.step d1 id;have H:=v.trans ((dQ.refl _ w1 f).drew);have J:∀ w2 c,EmW w2 c rb lv (s.kc n)->EmX w2 c lv ls->GR GD 76 #[.pointer (GB ⟨rb,0,GA⟩),.int .i64 1,.int .i64 (s.cs.idxOf n:Nat),.int .i64 kd,spV ar u] w2 (mX w2 c rb lv (s.con n kd u) (.tuple #[])):=λw2 c q G=>vh 1 (s.cs.idxOf n) kd ar u w2 c rb lv ls (s.kc n) (by omega) j D A E (by omega) G q;obtain⟨a0,a1⟩:=eh r.1;obtain⟨b0,b1⟩:=eh d.1;have F:=m.step d1 id;clear x m d1 v r;go_region_held3 (λwx=>wx.cell? ⟨g,0,GA⟩=GB (.int .i64 ar)/\wx.cell? ⟨g,1,GA⟩=GB (.int .i64 u)) (go_keep) (first|(go_at_call 77;refine L.mono ?_;rintro e w2 ⟨rfl,c,q,i⟩;obtain⟨b0,b1⟩:=eh (d.step i (by decide)).1;have p:=J w2 c q (F.step i (by decide)))|(go_at_call 76;refine p.mono ?_;rintro e w3 ⟨rfl,y,M,t⟩;obtain⟨b0,b1⟩:=eh ((d.step i (by decide)).step t (by decide)).1))
 all_goals
  go_end0
  exact⟨rfl,y,M,(H.trans i).trans t⟩
structure Grw (s s':Em)(n:Nat):Prop where
 mes:s'.mes<=s.mes+n
 ws:s.ws.length<=s'.ws.length
 ks:s'.ks.length=s.ks.length
 dp:s.dp<=1000000001->s'.dp<=1000000001
theorem Grw.trans {a b c:Em}{n m:Nat}(h:Grw a b n)(k:Grw b c m):Grw a c (n+m):=⟨by have:=h.mes;have:=k.mes;omega,Hn h.ws k.ws,k.ks.trans h.ks,λx=>k.dp (h.dp x)⟩
theorem Grw.le {a b:Em}{n m:Nat}(h:Grw a b n)(c:n<=m):Grw a b m:=⟨by have:=h.mes;omega,h.ws,h.ks,h.dp⟩
theorem eR (s:Em)(op a b:Nat):Grw s (s.lay op a b) 1:=⟨by rw[Em.mes_lay];omega,by simp[Em.lay],rfl,id⟩
theorem nP (s:Em)(i:Nat):Grw s (s.land i) 0:=⟨by rw[Em.mes_land];omega,by simp[Em.land],rfl,id⟩
theorem D1 (s:Em)(i:Nat)(k:Int):Grw s (s.cel i k) 0:=⟨GC _,GC _,by simp[Em.cel],id⟩
theorem iH (s:Em)(n:Int)(kd u:Nat)(a:u<=1000000000):Grw s (s.con n kd u) 2:=⟨s.mes_con n kd u,by simp[Em.con,Em.push,Em.kc],rfl,λh=>by show max s.dp (u+1)<=_;omega⟩
def pE (w:GE)(o:Nat->Nat)(rb:Nat)(lv:GJ)(s s':Em)(n:Nat)(e:IG)(w':GE):Prop:=e=.returned (.tuple #[])/\(∃o',EmW w' o' rb lv s'/\dQ I17 w o w' o')/\Grw s s' n
theorem Gk {x:Wo}{n:Nat}(h:x.ok)(a:n<=268435455):(x.to n).ok:=by
 obtain⟨h1,h2,b⟩:=h;unfold Wo.to;split
 ·exact⟨h1,h2,a⟩
 ·exact⟨h1,a,b⟩
theorem qs {l:List Wo}{i:Nat}(h:i<l.length)(f:Wo->Wo):l.modify i f=l.set i (f (l[i])):=by
 apply Jj;intro j;rw[List.getElem?_modify,List.getElem?_set];by_cases e:i=j
 ·subst e;simp[h]
 ·simp[e]
theorem rH (i:Nat)(u:FrameMode)(w:GE)(o:Nat->Nat)(rb:Nat)(lv:GJ)(ls:List Int)(s:Em)(M:i<s.ws.length)(Y:s.mes<=100000000)(X:EmX w o lv ls)(h:EmW w o rb lv s) :
  CallsD GD 126 #[.pointer (GB ⟨rb,0,GA⟩),.int .i64 i] u w λe u' w'=>u'=u/\mX w o rb lv (s.land i) (.tuple #[]) e w':=by
 have h':=h;obtain⟨h1,h2,h3,vw,vc,vn,vk,mc,mn,E,J,q2,U,S,R,Q⟩:=h;obtain⟨⟨c0,c1,c2,c3,c4,c5,c6,c7⟩,cf⟩:=ia E.1;obtain⟨g,cap,rfl,og,-,-,y,hc,Z⟩:=J.pos (by omega);have t:=h1 s.ws[i] (It M);have ci:w.cell? ⟨g,i,GA⟩=GB (.int .u64 (iW s.ws[i])):=by
  rw[hc i (by omega)];simp[woV,M]
 have N:=Ci t;have F:=tP t;have A:=ya (iW s.ws[i]) w X.tab N.1 N.2;rw[F.1,F.2.1,F.2.2] at A;have hl:s.ws.length<=100000000:=by unfold Em.mes at Y;omega
 have W:=Gk t (n:=s.ws.length) (by omega);have j:Hid (∀ w',GK w.heap.size w w'->EmW (w'.setCell ⟨g,i,GA⟩ (.int .u64 (iW (s.ws[i].to s.ws.length)))).drew o rb lv (s.land i)/\dQ I17 w o (w'.setCell ⟨g,i,GA⟩ (.int .u64 (iW (s.ws[i].to s.ws.length)))).drew o):=λw' B=>by
  have x0:=dQ.ofBelow (I:=λ_=>False) o B;have r1:=((J.step x0 id).store i (.int .u64 (iW (s.ws[i].to s.ws.length)))).step ((dQ.refl (λ_=>False) _ o).drew) id;have l:dQ (λk=>k=2) w o (w'.setCell ⟨g,i,GA⟩ (.int .u64 (iW (s.ws[i].to s.ws.length)))).drew o:=((dQ.ofBelow o B).setCell ⟨g,i,GA⟩ _ og).drew;have e:(s.land i).ws=s.ws.set i (s.ws[i].to s.ws.length):=qs M _;refine⟨⟨λx c=>?_,h2,h3,_,vc,vn,vk,mc,mn,E.step l (by decide),?_,q2.step l (by decide),U.step l (by decide),S.step l (by decide),R.step l (by decide),Q.step l (by decide)⟩,l.mono (fx (by decide))⟩
  ·rw[e] at c;rcases List.mem_or_eq_of_mem_set c with c|c
   ·exact h1 x c
   ·rw[c];exact W
  ·have e2:woV (s.land i).ws=(woV s.ws).set i (.int .u64 (iW (s.ws[i].to s.ws.length))):=by rw[e];simp[woV]
   have G:(s.land i).ws.length=s.ws.length:=by rw[e];simp
   rw[e2,G];exact r1
 have z:∀ (a b:Nat) (wx:GE),Tab wx->a<=268435455->b<=268435455->GR GD 86 #[.int .i64 (s.ws[i].op:Nat),.int .i64 a,.int .i64 b] wx λe w'=>e=.returned (.tuple #[.int .u64 (iW ⟨s.ws[i].op,a,b⟩),.int .i64 0])/\w'=wx:=λa b wx T ha hb=>tc (s.ws[i].op:Int) (a:Int) (b:Int) wx T (by omega) (by have:=t.1;omega) (by omega) (by omega) (by omega) (by omega);have P:∀ w',GK w.heap.size w w'->GR GD 189 #[.pointer (GB ⟨rb,0,GA⟩)] w' λe H=>e=.returned (.int .i64 (s.ws.length:Nat))/\H=w':=λw' B=>ua w' o rb lv s (h'.below B);have aa:(i:Int)<(s.ws.length:Int):=by omega
 have f:Hid (∀ w',GK w.heap.size w w'->w'.cell? ⟨rb,0,GA⟩=GB (.slice (GB ⟨g,0,GA⟩) s.ws.length cap)/\w'.cell? ⟨g,i,GA⟩=GB (.int .u64 (iW s.ws[i]))/\w'.frozen? ⟨g,i,GA⟩=false/\Tab w'):=λw' B=>by
  refine⟨(B.cell (p:=⟨rb,0,GA⟩) E.lt).trans c0,(B.cell (p:=⟨g,i,GA⟩) y).trans ci,?_,(X.below B).tab⟩;have e:=B.block g y
  have:=Z i
  unfold JP at this ⊢;rw[e];exact this
 have v:∀ x:Wo,x.to s.ws.length=if x.op=17 then ⟨x.op,x.a,s.ws.length⟩ else ⟨x.op,s.ws.length,x.b⟩:=λx=>rfl;rw[v] at j;clear v W X E J q2 U S R Q h' c1 c2 c3 c4 c5 c6 c7 cf hc Z F N h1 h2 h3 Y;obtain⟨L,c,r⟩:=t;generalize K:s.ws[i]=x at *;clear K;obtain⟨op,a,b⟩:=x;simp only at A z j L c r
 go_enter_d Tryz.func126,Tryz.ntmps126
 go_upto_region 1 with (first|(go_at_call 146;refine A.mono ?_;rintro e w1 ⟨rfl,D⟩))
 have C:=P w1 D;obtain⟨d0,d1,d2,d3⟩:=f.out w1 D;obtain⟨e0,e1,e2,G⟩:=f.out w1.drew D.drew;by_cases m:op=17
 ·subst m;rw[if_pos rfl] at j;have O:=GL (j.out w1 D);have q:=z a s.ws.length w1.drew G c (by omega);generalize iW ⟨17,a,s.ws.length⟩=ev at *;clear j A P f z;go_upto_region 4 with (first|(go_at_call 189;refine C.mono ?_;rintro e w2 ⟨rfl,d⟩;subst d))
  go_region_with (first|(go_at_call 86;refine q.mono ?_;rintro e w3 ⟨rfl,d⟩;subst d))
  all_goals
   go_end0
   exact⟨rfl,o,O.out⟩
 ·rw[if_neg m] at j;have O:=GL (j.out w1 D);have q:=z s.ws.length b w1.drew G (by omega) r;have V:¬(op:Int)=17:=by omega
  generalize iW ⟨op,s.ws.length,b⟩=ev at *;clear j A P f z m;go_upto_region 4 with (first|(go_at_call 189;refine C.mono ?_;rintro e w2 ⟨rfl,d⟩;subst d))
  go_region_with (first|(go_at_call 86;refine q.mono ?_;rintro e w3 ⟨rfl,d⟩;subst d))
  all_goals
   go_end0
   exact⟨rfl,o,O.out⟩
def nG (rb:Nat)(lv:GJ)(ls:List Int)(K:GE->(Nat->Nat)->Prop)(F:FuncId)(c:Array GJ)(t:Em->Em)(n:Nat):Prop :=
 ∀ w o s,EmX w o lv ls->EmW w o rb lv s->K w o->s.mes+n<=100000000->s.dp<=1000000001->s.ks.length=ls.length->GR GD F c w (pE w o rb lv s (t s) n)
abbrev ov (K:GE->(Nat->Nat)->Prop):Prop:=∀ {w o w' o'},K w o->dQ I17 w o w' o'->K w' o'
abbrev Ent (F:FuncId):Prop:=∀ (args:Array GJ) (w:GE),(callFunc F args).run GD w=.ok (.enter F args) w
theorem tV (op:Nat)(F:FuncId)(c:Array GJ)(t:Em->Em)(n:Nat)(K:GE->(Nat->Nat)->Prop)(I:ov K)(M:Ent F)(w:GE)(o:Nat->Nat)(rb:Nat)(lv:GJ)(ls:List Int)(H:nG rb lv ls K F c t n)(s:Em)(i:op<=255)(R:s.mes+n+2<=100000000)(G:s.dp<=1000000001)(l:s.ks.length=ls.length)(X:EmX w o lv ls)(h:EmW w o rb lv s)(k:K w o) :
  GR GD 127 #[.pointer (GB ⟨rb,0,GA⟩),.int .i64 op,.func (.func F) #[] c] w λe w'=>e=.returned (.int .i64 ((t (s.lay op 0 0)).ws.length:Nat))/\(∃o',EmW w' o' rb lv (((t (s.lay op 0 0)).lay 13 0 0).land s.ws.length)/\dQ I17 w o w' o')/\Grw s (((t (s.lay op 0 0)).lay 13 0 0).land s.ws.length) (n+2)/\Grw (s.lay op 0 0) (t (s.lay op 0 0)) n:=by
 have z:=fm op 0 0 w o rb lv ls s i (by omega) (by omega) (by omega) X h;have g1:=eR s op 0 0
 go_enter_defers Tryz.func127,Tryz.ntmps127
 go_upto_region 2 with (first|(go_at_call 41;refine z.mono ?_;rintro e w1 ⟨rfl,D,P,p⟩))
 have v:=X.step p (by decide);have A:=H w1 D (s.lay op 0 0) v P (I k p) (by have:=g1.mes;omega) (g1.dp G) (g1.ks.trans l);clear z;go_wp2_with fail;refine A.mono ?_;rintro e w2 ⟨rfl,⟨C,B,y⟩,g2⟩;have E:(s.lay op 0 0).ws.length=s.ws.length+1:=by simp[Em.lay]
 have g3:=eR (t (s.lay op 0 0)) 13 0 0;have u:=v.step y (by decide);have b:=fm 13 0 0 w2 C rb lv ls (t (s.lay op 0 0)) (by omega) (by omega) (by omega) (by have:=g1.mes;have:=g2.mes;omega) u B;clear A M;obtain⟨s2,a⟩:=exq (t (s.lay op 0 0));rw[<-a] at B g2 g3 b;have g:=GL a;clear a;go_wp2_with fail;refine b.mono ?_;rintro e w3 ⟨rfl,r,O,x⟩;have J:=u.step x (by decide);have j:s.ws.length<(s2.lay 13 0 0).ws.length:=by have:=g2.ws;have:=g3.ws;omega
 have N:=rH s.ws.length .returning w3 r rb lv ls (s2.lay 13 0 0) j (by have:=g1.mes;have:=g2.mes;have:=g3.mes;omega) J O;have L:Hid (∀ w4 d,EmW w4 d rb lv ((s2.lay 13 0 0).land s.ws.length)->dQ I17 w3 r w4 d->(∃o',EmW w4 o' rb lv ((s2.lay 13 0 0).land s.ws.length)/\dQ I17 w o w4 o')/\Grw s ((s2.lay 13 0 0).land s.ws.length) (n+2)/\Grw (s.lay op 0 0) s2 n):=λw4 d q m =>
  ⟨⟨d,q,((p.trans y).trans x).trans m⟩,(((g1.trans g2).trans g3).trans (nP _ _)).le (by omega),g2⟩
 clear b;go_wp2;refine leaves_cons (f:=126) (args:=#[.pointer (GB ⟨rb,0,GA⟩),.int .i64 (s.ws.length:Nat)]) (by simp) (by simp[go_sem]) ?_;refine N.mono ?_;rintro e Q w4 ⟨rfl,rfl,d,q,m⟩;exact⟨_,results_tmp rfl _ _ _,by rw[<-g.out];rfl,by rw[<-g.out];exact L.out w4 d q m⟩
theorem uo (op:Nat)(c p:FuncId)(c1 c2:Array GJ)(t1 t2:Em->Em)(n1 n2:Nat)(K:GE->(Nat->Nat)->Prop)(v:ov K)(n:Ent c)(m:Ent p)(w:GE)(o:Nat->Nat)(rb:Nat)(lv:GJ)(ls:List Int)(J:nG rb lv ls K c c1 t1 n1)(I:nG rb lv ls K p c2 t2 n2)(s:Em)(d:op<=255)(O:s.mes+(n1+n2+2)<=100000000)(u:s.dp<=1000000001)(b:s.ks.length=ls.length)(X:EmX w o lv ls)(h:EmW w o rb lv s)(k:K w o) :
  GR GD 79 #[.pointer (GB ⟨rb,0,GA⟩),.int .i64 op,.func (.func c) #[] c1,.func (.func p) #[] c2] w (pE w o rb lv s (s.fork op t1 t2) (n1+n2+2)):=by
 have z:=tV op c c1 t1 n1 K v n w o rb lv ls J s d (by omega) u b X h k;have g:Hid (s.fork op t1 t2=(t2 (((t1 (s.lay op 0 0)).lay 13 0 0).land s.ws.length)).land (t1 (s.lay op 0 0)).ws.length):=rfl;have D:(s.lay op 0 0).ws.length=s.ws.length+1:=by simp[Em.lay]
 have C:((((t1 (s.lay op 0 0)).lay 13 0 0).land s.ws.length)).ws.length=(t1 (s.lay op 0 0)).ws.length+1:=by simp[Em.lay,Em.land]
 go_enter_defers Tryz.func79,Tryz.ntmps79
 go_upto_region 1 with (first|(go_at_call 127;refine z.mono ?_;rintro e w1 ⟨rfl,⟨B,M,l⟩,g1,E⟩))
 clear z;generalize ((t1 (s.lay op 0 0)).lay 13 0 0).land s.ws.length=r at *;generalize (t1 (s.lay op 0 0)).ws.length=j at *;have x:=X.step l (by decide);have A:=I w1 B r x M (v k l) (by have:=g1.mes;omega) (g1.dp u) (g1.ks.trans b);go_wp2_with fail;refine A.mono ?_;rintro e w2 ⟨rfl,⟨t,L,y⟩,g2⟩;have F:=x.step y (by decide);clear A m;generalize t2 r=s2 at *;have H:=rH j .returning w2 t rb lv ls s2 (by have:=g2.ws;omega) (by have:=g1.mes;have:=g2.mes;omega) F L;have G:Hid (∀ w4 a,EmW w4 a rb lv (s2.land j)->dQ I17 w2 t w4 a->(∃o',EmW w4 o' rb lv (s.fork op t1 t2)/\dQ I17 w o w4 o')/\Grw s (s.fork op t1 t2) (n1+n2+2)):=λw4 a q i=>by
  rw[g.out];exact⟨⟨a,q,(l.trans y).trans i⟩,((g1.trans g2).trans (nP _ _)).le (by omega)⟩
 go_wp2;refine leaves_cons (f:=126) (args:=#[.pointer (GB ⟨rb,0,GA⟩),.int .i64 j]) (by simp) (by simp[go_sem]) ?_;refine H.mono ?_;rintro e N w4 ⟨rfl,rfl,a,q,i⟩;exact⟨_,IY rfl _ _ _,rfl,G.out w4 a q i⟩
theorem tQ (n:Int)(w:GE):GR GD 122 #[.int .i64 n] w λe w'=>e=.returned (.int .i64 (tn n))/\w'=w:=by
 by_cases h1:n=1
 ·subst h1;go_enter Tryz.func122,Tryz.ntmps122;go_wp2;go_ret;exact⟨rfl,rfl⟩
 ·by_cases h2:n=2
  ·subst h2;go_enter Tryz.func122,Tryz.ntmps122;go_wp2;go_ret;exact⟨rfl,rfl⟩
  ·by_cases a:n=10
   ·subst a;go_enter Tryz.func122,Tryz.ntmps122;go_wp2;go_ret;exact⟨rfl,rfl⟩
   ·have e:tn n=1:=by simp[tn,h1,h2,a]
    rw[e];go_enter Tryz.func122,Tryz.ntmps122;go_wp2;go_ret;exact⟨rfl,rfl⟩
theorem sI (n:Int)(w:GE):GR GD 123 #[.int .i64 n] w λe w'=>e=.returned (.int .i64 (tE n))/\w'=w:=by
 by_cases h1:n=1
 ·subst h1;go_enter Tryz.func123,Tryz.ntmps123;go_wp2;go_ret;exact⟨rfl,rfl⟩
 ·by_cases h2:n=2
  ·subst h2;go_enter Tryz.func123,Tryz.ntmps123;go_wp2;go_ret;exact⟨rfl,rfl⟩
  ·have e:tE n=1:=by simp[tE,h1,h2]
   rw[e];go_enter Tryz.func123,Tryz.ntmps123;go_wp2;go_ret;exact⟨rfl,rfl⟩
theorem lW {f:Fs}(h:f.len=1):∃x,f=Fs.ex x .nil:=by
 cases f using Fs.on with
 | nil=>simp[Fs.len] at h
 | cons k n nm a ks r =>
  cases r using Fs.on with
  | nil=>exact⟨⟨k,n,nm,a,ks⟩,rfl⟩
  | cons=>simp[Fs.len] at h
theorem iv {f:Fs}(h:f.len=2):∃x y,f=Fs.ex x (Fs.ex y .nil):=by
 cases f using Fs.on with
 | nil=>simp[Fs.len] at h
 | cons k n nm a ks r =>
  obtain⟨y,rfl⟩:=lW (f:=r) (by simp[Fs.len] at h;exact h);exact⟨⟨k,n,nm,a,ks⟩,y,rfl⟩
theorem kU {f:Fs}(h:f.len=3):∃x y z,f=Fs.ex x (Fs.ex y (Fs.ex z .nil)):=by
 cases f using Fs.on with
 | nil=>simp[Fs.len] at h
 | cons k n nm a ks r =>
  obtain⟨y,z,rfl⟩:=iv (f:=r) (by simp[Fs.len] at h;exact h);exact⟨⟨k,n,nm,a,ks⟩,y,z,rfl⟩
theorem li {k n:Int}{nm:List UInt8}{len:Nat}(h:eg k n nm len=true):(k=19->len=3)/\(k=26->len=1)/\(8<=k->k<=18->len=2)/\(k=21->len=2/\1<=n/\n<=6)/\(k=20->1<=n/\n<=10)/\(k=5\/k=3->0<=n)/\(k=22\/k=23->len=0)/\(k=1\/k=2\/k=3\/k=5->len=0):=by
 unfold eg at h;refine⟨λe=>?_,λe=>?_,λb a=>?_,λe=>?_,λe=>?_,λe=>?_,λe=>?_,λe=>?_⟩
 ·subst e;simp at h;omega
 ·subst e;simp at h;omega
 ·rw[if_neg (by omega),if_neg (by omega),if_neg (by omega),if_neg (by omega),if_pos (by omega)] at h;simp at h;omega
 ·subst e;simp at h;omega
 ·subst e;simp at h;omega
 ·rcases e with rfl|rfl<;>simp at h<;>omega
 ·rcases e with rfl|rfl<;>simp at h<;>omega
 ·rcases e with rfl|rfl|rfl|rfl<;>simp at h<;>omega
theorem vq {P:Nat->Prop}{w:GE}{y:Ex}{r:Fs}{ao:Option G1}(h:SlN w P (Fs.ex y r) ao):∃b off ak ck,ao=GB ⟨b,off,GA⟩/\w.cell? ⟨b,off,GA⟩=GB (.int .i64 y.k)/\w.cell? ⟨b,off+1,GA⟩=GB (.int .i64 y.n)/\w.cell? ⟨b,off+2,GA⟩=GB (stv y.nm)/\w.cell? ⟨b,off+3,GA⟩=GB (.slice ak y.kids.len ck)/\SlN w P y.kids ak:=by
 obtain⟨b,off,ak,ck,h1,h2,d,c,h5,a⟩:=SlN.kidP (x:=.nil) (r:=r) (y:=y) h 0 rfl;exact⟨b,off,ak,ck,h1,h2,d,c,h5,a⟩
theorem DM {P:Nat->Prop}{w:GE}{x y:Ex}{r:Fs}{ao:Option G1}(h:SlN w P (Fs.ex x (Fs.ex y r)) ao):∃b off ak ck,ao=GB ⟨b,off,GA⟩/\w.cell? ⟨b,off+4,GA⟩=GB (.int .i64 y.k)/\w.cell? ⟨b,off+5,GA⟩=GB (.int .i64 y.n)/\w.cell? ⟨b,off+6,GA⟩=GB (stv y.nm)/\w.cell? ⟨b,off+7,GA⟩=GB (.slice ak y.kids.len ck)/\SlN w P y.kids ak:=by
 obtain⟨b,off,ak,ck,h1,h2,d,c,h5,a⟩:=SlN.kidP (x:=one x) (r:=r) (y:=y) h 1 rfl;exact⟨b,off,ak,ck,h1,h2,d,c,h5,a⟩
theorem dW {w:GE}{b:Nat}{e d c a:GJ}{t:Hl}(h:w.heap[b]?=GB (.cells #[e,d,c,a] t)):(w.cell? ⟨b,0,GA⟩=GB e/\w.cell? ⟨b,1,GA⟩=GB d/\w.cell? ⟨b,2,GA⟩=GB c/\w.cell? ⟨b,3,GA⟩=GB a)/\∀ j,w.frozen? ⟨b,j,GA⟩=false:=by
 refine⟨⟨?_,?_,?_,?_⟩,λj=>?_⟩<;>simp[JE,JP,h]
theorem eo {nc:Nat}{x:Ex}{r:Fs}(h:okF nc (Fs.ex x r)):okE nc x/\okF nc r:=⟨⟨h.1,h.2.1⟩,h.2.2⟩
theorem eC (x:Ex)(r:Fs):(Fs.ex x r).size=x.kids.size+r.size+1:=rfl
theorem lz (x:Ex)(r:Fs):kdF (Fs.ex x r)=kdE x::kdF r:=rfl
theorem kh (nc N:Nat):∀ (e:Ex) (ao:Option G1) (cap:Nat) (w:GE),e.kids.size<N->okE nc e->SnA w e.kids ao ->
  GR GD 75 #[exN e ao cap] w λr w'=>r=.returned (.int .i64 (kdE e))/\GK w.heap.size w w':=by
 induction N with
 | zero=>intro e ao cap w o;omega
 | succ N F =>
  intro e ao cap w o M S;obtain⟨k,n,nm,a,ks⟩:=e;obtain⟨⟨u,-,-⟩,q⟩:=M;simp only at o u q S;rw[dS];simp only;have j:=li u;by_cases E:k=19
  ·subst E;have f:=j.1 rfl;rw[f];obtain⟨x,y,z,i⟩:=kU f;have A:=S;rw[i] at A q o;obtain⟨w1,c⟩:=exq (w.alloc (zNv 19 n nm ao 3 cap));obtain⟨g,d⟩:=exq w.heap.size;have h:GK w.heap.size w w1:=by rw[c];exact b1 _ _
   have l:w1.heap[g]?=GB (zNv 19 n nm ao 3 cap):=by rw[c,d];exact GH _ _
   obtain⟨⟨c0,c1,c2,c3⟩,-⟩:=dW l;have s:=GL d;have p:=GL h;obtain⟨b,off,ak,ck,rfl,L,K,J,I,G⟩:=DM (A.below h);have m:kdE ⟨19,n,nm,a,ks⟩=kdE y:=by simp only[kdE,i,lz];simp[kdN]
   rw[m];have t:=F y ak ck w1 (by simp only[eC] at o;omega) (eo (eo q).2).1 G;rw[dS] at t;clear h S A i q o d l m j u;go_enter Tryz.func75,Tryz.ntmps75;go_upto_region 1 with fail;rw[<-c,<-s.out];clear c;go_wp2_with fail;refine t.mono ?_;rintro r w2 ⟨rfl,H⟩;go_wp2;go_ret;exact⟨rfl,p.out.trans (H.mono p.out.size)⟩
  by_cases B:k=26
  ·subst B;have f:=j.2.1 rfl;rw[f];obtain⟨x,i⟩:=lW f;have A:=S;rw[i] at A q o;obtain⟨w1,c⟩:=exq (w.alloc (zNv 26 n nm ao 1 cap));obtain⟨g,d⟩:=exq w.heap.size;have h:GK w.heap.size w w1:=by rw[c];exact b1 _ _
   have l:w1.heap[g]?=GB (zNv 26 n nm ao 1 cap):=by rw[c,d];exact GH _ _
   obtain⟨⟨c0,c1,c2,c3⟩,-⟩:=dW l;have s:=GL d;have p:=GL h;obtain⟨b,off,ak,ck,rfl,L,K,J,I,G⟩:=vq (A.below h);have m:kdE ⟨26,n,nm,a,ks⟩=kdE x:=by simp only[kdE,i,lz];simp[kdN]
   rw[m];have t:=F x ak ck w1 (by simp only[eC] at o;omega) (eo q).1 G;rw[dS] at t;clear h S A i q o d l m j u;go_enter Tryz.func75,Tryz.ntmps75;go_upto_region 1 with fail;rw[<-c,<-s.out];clear c;go_wp2_with fail;refine t.mono ?_;rintro r w2 ⟨rfl,H⟩;go_wp2;go_ret;exact⟨rfl,p.out.trans (H.mono p.out.size)⟩
  by_cases D:k=20
  ·subst D;have m:kdE ⟨20,n,nm,a,ks⟩=tn n:=by simp[kdE,kdN]
   rw[m];obtain⟨w1,c⟩:=exq (w.alloc (zNv 20 n nm ao ks.len cap));obtain⟨g,d⟩:=exq w.heap.size;have h:GK w.heap.size w w1:=by rw[c];exact b1 _ _
   have l:w1.heap[g]?=GB (zNv 20 n nm ao ks.len cap):=by rw[c,d];exact GH _ _
   obtain⟨⟨c0,c1,c2,c3⟩,-⟩:=dW l;have s:=GL d;have p:=GL h;have t:=tQ n w1;clear h S q o d l m j u;go_enter Tryz.func75,Tryz.ntmps75;go_upto_region 1 with fail;rw[<-c,<-s.out];clear c;go_wp2_with fail;refine t.mono ?_;rintro r w2 ⟨rfl,v⟩;subst v;go_wp2;go_ret;exact⟨rfl,p.out⟩
  by_cases C:k=21
  ·subst C;have m:kdE ⟨21,n,nm,a,ks⟩=tE n:=by simp[kdE,kdN]
   rw[m];obtain⟨w1,c⟩:=exq (w.alloc (zNv 21 n nm ao ks.len cap));obtain⟨g,d⟩:=exq w.heap.size;have h:GK w.heap.size w w1:=by rw[c];exact b1 _ _
   have l:w1.heap[g]?=GB (zNv 21 n nm ao ks.len cap):=by rw[c,d];exact GH _ _
   obtain⟨⟨c0,c1,c2,c3⟩,-⟩:=dW l;have s:=GL d;have p:=GL h;have t:=sI n w1;clear h S q o d l m j u;go_enter Tryz.func75,Tryz.ntmps75;go_upto_region 1 with fail;rw[<-c,<-s.out];clear c;go_wp2_with fail;refine t.mono ?_;rintro r w2 ⟨rfl,v⟩;subst v;go_wp2;go_ret;exact⟨rfl,p.out⟩
  have O:k=1\/k=2\/k=3\/k=5\/k=6\/k=7\/k=8\/k=9\/k=10\/k=11\/k=12\/k=13\/k=14\/k=15\/k=16\/k=17\/k=18\/k=22\/k=23\/k=24\/k=25:=by
   have:=gQ u
   omega
  obtain⟨w1,c⟩:=exq (w.alloc (zNv k n nm ao ks.len cap));obtain⟨g,d⟩:=exq w.heap.size;have h:GK w.heap.size w w1:=by rw[c];exact b1 _ _
  have l:w1.heap[g]?=GB (zNv k n nm ao ks.len cap):=by rw[c,d];exact GH _ _
  obtain⟨⟨c0,c1,c2,c3⟩,-⟩:=dW l;have s:=GL d;have p:=GL h;clear h S q o d l u j F E B D C;rcases O with rfl|rfl|rfl|rfl|rfl|rfl|rfl|rfl|rfl|rfl|rfl|rfl|rfl|rfl|rfl|rfl|rfl|rfl|rfl|rfl|rfl
  all_goals
   go_enter Tryz.func75,Tryz.ntmps75;go_upto_region 1 with fail;rw[<-c,<-s.out];clear c;go_wp2;go_ret;exact⟨rfl,p.out⟩
theorem rK:∀ (f:Fs),(kdF f).length=f.len
 | ⟨GA⟩=>rfl
 | ⟨GB ⟨k,n,nm,a,ks,r⟩⟩=>by simp only[kdF,Fs.len,G5];rw[rK r]
theorem ud {nc:Nat}:∀ {f:Fs},okF nc f->∀ v ∈ kdF f,1<=v/\v<=3
 | ⟨GA⟩,_=>λv c=>by simp[kdF] at c
 | ⟨GB ⟨k,n,nm,a,ks,r⟩⟩,h=>λv c=>by
  have h1:=ud h.2.1;have g:=rK ks;have d:=li h.1.1;simp only[kdF,Iq] at c;rcases c with rfl|c
  ·unfold kdN;split
   ·omega
   ·split
    ·omega
    ·split
     ·rename_i e
      have:=d.1 e
      have b:1<(kdF ks).length:=by omega
      rw[Hb,GI b];exact h1 _ (It b)
     ·split
      ·rename_i e
       have:=d.2.1 e
       have b:0<(kdF ks).length:=by omega
       rw[Hb,GI b];exact h1 _ (It b)
      ·split
       ·unfold tn;split;omega;split<;>omega
       ·split
        ·unfold tE;split<;>omega
        ·omega
  ·exact ud h.2.2 v c
theorem lK {nc:Nat}{e:Ex}(h:okE nc e):1<=kdE e/\kdE e<=3:=ud (f:=one e) (show okF nc (one e) from ⟨h.1,h.2,trivial⟩) (kdE e) (by simp[kdF,one,kdE])
theorem Gc (s:Em)(x:List UInt8):Grw s (s.kn x) 1:=⟨s.mes_kn x,GC _,rfl,id⟩
def opK (k:Int):Prop:=k=6\/k=7\/k=8\/k=9\/k=10\/k=11\/k=12\/k=13\/k=14\/k=15\/k=16\/k=20\/k=22\/k=23\/k=24\/k=25
theorem ta (nc:Nat)(e:Ex)(ao:Option G1)(cap:Nat)(w:GE)(o:Nat->Nat)(rb:Nat)(lv:GJ)(ls:List Int)(s:Em)(hk:opK e.k)(ho:okE nc e)(S:SnO w o e.kids ao)(R:e.kids.len<=268435455)(Q:e.nm.length<=GY)(hm:s.mes+3<=100000000)(X:EmX w o lv ls)(h:EmW w o rb lv s) :
  GR GD 85 #[.pointer (GB ⟨rb,0,GA⟩),exN e ao cap] w (pE w o rb lv s (opr e.k e.n e.nm (kdF e.kids) s) 3):=by
 obtain⟨k,n,nm,a,ks⟩:=e;obtain⟨⟨G,-,-⟩,M⟩:=ho;simp only at G M hk S R Q;rw[dS];simp only;have j:=li G;by_cases h6:k=6
 ·subst h6;have f:opr 6 n nm (kdF ks) s=s.lay 4 0 0:=by simp[opr,jv]
  rw[f];obtain⟨w1,c⟩:=exq (w.alloc (zNv 6 n nm ao ks.len cap));obtain⟨g,d⟩:=exq w.heap.size;have s0:∀ {I:Nat->Prop},dQ I w o w1 (dR w o 0):=λ{I}=>by rw[c];exact et I w o _
  have D:w1.heap[g]?=GB (zNv 6 n nm ao ks.len cap):=by rw[c,d];exact GH _ _
  have C:dR w o 0 g=0:=by rw[d];exact dY (GC _)
  have B:=h.step (s0 (I:=λ_=>False)) noF;have i:=X.step (s0 (I:=λ_=>False)) id;have F:=S.stepO (s0 (I:=λ_=>False)) id;have v:=s0 (I:=I17);generalize dR w o 0=m at *;obtain⟨⟨c0,c1,c2,c3⟩,-⟩:=dW D;have z:=GL d;clear s0 d h X S j G;have t:=fm 4 0 0 w1 m rb lv ls s (by omega) (by omega) (by omega) (by omega) i B;have p:=i.bar 6 (by omega);simp only[IA,Iz] at p;clear f;go_enter IC,Iv;go_upto_region 1 with fail;rw[<-c,<-z.out];clear c;go_wp2_with (first|(go_at_call 41;refine t.mono ?_;rintro e w2 ⟨rfl,u,A,q⟩))
  go_end0
  exact⟨rfl,⟨u,A,v.trans q⟩,(eR s _ _ _).le (by omega)⟩
 by_cases h7:k=7
 ·subst h7;have f:opr 7 n nm (kdF ks) s=s.lay 5 0 0:=by simp[opr,jv]
  rw[f];obtain⟨w1,c⟩:=exq (w.alloc (zNv 7 n nm ao ks.len cap));obtain⟨g,d⟩:=exq w.heap.size;have s0:∀ {I:Nat->Prop},dQ I w o w1 (dR w o 0):=λ{I}=>by rw[c];exact et I w o _
  have D:w1.heap[g]?=GB (zNv 7 n nm ao ks.len cap):=by rw[c,d];exact GH _ _
  have C:dR w o 0 g=0:=by rw[d];exact dY (GC _)
  have B:=h.step (s0 (I:=λ_=>False)) noF;have i:=X.step (s0 (I:=λ_=>False)) id;have F:=S.stepO (s0 (I:=λ_=>False)) id;have v:=s0 (I:=I17);generalize dR w o 0=m at *;obtain⟨⟨c0,c1,c2,c3⟩,-⟩:=dW D;have z:=GL d;clear s0 d h X S j G;have t:=fm 5 0 0 w1 m rb lv ls s (by omega) (by omega) (by omega) (by omega) i B;have p:=i.bar 7 (by omega);simp only[IA,Iz] at p;clear f;go_enter IC,Iv;go_upto_region 1 with fail;rw[<-c,<-z.out];clear c;go_wp2_with (first|(go_at_call 41;refine t.mono ?_;rintro e w2 ⟨rfl,u,A,q⟩))
  go_end0
  exact⟨rfl,⟨u,A,v.trans q⟩,(eR s _ _ _).le (by omega)⟩
 by_cases h8:k=8
 ·subst h8;have f:opr 8 n nm (kdF ks) s=s.lay 6 0 0:=by simp[opr,jv]
  rw[f];obtain⟨w1,c⟩:=exq (w.alloc (zNv 8 n nm ao ks.len cap));obtain⟨g,d⟩:=exq w.heap.size;have s0:∀ {I:Nat->Prop},dQ I w o w1 (dR w o 0):=λ{I}=>by rw[c];exact et I w o _
  have D:w1.heap[g]?=GB (zNv 8 n nm ao ks.len cap):=by rw[c,d];exact GH _ _
  have C:dR w o 0 g=0:=by rw[d];exact dY (GC _)
  have B:=h.step (s0 (I:=λ_=>False)) noF;have i:=X.step (s0 (I:=λ_=>False)) id;have F:=S.stepO (s0 (I:=λ_=>False)) id;have v:=s0 (I:=I17);generalize dR w o 0=m at *;obtain⟨⟨c0,c1,c2,c3⟩,-⟩:=dW D;have z:=GL d;clear s0 d h X S j G;have t:=fm 6 0 0 w1 m rb lv ls s (by omega) (by omega) (by omega) (by omega) i B;have p:=i.bar 8 (by omega);simp only[IA,Iz] at p;clear f;go_enter IC,Iv;go_upto_region 1 with fail;rw[<-c,<-z.out];clear c;go_wp2_with (first|(go_at_call 41;refine t.mono ?_;rintro e w2 ⟨rfl,u,A,q⟩))
  go_end0
  exact⟨rfl,⟨u,A,v.trans q⟩,(eR s _ _ _).le (by omega)⟩
 by_cases h9:k=9
 ·subst h9;have f:opr 9 n nm (kdF ks) s=s.lay 7 0 0:=by simp[opr,jv]
  rw[f];obtain⟨w1,c⟩:=exq (w.alloc (zNv 9 n nm ao ks.len cap));obtain⟨g,d⟩:=exq w.heap.size;have s0:∀ {I:Nat->Prop},dQ I w o w1 (dR w o 0):=λ{I}=>by rw[c];exact et I w o _
  have D:w1.heap[g]?=GB (zNv 9 n nm ao ks.len cap):=by rw[c,d];exact GH _ _
  have C:dR w o 0 g=0:=by rw[d];exact dY (GC _)
  have B:=h.step (s0 (I:=λ_=>False)) noF;have i:=X.step (s0 (I:=λ_=>False)) id;have F:=S.stepO (s0 (I:=λ_=>False)) id;have v:=s0 (I:=I17);generalize dR w o 0=m at *;obtain⟨⟨c0,c1,c2,c3⟩,-⟩:=dW D;have z:=GL d;clear s0 d h X S j G;have t:=fm 7 0 0 w1 m rb lv ls s (by omega) (by omega) (by omega) (by omega) i B;have p:=i.bar 9 (by omega);simp only[IA,Iz] at p;clear f;go_enter IC,Iv;go_upto_region 1 with fail;rw[<-c,<-z.out];clear c;go_wp2_with (first|(go_at_call 41;refine t.mono ?_;rintro e w2 ⟨rfl,u,A,q⟩))
  go_end0
  exact⟨rfl,⟨u,A,v.trans q⟩,(eR s _ _ _).le (by omega)⟩
 by_cases am:k=10
 ·subst am;have f:opr 10 n nm (kdF ks) s=s.lay 8 0 0:=by simp[opr,jv]
  rw[f];obtain⟨w1,c⟩:=exq (w.alloc (zNv 10 n nm ao ks.len cap));obtain⟨g,d⟩:=exq w.heap.size;have s0:∀ {I:Nat->Prop},dQ I w o w1 (dR w o 0):=λ{I}=>by rw[c];exact et I w o _
  have D:w1.heap[g]?=GB (zNv 10 n nm ao ks.len cap):=by rw[c,d];exact GH _ _
  have C:dR w o 0 g=0:=by rw[d];exact dY (GC _)
  have B:=h.step (s0 (I:=λ_=>False)) noF;have i:=X.step (s0 (I:=λ_=>False)) id;have F:=S.stepO (s0 (I:=λ_=>False)) id;have v:=s0 (I:=I17);generalize dR w o 0=m at *;obtain⟨⟨c0,c1,c2,c3⟩,-⟩:=dW D;have z:=GL d;clear s0 d h X S j G;have t:=fm 8 0 0 w1 m rb lv ls s (by omega) (by omega) (by omega) (by omega) i B;have p:=i.bar 10 (by omega);simp only[IA,Iz] at p;clear f;go_enter IC,Iv;go_upto_region 1 with fail;rw[<-c,<-z.out];clear c;go_wp2_with (first|(go_at_call 41;refine t.mono ?_;rintro e w2 ⟨rfl,u,A,q⟩))
  go_end0
  exact⟨rfl,⟨u,A,v.trans q⟩,(eR s _ _ _).le (by omega)⟩
 by_cases al:k=11
 ·subst al;have f:opr 11 n nm (kdF ks) s=s.lay 9 0 0:=by simp[opr,jv]
  rw[f];obtain⟨w1,c⟩:=exq (w.alloc (zNv 11 n nm ao ks.len cap));obtain⟨g,d⟩:=exq w.heap.size;have s0:∀ {I:Nat->Prop},dQ I w o w1 (dR w o 0):=λ{I}=>by rw[c];exact et I w o _
  have D:w1.heap[g]?=GB (zNv 11 n nm ao ks.len cap):=by rw[c,d];exact GH _ _
  have C:dR w o 0 g=0:=by rw[d];exact dY (GC _)
  have B:=h.step (s0 (I:=λ_=>False)) noF;have i:=X.step (s0 (I:=λ_=>False)) id;have F:=S.stepO (s0 (I:=λ_=>False)) id;have v:=s0 (I:=I17);generalize dR w o 0=m at *;obtain⟨⟨c0,c1,c2,c3⟩,-⟩:=dW D;have z:=GL d;clear s0 d h X S j G;have t:=fm 9 0 0 w1 m rb lv ls s (by omega) (by omega) (by omega) (by omega) i B;have p:=i.bar 11 (by omega);simp only[IA,Iz] at p;clear f;go_enter IC,Iv;go_upto_region 1 with fail;rw[<-c,<-z.out];clear c;go_wp2_with (first|(go_at_call 41;refine t.mono ?_;rintro e w2 ⟨rfl,u,A,q⟩))
  go_end0
  exact⟨rfl,⟨u,A,v.trans q⟩,(eR s _ _ _).le (by omega)⟩
 by_cases aj:k=12
 ·subst aj;have f:opr 12 n nm (kdF ks) s=s.lay 10 0 0:=by simp[opr,jv]
  rw[f];obtain⟨w1,c⟩:=exq (w.alloc (zNv 12 n nm ao ks.len cap));obtain⟨g,d⟩:=exq w.heap.size;have s0:∀ {I:Nat->Prop},dQ I w o w1 (dR w o 0):=λ{I}=>by rw[c];exact et I w o _
  have D:w1.heap[g]?=GB (zNv 12 n nm ao ks.len cap):=by rw[c,d];exact GH _ _
  have C:dR w o 0 g=0:=by rw[d];exact dY (GC _)
  have B:=h.step (s0 (I:=λ_=>False)) noF;have i:=X.step (s0 (I:=λ_=>False)) id;have F:=S.stepO (s0 (I:=λ_=>False)) id;have v:=s0 (I:=I17);generalize dR w o 0=m at *;obtain⟨⟨c0,c1,c2,c3⟩,-⟩:=dW D;have z:=GL d;clear s0 d h X S j G;have t:=fm 10 0 0 w1 m rb lv ls s (by omega) (by omega) (by omega) (by omega) i B;have p:=i.bar 12 (by omega);simp only[IA,Iz] at p;clear f;go_enter IC,Iv;go_upto_region 1 with fail;rw[<-c,<-z.out];clear c;go_wp2_with (first|(go_at_call 41;refine t.mono ?_;rintro e w2 ⟨rfl,u,A,q⟩))
  go_end0
  exact⟨rfl,⟨u,A,v.trans q⟩,(eR s _ _ _).le (by omega)⟩
 by_cases ai:k=13
 ·subst ai;have J:=j.2.2.1 (by omega) (by omega);rw[J];obtain⟨x,y,E⟩:=iv J;have P:okE nc x:=by rw[E] at M;exact(eo M).1
  have Z:=lK P;obtain⟨L,K⟩:∃L:Nat,(L:Int)=kdE x:=⟨(kdE x).toNat,by omega⟩;have f:opr 13 n nm (kdF ks) s=s.lay 11 0 L:=by rw[E,lz];simp[opr,<-K]
  rw[f];rw[E] at S;obtain⟨w1,c⟩:=exq (w.alloc (zNv 13 n nm ao 2 cap));obtain⟨g,d⟩:=exq w.heap.size;have s0:∀ {I:Nat->Prop},dQ I w o w1 (dR w o 0):=λ{I}=>by rw[c];exact et I w o _
  have D:w1.heap[g]?=GB (zNv 13 n nm ao 2 cap):=by rw[c,d];exact GH _ _
  have C:dR w o 0 g=0:=by rw[d];exact dY (GC _)
  have B:=h.step (s0 (I:=λ_=>False)) noF;have i:=X.step (s0 (I:=λ_=>False)) id;have F:=S.stepO (s0 (I:=λ_=>False)) id;have v:=s0 (I:=I17);generalize dR w o 0=m at *;obtain⟨⟨c0,c1,c2,c3⟩,-⟩:=dW D;have z:=GL d;clear s0 d h X S j G;obtain⟨b,off,ak,ck,rfl,x0,x1,x2,x3,T⟩:=vq F;have O:=kh nc (x.kids.size+1) x ak ck w1 (by omega) P T.all;rw[dS,<-K] at O;have Y:L<=3:=by omega
  clear f E F T K Z J;go_enter IC,Iv;go_upto_region 1 with fail;rw[<-c,<-z.out];clear c;go_wp2_with fail;refine O.mono ?_;rintro r H ⟨rfl,N⟩;have t:=fm 11 0 L H m rb lv ls s (by omega) (by omega) (by omega) (by omega) (i.below N) (B.below N);have SB:dQ I17 w1 m H m:=dQ.ofBelow m N;clear O;go_wp2_with (first|(go_at_call 41;refine t.mono ?_;rintro e w2 ⟨rfl,u,A,q⟩))
  go_end0
  exact⟨rfl,⟨u,A,(v.trans SB).trans q⟩,(eR s _ _ _).le (by omega)⟩
 by_cases ah:k=14
 ·subst ah;have J:=j.2.2.1 (by omega) (by omega);rw[J];obtain⟨x,y,E⟩:=iv J;have P:okE nc x:=by rw[E] at M;exact(eo M).1
  have Z:=lK P;obtain⟨L,K⟩:∃L:Nat,(L:Int)=kdE x:=⟨(kdE x).toNat,by omega⟩;have f:opr 14 n nm (kdF ks) s=(s.lay 11 0 L).lay 5 0 0:=by rw[E,lz];simp[opr,<-K]
  rw[f];rw[E] at S;obtain⟨w1,c⟩:=exq (w.alloc (zNv 14 n nm ao 2 cap));obtain⟨g,d⟩:=exq w.heap.size;have s0:∀ {I:Nat->Prop},dQ I w o w1 (dR w o 0):=λ{I}=>by rw[c];exact et I w o _
  have D:w1.heap[g]?=GB (zNv 14 n nm ao 2 cap):=by rw[c,d];exact GH _ _
  have C:dR w o 0 g=0:=by rw[d];exact dY (GC _)
  have B:=h.step (s0 (I:=λ_=>False)) noF;have i:=X.step (s0 (I:=λ_=>False)) id;have F:=S.stepO (s0 (I:=λ_=>False)) id;have v:=s0 (I:=I17);generalize dR w o 0=m at *;obtain⟨⟨c0,c1,c2,c3⟩,-⟩:=dW D;have z:=GL d;clear s0 d h X S j G;obtain⟨b,off,ak,ck,rfl,x0,x1,x2,x3,T⟩:=vq F;have O:=kh nc (x.kids.size+1) x ak ck w1 (by omega) P T.all;rw[dS,<-K] at O;have Y:L<=3:=by omega
  clear f E F T K Z J;go_enter IC,Iv;go_upto_region 1 with fail;rw[<-c,<-z.out];clear c;go_wp2_with fail;refine O.mono ?_;rintro r H ⟨rfl,N⟩;have t:=fm 11 0 L H m rb lv ls s (by omega) (by omega) (by omega) (by omega) (i.below N) (B.below N);have SB:dQ I17 w1 m H m:=dQ.ofBelow m N;clear O;go_upto_region 7 with (first|(go_at_call 41;refine t.mono ?_;rintro e w2 ⟨rfl,u,A,q⟩))
  have gl:=eR s 11 0 L;have an:=fm 5 0 0 w2 u rb lv ls (s.lay 11 0 L) (by omega) (by omega) (by omega) (by have:=gl.mes;omega) ((i.below N).step q (by decide)) A;clear t;go_wp2_with (first|(go_at_call 41;refine an.mono ?_;rintro e w3 ⟨rfl,o3,E3,S3⟩))
  go_end0
  exact⟨rfl,⟨o3,E3,((v.trans SB).trans q).trans S3⟩,(gl.trans (eR _ _ _ _)).le (by omega)⟩
 by_cases ag:k=15
 ·subst ag;have f:opr 15 n nm (kdF ks) s=s.lay 12 0 0:=by simp[opr]
  rw[f];obtain⟨w1,c⟩:=exq (w.alloc (zNv 15 n nm ao ks.len cap));obtain⟨g,d⟩:=exq w.heap.size;have s0:∀ {I:Nat->Prop},dQ I w o w1 (dR w o 0):=λ{I}=>by rw[c];exact et I w o _
  have D:w1.heap[g]?=GB (zNv 15 n nm ao ks.len cap):=by rw[c,d];exact GH _ _
  have C:dR w o 0 g=0:=by rw[d];exact dY (GC _)
  have B:=h.step (s0 (I:=λ_=>False)) noF;have i:=X.step (s0 (I:=λ_=>False)) id;have F:=S.stepO (s0 (I:=λ_=>False)) id;have v:=s0 (I:=I17);generalize dR w o 0=m at *;obtain⟨⟨c0,c1,c2,c3⟩,-⟩:=dW D;have z:=GL d;clear s0 d h X S j G;have t:=fm 12 0 0 w1 m rb lv ls s (by omega) (by omega) (by omega) (by omega) i B;clear f;go_enter IC,Iv;go_upto_region 1 with fail;rw[<-c,<-z.out];clear c;go_wp2_with (first|(go_at_call 41;refine t.mono ?_;rintro e w2 ⟨rfl,u,A,q⟩))
  go_end0
  exact⟨rfl,⟨u,A,v.trans q⟩,(eR s _ _ _).le (by omega)⟩
 by_cases af:k=16
 ·subst af;have f:opr 16 n nm (kdF ks) s=s.lay 12 0 1:=by simp[opr]
  rw[f];obtain⟨w1,c⟩:=exq (w.alloc (zNv 16 n nm ao ks.len cap));obtain⟨g,d⟩:=exq w.heap.size;have s0:∀ {I:Nat->Prop},dQ I w o w1 (dR w o 0):=λ{I}=>by rw[c];exact et I w o _
  have D:w1.heap[g]?=GB (zNv 16 n nm ao ks.len cap):=by rw[c,d];exact GH _ _
  have C:dR w o 0 g=0:=by rw[d];exact dY (GC _)
  have B:=h.step (s0 (I:=λ_=>False)) noF;have i:=X.step (s0 (I:=λ_=>False)) id;have F:=S.stepO (s0 (I:=λ_=>False)) id;have v:=s0 (I:=I17);generalize dR w o 0=m at *;obtain⟨⟨c0,c1,c2,c3⟩,-⟩:=dW D;have z:=GL d;clear s0 d h X S j G;have t:=fm 12 0 1 w1 m rb lv ls s (by omega) (by omega) (by omega) (by omega) i B;clear f;go_enter IC,Iv;go_upto_region 1 with fail;rw[<-c,<-z.out];clear c;go_wp2_with (first|(go_at_call 41;refine t.mono ?_;rintro e w2 ⟨rfl,u,A,q⟩))
  go_end0
  exact⟨rfl,⟨u,A,v.trans q⟩,(eR s _ _ _).le (by omega)⟩
 by_cases ae:k=20
 ·subst ae;have hn:=j.2.2.2.2.1 rfl;obtain⟨n0,W⟩:∃n0:Nat,(n0:Int)=n:=⟨n.toNat,by omega⟩;subst W;have f:opr 20 (n0:Int) nm (kdF ks) s=s.lay 16 n0 0:=by simp[opr]
  rw[f];obtain⟨w1,c⟩:=exq (w.alloc (zNv 20 (n0:Int) nm ao ks.len cap));obtain⟨g,d⟩:=exq w.heap.size;have s0:∀ {I:Nat->Prop},dQ I w o w1 (dR w o 0):=λ{I}=>by rw[c];exact et I w o _
  have D:w1.heap[g]?=GB (zNv 20 (n0:Int) nm ao ks.len cap):=by rw[c,d];exact GH _ _
  have C:dR w o 0 g=0:=by rw[d];exact dY (GC _)
  have B:=h.step (s0 (I:=λ_=>False)) noF;have i:=X.step (s0 (I:=λ_=>False)) id;have F:=S.stepO (s0 (I:=λ_=>False)) id;have v:=s0 (I:=I17);generalize dR w o 0=m at *;obtain⟨⟨c0,c1,c2,c3⟩,-⟩:=dW D;have z:=GL d;clear s0 d h X S j G;have t:=fm 16 n0 0 w1 m rb lv ls s (by omega) (by omega) (by omega) (by omega) i B;clear f;go_enter IC,Iv;go_upto_region 1 with fail;rw[<-c,<-z.out];clear c;go_wp2_with (first|(go_at_call 41;refine t.mono ?_;rintro e w2 ⟨rfl,u,A,q⟩))
  go_end0
  exact⟨rfl,⟨u,A,v.trans q⟩,(eR s _ _ _).le (by omega)⟩
 by_cases ad:k=22
 ·subst ad;have f:opr 22 n nm (kdF ks) s=s.lay 20 0 0:=by simp[opr,jv]
  rw[f];obtain⟨w1,c⟩:=exq (w.alloc (zNv 22 n nm ao ks.len cap));obtain⟨g,d⟩:=exq w.heap.size;have s0:∀ {I:Nat->Prop},dQ I w o w1 (dR w o 0):=λ{I}=>by rw[c];exact et I w o _
  have D:w1.heap[g]?=GB (zNv 22 n nm ao ks.len cap):=by rw[c,d];exact GH _ _
  have C:dR w o 0 g=0:=by rw[d];exact dY (GC _)
  have B:=h.step (s0 (I:=λ_=>False)) noF;have i:=X.step (s0 (I:=λ_=>False)) id;have F:=S.stepO (s0 (I:=λ_=>False)) id;have v:=s0 (I:=I17);generalize dR w o 0=m at *;obtain⟨⟨c0,c1,c2,c3⟩,-⟩:=dW D;have z:=GL d;clear s0 d h X S j G;have t:=fm 20 0 0 w1 m rb lv ls s (by omega) (by omega) (by omega) (by omega) i B;have p:=i.bar 22 (by omega);simp only[IA,Iz] at p;clear f;go_enter IC,Iv;go_upto_region 1 with fail;rw[<-c,<-z.out];clear c;go_wp2_with (first|(go_at_call 41;refine t.mono ?_;rintro e w2 ⟨rfl,u,A,q⟩))
  go_end0
  exact⟨rfl,⟨u,A,v.trans q⟩,(eR s _ _ _).le (by omega)⟩
 by_cases ac:k=23
 ·subst ac;have f:opr 23 n nm (kdF ks) s=(s.kn nm).lay 21 (s.ns.idxOf nm) 0:=by simp[opr]
  rw[f];obtain⟨w1,c⟩:=exq (w.alloc (zNv 23 n nm ao ks.len cap));obtain⟨g,d⟩:=exq w.heap.size;have s0:∀ {I:Nat->Prop},dQ I w o w1 (dR w o 0):=λ{I}=>by rw[c];exact et I w o _
  have D:w1.heap[g]?=GB (zNv 23 n nm ao ks.len cap):=by rw[c,d];exact GH _ _
  have C:dR w o 0 g=0:=by rw[d];exact dY (GC _)
  have B:=h.step (s0 (I:=λ_=>False)) noF;have i:=X.step (s0 (I:=λ_=>False)) id;have F:=S.stepO (s0 (I:=λ_=>False)) id;have v:=s0 (I:=I17);generalize dR w o 0=m at *;obtain⟨⟨c0,c1,c2,c3⟩,-⟩:=dW D;have z:=GL d;clear s0 d h X S j G;have HN:=zv nm w1 m rb lv ls s Q (by omega) i B;have hi:s.ns.idxOf nm<=268435455:=by
   have:=List.idxOf_le_length (a:=nm) (l:=s.ns)
   unfold Em.mes at hm;omega
  have gk:=Gc s nm;clear f;go_enter IC,Iv;go_upto_region 1 with fail;rw[<-c,<-z.out];clear c;go_wp2_with fail;refine HN.mono ?_;rintro e H ⟨rfl,V,ap,U⟩;have t:=fm 21 (s.ns.idxOf nm) 0 H V rb lv ls (s.kn nm) (by omega) hi (by omega) (by have:=gk.mes;omega) (i.step U (by decide)) ap;clear HN;go_wp2_with (first|(go_at_call 41;refine t.mono ?_;rintro e w2 ⟨rfl,u,A,q⟩))
  go_end0
  exact⟨rfl,⟨u,A,(v.trans U).trans q⟩,(gk.trans (eR _ _ _ _)).le (by omega)⟩
 by_cases ab:k=24
 ·subst ab;have f:opr 24 n nm (kdF ks) s=s.lay 22 0 0:=by simp[opr,jv]
  rw[f];obtain⟨w1,c⟩:=exq (w.alloc (zNv 24 n nm ao ks.len cap));obtain⟨g,d⟩:=exq w.heap.size;have s0:∀ {I:Nat->Prop},dQ I w o w1 (dR w o 0):=λ{I}=>by rw[c];exact et I w o _
  have D:w1.heap[g]?=GB (zNv 24 n nm ao ks.len cap):=by rw[c,d];exact GH _ _
  have C:dR w o 0 g=0:=by rw[d];exact dY (GC _)
  have B:=h.step (s0 (I:=λ_=>False)) noF;have i:=X.step (s0 (I:=λ_=>False)) id;have F:=S.stepO (s0 (I:=λ_=>False)) id;have v:=s0 (I:=I17);generalize dR w o 0=m at *;obtain⟨⟨c0,c1,c2,c3⟩,-⟩:=dW D;have z:=GL d;clear s0 d h X S j G;have t:=fm 22 0 0 w1 m rb lv ls s (by omega) (by omega) (by omega) (by omega) i B;have p:=i.bar 24 (by omega);simp only[IA,Iz] at p;clear f;go_enter IC,Iv;go_upto_region 1 with fail;rw[<-c,<-z.out];clear c;go_wp2_with (first|(go_at_call 41;refine t.mono ?_;rintro e w2 ⟨rfl,u,A,q⟩))
  go_end0
  exact⟨rfl,⟨u,A,v.trans q⟩,(eR s _ _ _).le (by omega)⟩
 by_cases aa:k=25
 ·subst aa;have f:opr 25 n nm (kdF ks) s=s.lay 23 ks.len 0:=by simp[opr,rK]
  rw[f];obtain⟨w1,c⟩:=exq (w.alloc (zNv 25 n nm ao ks.len cap));obtain⟨g,d⟩:=exq w.heap.size;have s0:∀ {I:Nat->Prop},dQ I w o w1 (dR w o 0):=λ{I}=>by rw[c];exact et I w o _
  have D:w1.heap[g]?=GB (zNv 25 n nm ao ks.len cap):=by rw[c,d];exact GH _ _
  have C:dR w o 0 g=0:=by rw[d];exact dY (GC _)
  have B:=h.step (s0 (I:=λ_=>False)) noF;have i:=X.step (s0 (I:=λ_=>False)) id;have F:=S.stepO (s0 (I:=λ_=>False)) id;have v:=s0 (I:=I17);generalize dR w o 0=m at *;obtain⟨⟨c0,c1,c2,c3⟩,-⟩:=dW D;have z:=GL d;clear s0 d h X S j G;have t:=fm 23 ks.len 0 w1 m rb lv ls s (by omega) (by omega) (by omega) (by omega) i B;clear f;go_enter IC,Iv;go_upto_region 1 with fail;rw[<-c,<-z.out];clear c;go_wp2_with (first|(go_at_call 41;refine t.mono ?_;rintro e w2 ⟨rfl,u,A,q⟩))
  go_end0
  exact⟨rfl,⟨u,A,v.trans q⟩,(eR s _ _ _).le (by omega)⟩
 exfalso;rcases hk with h|h|h|h|h|h|h|h|h|h|h|h|h|h|h|h<;>contradiction
theorem gT {I:Nat->Prop}{w w':GE}(o:Nat->Nat)(b:GK w.heap.size w w'):dQ I w o w' (dR w o 0):=⟨b.os,b.tape,b.output,b.size,λk a=>ed a,λk a _=>b.block k a⟩
theorem al2 (w:GE)(a b:Obj):((w.alloc a).alloc b).heap[w.heap.size]?=GB a/\((w.alloc a).alloc b).heap[w.heap.size+1]?=GB b/\((w.alloc a).alloc b).heap.size=w.heap.size+2/\GK w.heap.size w ((w.alloc a).alloc b):=by
 refine⟨(In _ _ (by simp)).trans (GH _ _),?_,by simp,((GN _ w).alloc (GC _) _).alloc (by simp) _⟩
 have:=GH (w.alloc a) b
 rw[World.size_alloc] at this;exact this
theorem al3 (w:GE)(a b c:Obj):(((w.alloc a).alloc b).alloc c).heap[w.heap.size]?=GB a/\(((w.alloc a).alloc b).alloc c).heap[w.heap.size+1]?=GB b/\(((w.alloc a).alloc b).alloc c).heap[w.heap.size+2]?=GB c/\(((w.alloc a).alloc b).alloc c).heap.size=w.heap.size+3/\GK w.heap.size w (((w.alloc a).alloc b).alloc c):=by
 obtain⟨h1,h2,e,d⟩:=al2 w a b;refine⟨(In _ _ (by omega)).trans h1,(In _ _ (by omega)).trans h2,?_,by simp,d.alloc (by omega) _⟩
 have:=GH ((w.alloc a).alloc b) c
 rw[e] at this;exact this
theorem al4 (w:GE)(a b c d:Obj):((((w.alloc a).alloc b).alloc c).alloc d).heap[w.heap.size]?=GB a/\((((w.alloc a).alloc b).alloc c).alloc d).heap[w.heap.size+1]?=GB b/\((((w.alloc a).alloc b).alloc c).alloc d).heap[w.heap.size+2]?=GB c/\((((w.alloc a).alloc b).alloc c).alloc d).heap[w.heap.size+3]?=GB d/\((((w.alloc a).alloc b).alloc c).alloc d).heap.size=w.heap.size+4/\GK w.heap.size w ((((w.alloc a).alloc b).alloc c).alloc d):=by
 obtain⟨h1,h2,f,e,h5⟩:=al3 w a b c;refine⟨(In _ _ (by omega)).trans h1,(In _ _ (by omega)).trans h2,(In _ _ (by omega)).trans f,?_,by simp,h5.alloc (by omega) _⟩
 have:=GH (((w.alloc a).alloc b).alloc c) d
 rw[e] at this;exact this
theorem al5 (w:GE)(a b c d e:Obj):(((((w.alloc a).alloc b).alloc c).alloc d).alloc e).heap[w.heap.size]?=GB a/\(((((w.alloc a).alloc b).alloc c).alloc d).alloc e).heap[w.heap.size+1]?=GB b/\(((((w.alloc a).alloc b).alloc c).alloc d).alloc e).heap[w.heap.size+2]?=GB c/\(((((w.alloc a).alloc b).alloc c).alloc d).alloc e).heap[w.heap.size+3]?=GB d/\(((((w.alloc a).alloc b).alloc c).alloc d).alloc e).heap[w.heap.size+4]?=GB e/\(((((w.alloc a).alloc b).alloc c).alloc d).alloc e).heap.size=w.heap.size+5/\GK w.heap.size w (((((w.alloc a).alloc b).alloc c).alloc d).alloc e):=by
 obtain⟨h1,h2,h,g,h5,f⟩:=al4 w a b c d;refine⟨(In _ _ (by omega)).trans h1,(In _ _ (by omega)).trans h2,(In _ _ (by omega)).trans h,(In _ _ (by omega)).trans g,?_,by simp,f.alloc (by omega) _⟩
 have:=GH ((((w.alloc a).alloc b).alloc c).alloc d) e
 rw[h5] at this;exact this
abbrev pt0 (b:Nat):GJ:=.pointer (GB ⟨b,0,GA⟩)
theorem dZ:¬I17 0:=by decide
def jA (nc N:Nat):Prop:=∀ (e:Ex) (ao:Option G1) (cap ar u:Nat) (w:GE) (o:Nat->Nat) (rb:Nat) (lv:GJ) (ls:List Int) (s:Em),e.kids.size<N->okE nc e->ls.length=nc->nc<=256->SnO w o e.kids ao->s.ks.length=ls.length ->
 s.mes+300*(e.kids.size+1)<=100000000->u+3*(e.kids.size+1)<=1000000000->ar+(e.kids.size+1)<=1000000000->s.dp<=1000000001->EmX w o lv ls->EmW w o rb lv s ->
 GR GD 40 #[pt0 rb,exN e ao cap,spV ar u] w (pE w o rb lv s (emE ls e ar u s) (300*(e.kids.size+1)))
structure Cx (rb gw gn ga:Nat)(k n:Int)(nm:List UInt8)(f:Fs)(ao:Option G1)(cap ar u:Nat)(w:GE)(o:Nat->Nat):Prop where
 bw:Blk w o 0 gw (.cells #[pt0 rb] 82)
 bn:Blk w o 0 gn (zNv k n nm ao f.len cap)
 ba:Blk w o 0 ga (.cells #[.int .i64 ar,.int .i64 u] 86)
 sn:SnO w o f ao
theorem Cx.step {I:Nat->Prop}{rb gw gn ga:Nat}{k n:Int}{nm:List UInt8}{f:Fs}{ao:Option G1}{cap ar u:Nat}{w w':GE}{o o':Nat->Nat}(h:Cx rb gw gn ga k n nm f ao cap ar u w o)(x:dQ I w o w' o')(a:¬I 0):Cx rb gw gn ga k n nm f ao cap ar u w' o' :=
 ⟨h.bw.step x a,h.bn.step x a,h.ba.step x a,h.sn.stepO x a⟩
theorem Cx.keeps (rb gw gn ga:Nat)(k n:Int)(nm:List UInt8)(f:Fs)(ao:Option G1)(cap ar u:Nat):ov (Cx rb gw gn ga k n nm f ao cap ar u):=λh x=>h.step x dZ
theorem eP {w:GE}{b:Nat}{x:GJ}{t:Hl}(h:w.heap[b]?=GB (.cells #[x] t)):w.cell? ⟨b,0,GA⟩=GB x:=by simp[JE,h]
abbrev Nd4 (w:GE)(b j:Nat)(y:Ex)(ak:Option G1)(ck:Nat):Prop:=w.cell? ⟨b,j,GA⟩=GB (.int .i64 y.k)/\w.cell? ⟨b,j+1,GA⟩=GB (.int .i64 y.n)/\w.cell? ⟨b,j+2,GA⟩=GB (stv y.nm)/\w.cell? ⟨b,j+3,GA⟩=GB (.slice ak y.kids.len ck)
theorem Nd4.block {w w':GE}{b j:Nat}{y:Ex}{ak:Option G1}{ck:Nat}(h:Nd4 w b j y ak ck)(e:w'.heap[b]?=w.heap[b]?):Nd4 w' b j y ak ck :=
 ⟨(GS (a:=⟨b,j,GA⟩) e).trans h.1,(GS (a:=⟨b,j+1,GA⟩) e).trans h.2.1,(GS (a:=⟨b,j+2,GA⟩) e).trans h.2.2.1,(GS (a:=⟨b,j+3,GA⟩) e).trans h.2.2.2⟩
theorem ic {w:GE}{o:Nat->Nat}{x r:Fs}{y:Ex}{ao:Option G1}(h:SnO w o (x.app (Fs.ex y r)) ao)(i:Nat)(c:x.len=i):∃b off ak ck,ao=GB ⟨b,off,GA⟩/\Nd4 w b (off+i*4) y ak ck/\SnO w o y.kids ak/\∀ {I:Nat->Prop}{w':GE}{o':Nat->Nat},dQ I w o w' o'->¬I 0->Nd4 w' b (off+i*4) y ak ck:=by
 subst c;obtain⟨b,off,ak,ck,rfl,a,j,g,f,e,d,S⟩:=SlN.kidQ h;have N:Nd4 w b (off+x.len*4) y ak ck:=⟨g,f,e,d⟩;exact⟨b,off,ak,ck,rfl,N,S,λx c=>N.block (x.block b a (by rw[j];exact c))⟩
theorem An (nc N:Nat)(Q:jA nc N)(rb gw gn ga:Nat)(k n:Int)(nm:List UInt8)(x y z:Ex)(ao:Option G1)(cap ar u:Nat)(lv:GJ)(ls:List Int)(f:okF nc (Fs.ex x (Fs.ex y (Fs.ex z .nil))))(O:y.kids.size<N)(h:ls.length=nc)(g:nc<=256)(J:u+3*(y.kids.size+1)<=1000000000)(j:ar+(y.kids.size+1)<=1000000000) :
  nG rb lv ls (Cx rb gw gn ga k n nm (Fs.ex x (Fs.ex y (Fs.ex z .nil))) ao cap ar u) 80 #[pt0 gw,pt0 gn,pt0 ga] (emE ls y ar u) (300*(y.kids.size+1)):=by
 intro w o s X E K L M i;obtain⟨bw,bn,ba,sn⟩:=K;have d1:dQ (λ_=>False) w o w.drew o:=(dQ.refl _ w o).drew;obtain⟨b,off,ak,ck,rfl,P,r,A⟩:=ic (x:=one x) sn 1 rfl;have a:(Fs.ex x (Fs.ex y (Fs.ex z .nil))).len=3:=rfl;rw[a] at bn;have cw:=eP bw.1;obtain⟨⟨n0,n1,n2,Y⟩,-⟩:=dW bn.1;obtain⟨a0,a1⟩:=eh ba.1;have C:=Q y ak ck ar u w.drew o rb lv ls s O (eo (eo f).2).1 h g (r.stepO d1 id) i L J j M (X.step d1 id) (E.step d1 noF);rw[dS] at C;have t:dQ I17 w o w.drew o:=(dQ.refl _ w o).drew;have B:Hid (∀ w' o',dQ I17 w.drew o w' o'->w'.cell? ⟨gw,0,GA⟩=GB (pt0 rb)/\w'.cell? ⟨gn,3,GA⟩=GB (.slice (GB ⟨b,off,GA⟩) 3 cap)/\Nd4 w' b (off+4) y ak ck/\w'.cell? ⟨ga,0,GA⟩=GB (.int .i64 ar)/\w'.cell? ⟨ga,1,GA⟩=GB (.int .i64 u)):=λw' o' S=>by
  have c:=t.trans S;exact⟨eP (bw.step c dZ).1,(dW (bn.step c dZ).1).1.2.2.2,A c dZ,(eh (ba.step c dZ).1).1,(eh (ba.step c dZ).1).2⟩
 obtain⟨l,d,q,p,m⟩:=B.out _ _ (dQ.refl I17 w.drew o);obtain⟨W,V,U,T⟩:=P;obtain⟨H,G,F,D⟩:=q;clear bw bn ba sn r a d1 A;go_enter Tryz.func80,Tryz.ntmps80;go_wp2_with fail;go_region_held3 (λwx=>wx.cell? ⟨gw,0,GA⟩=GB (pt0 rb)/\wx.cell? ⟨gn,3,GA⟩=GB (.slice (GB ⟨b,off,GA⟩) 3 cap)/\(wx.cell? ⟨b,off+4,GA⟩=GB (.int .i64 y.k)/\wx.cell? ⟨b,off+4+1,GA⟩=GB (.int .i64 y.n)/\wx.cell? ⟨b,off+4+2,GA⟩=GB (stv y.nm)/\wx.cell? ⟨b,off+4+3,GA⟩=GB (.slice ak y.kids.len ck))/\wx.cell? ⟨ga,0,GA⟩=GB (.int .i64 ar)/\wx.cell? ⟨ga,1,GA⟩=GB (.int .i64 u)) (go_keep) (first|(go_at_call 40;refine C.mono ?_;rintro e w2 ⟨rfl,⟨I,R,v⟩,g2⟩;obtain⟨l,d,⟨H,G,F,D⟩,p,m⟩:=B.out _ _ v))
 all_goals
  go_end0
  exact⟨rfl,⟨I,R,t.trans v⟩,g2⟩
theorem zK (nc N:Nat)(Q:jA nc N)(rb gw gn ga:Nat)(k n:Int)(nm:List UInt8)(x y z:Ex)(ao:Option G1)(cap ar u:Nat)(lv:GJ)(ls:List Int)(f:okF nc (Fs.ex x (Fs.ex y (Fs.ex z .nil))))(O:z.kids.size<N)(h:ls.length=nc)(g:nc<=256)(J:u+3*(z.kids.size+1)<=1000000000)(j:ar+(z.kids.size+1)<=1000000000) :
  nG rb lv ls (Cx rb gw gn ga k n nm (Fs.ex x (Fs.ex y (Fs.ex z .nil))) ao cap ar u) 81 #[pt0 gw,pt0 gn,pt0 ga] (emE ls z ar u) (300*(z.kids.size+1)):=by
 intro w o s X E K L M i;obtain⟨bw,bn,ba,sn⟩:=K;have d1:dQ (λ_=>False) w o w.drew o:=(dQ.refl _ w o).drew;obtain⟨b,off,ak,ck,rfl,P,r,A⟩:=ic (x:=Fs.ex x (one y)) sn 2 rfl;have a:(Fs.ex x (Fs.ex y (Fs.ex z .nil))).len=3:=rfl;rw[a] at bn;have cw:=eP bw.1;obtain⟨⟨n0,n1,n2,Y⟩,-⟩:=dW bn.1;obtain⟨a0,a1⟩:=eh ba.1;have C:=Q z ak ck ar u w.drew o rb lv ls s O (eo (eo (eo f).2).2).1 h g (r.stepO d1 id) i L J j M (X.step d1 id) (E.step d1 noF);rw[dS] at C;have t:dQ I17 w o w.drew o:=(dQ.refl _ w o).drew;have B:Hid (∀ w' o',dQ I17 w.drew o w' o'->w'.cell? ⟨gw,0,GA⟩=GB (pt0 rb)/\w'.cell? ⟨gn,3,GA⟩=GB (.slice (GB ⟨b,off,GA⟩) 3 cap)/\Nd4 w' b (off+8) z ak ck/\w'.cell? ⟨ga,0,GA⟩=GB (.int .i64 ar)/\w'.cell? ⟨ga,1,GA⟩=GB (.int .i64 u)):=λw' o' S=>by
  have c:=t.trans S;exact⟨eP (bw.step c dZ).1,(dW (bn.step c dZ).1).1.2.2.2,A c dZ,(eh (ba.step c dZ).1).1,(eh (ba.step c dZ).1).2⟩
 obtain⟨l,d,q,p,m⟩:=B.out _ _ (dQ.refl I17 w.drew o);obtain⟨W,V,U,T⟩:=P;obtain⟨H,G,F,D⟩:=q;clear bw bn ba sn r a d1 A;go_enter Tryz.func81,Tryz.ntmps81;go_wp2_with fail;go_region_held3 (λwx=>wx.cell? ⟨gw,0,GA⟩=GB (pt0 rb)/\wx.cell? ⟨gn,3,GA⟩=GB (.slice (GB ⟨b,off,GA⟩) 3 cap)/\(wx.cell? ⟨b,off+8,GA⟩=GB (.int .i64 z.k)/\wx.cell? ⟨b,off+8+1,GA⟩=GB (.int .i64 z.n)/\wx.cell? ⟨b,off+8+2,GA⟩=GB (stv z.nm)/\wx.cell? ⟨b,off+8+3,GA⟩=GB (.slice ak z.kids.len ck))/\wx.cell? ⟨ga,0,GA⟩=GB (.int .i64 ar)/\wx.cell? ⟨ga,1,GA⟩=GB (.int .i64 u)) (go_keep) (first|(go_at_call 40;refine C.mono ?_;rintro e w2 ⟨rfl,⟨I,R,v⟩,g2⟩;obtain⟨l,d,⟨H,G,F,D⟩,p,m⟩:=B.out _ _ v))
 all_goals
  go_end0
  exact⟨rfl,⟨I,R,t.trans v⟩,g2⟩
theorem Cm (nc N:Nat)(P:jA nc N)(rb gw gn ga:Nat)(k n:Int)(nm:List UInt8)(x y:Ex)(ao:Option G1)(cap ar u:Nat)(lv:GJ)(ls:List Int)(f:okF nc (Fs.ex x (Fs.ex y .nil)))(M:y.kids.size<N)(h:ls.length=nc)(g:nc<=256)(I:u+3*(y.kids.size+1)<=1000000000)(j:ar+(y.kids.size+1)<=1000000000) :
  nG rb lv ls (Cx rb gw gn ga k n nm (Fs.ex x (Fs.ex y .nil)) ao cap ar u) 124 #[pt0 gw,pt0 gn,pt0 ga] (emE ls y ar u) (300*(y.kids.size+1)):=by
 intro w o s X E K J L i;obtain⟨bw,bn,ba,sn⟩:=K;have d1:dQ (λ_=>False) w o w.drew o:=(dQ.refl _ w o).drew;obtain⟨b,off,ak,ck,rfl,O,r,z⟩:=ic (x:=one x) sn 1 rfl;have a:(Fs.ex x (Fs.ex y .nil)).len=2:=rfl;rw[a] at bn;have cw:=eP bw.1;obtain⟨⟨n0,n1,n2,W⟩,-⟩:=dW bn.1;obtain⟨a0,a1⟩:=eh ba.1;have B:=P y ak ck ar u w.drew o rb lv ls s M (eo (eo f).2).1 h g (r.stepO d1 id) i J I j L (X.step d1 id) (E.step d1 noF);rw[dS] at B;have t:dQ I17 w o w.drew o:=(dQ.refl _ w o).drew;have A:Hid (∀ w' o',dQ I17 w.drew o w' o'->w'.cell? ⟨gw,0,GA⟩=GB (pt0 rb)/\w'.cell? ⟨gn,3,GA⟩=GB (.slice (GB ⟨b,off,GA⟩) 2 cap)/\Nd4 w' b (off+4) y ak ck/\w'.cell? ⟨ga,0,GA⟩=GB (.int .i64 ar)/\w'.cell? ⟨ga,1,GA⟩=GB (.int .i64 u)):=λw' o' S=>by
  have c:=t.trans S;exact⟨eP (bw.step c dZ).1,(dW (bn.step c dZ).1).1.2.2.2,z c dZ,(eh (ba.step c dZ).1).1,(eh (ba.step c dZ).1).2⟩
 obtain⟨l,d,q,p,m⟩:=A.out _ _ (dQ.refl I17 w.drew o);obtain⟨V,U,T,R⟩:=O;obtain⟨G,F,D,C⟩:=q;clear bw bn ba sn r a d1 z;go_enter Tryz.func124,Tryz.ntmps124;go_wp2_with fail;go_region_held3 (λwx=>wx.cell? ⟨gw,0,GA⟩=GB (pt0 rb)/\wx.cell? ⟨gn,3,GA⟩=GB (.slice (GB ⟨b,off,GA⟩) 2 cap)/\(wx.cell? ⟨b,off+4,GA⟩=GB (.int .i64 y.k)/\wx.cell? ⟨b,off+4+1,GA⟩=GB (.int .i64 y.n)/\wx.cell? ⟨b,off+4+2,GA⟩=GB (stv y.nm)/\wx.cell? ⟨b,off+4+3,GA⟩=GB (.slice ak y.kids.len ck))/\wx.cell? ⟨ga,0,GA⟩=GB (.int .i64 ar)/\wx.cell? ⟨ga,1,GA⟩=GB (.int .i64 u)) (go_keep) (first|(go_at_call 40;refine B.mono ?_;rintro e w2 ⟨rfl,⟨H,Q,v⟩,g2⟩;obtain⟨l,d,⟨G,F,D,C⟩,p,m⟩:=A.out _ _ v))
 all_goals
  go_end0
  exact⟨rfl,⟨H,Q,t.trans v⟩,g2⟩
theorem nG.mono {rb:Nat}{lv:GJ}{ls:List Int}{K a:GE->(Nat->Nat)->Prop}{F:FuncId}{c:Array GJ}{t:Em->Em}{n:Nat}(h:nG rb lv ls K F c t n)(b:∀ w o,a w o->K w o):nG rb lv ls a F c t n:=λw o s X E k=>h w o s X E (b w o k)
theorem Dz (rb gw gs ga ar u v:Nat)(lv:GJ)(ls:List Int)(i:v<=1)(a:u<=1000000000) :
  nG rb lv ls (λw o=>Blk w o 0 gw (.cells #[pt0 rb] 82)/\Blk w o 0 gs (.cells #[.int .i64 v] 3)/\Blk w o 0 ga (.cells #[.int .i64 ar,.int .i64 u] 86)) 125 #[pt0 gw,pt0 gs,pt0 ga] (λt=>t.con (v:Nat) 2 u) 2:=by
 intro w o s X E ⟨bw,bs,ba⟩ j d c;have cw:=eP bw.1;have cs:=eP bs.1;obtain⟨a0,a1⟩:=eh ba.1;have g:=fo (v:Nat) 2 ar u w o rb lv ls s (by omega) (by omega) a d (by omega) X E;clear bw bs ba;go_enter Tryz.func125,Tryz.ntmps125;go_wp2_with (first|(go_at_call 74;refine g.mono ?_;rintro e w2 ⟨rfl,b,h,f⟩))
 go_end0
 exact⟨rfl,⟨b,h,f⟩,iH s _ _ _ a⟩
theorem yW:Ent 124:=λ_ _=>by kernel_rfl
theorem Ag:Ent 125:=λ_ _=>by kernel_rfl
def CxI (rb gw gn gs ga:Nat)(k n:Int)(nm:List UInt8)(f:Fs)(ao:Option G1)(cap ar u v:Nat)(w:GE)(o:Nat->Nat):Prop:=Cx rb gw gn ga k n nm f ao cap ar u w o/\Blk w o 0 gs (.cells #[.int .i64 v] 3)
theorem CxI.keeps (rb gw gn gs ga:Nat)(k n:Int)(nm:List UInt8)(f:Fs)(ao:Option G1)(cap ar u v:Nat):ov (CxI rb gw gn gs ga k n nm f ao cap ar u v):=λh x=>⟨h.1.step x dZ,h.2.step x dZ⟩
theorem zg (nc N:Nat)(HP:jA nc N)(k n:Int)(nm:List UInt8)(a:Int)(x y:Ex)(ao:Option G1)(cap op v ar u:Nat)(w:GE)(o:Nat->Nat)(rb:Nat)(lv:GJ)(ls:List Int)(s:Em)(J:op<=255)(hv:v<=1)(p:okF nc (Fs.ex x (Fs.ex y .nil)))(C:x.kids.size<N)(B:y.kids.size<N)(z:ls.length=nc)(r:nc<=256)(hu:u+3*(x.kids.size+y.kids.size+2)<=1000000000)(ab:ar+(x.kids.size+y.kids.size+2)<=1000000000)(S:SnO w o (Fs.ex x (Fs.ex y .nil)) ao)(A:s.ks.length=ls.length)
  (hm:s.mes+(300*(x.kids.size+1)+(300*(y.kids.size+1)+4))<=100000000) (W:s.dp<=1000000001) (X:EmX w o lv ls) (h:EmW w o rb lv s) :
  GR GD 78 #[pt0 rb,exN ⟨k,n,nm,a,Fs.ex x (Fs.ex y .nil)⟩ ao cap,.int .i64 op,.int .i64 v,spV ar u] w (pE w o rb lv s ((emE ls x ar u s).fork op (emE ls y ar u) (λt=>t.con (v:Nat) 2 u)) (300*(x.kids.size+1)+(300*(y.kids.size+1)+4))):=by
 have d:(Fs.ex x (Fs.ex y .nil)).len=2:=rfl;rw[dS];simp only;obtain⟨g,D⟩:=exq w.heap.size;obtain⟨w1,i⟩:=exq ((((w.alloc (.cells #[pt0 rb] 82)).alloc (.cells #[.int .i64 k,.int .i64 n,stv nm,.slice ao (Fs.ex x (Fs.ex y .nil)).len cap] 34)).alloc (.cells #[.int .i64 v] 3)).alloc (.cells #[.int .i64 ar,.int .i64 u] 86));obtain⟨G,z2,z3,z4,z5,F⟩:=al4 w (.cells #[pt0 rb] 82) (.cells #[.int .i64 k,.int .i64 n,stv nm,.slice ao (Fs.ex x (Fs.ex y .nil)).len cap] 34) (.cells #[.int .i64 v] 3) (.cells #[.int .i64 ar,.int .i64 u] 86);rw[<-i,<-D] at G z2 z3 z4 z5 F;have s0:∀ {I:Nat->Prop},dQ I w o w1 (dR w o 0):=λ{I}=>gT o (by rw[<-D];exact F);have c:∀ j,dR w o 0 (g+j)=0:=λj=>dY (by omega);have l:CxI rb g (g+1) (g+2) (g+3) k n nm (Fs.ex x (Fs.ex y .nil)) ao cap ar u v w1 (dR w o 0):=⟨⟨⟨G,c 0⟩,⟨z2,c 1⟩,⟨z4,c 3⟩,S.stepO (s0 (I:=λ_=>False)) id⟩,⟨z3,c 2⟩⟩;have E1:=h.step (s0 (I:=λ_=>False)) noF;have Z:=X.step (s0 (I:=λ_=>False)) id;have S0:=s0 (I:=I17);generalize dR w o 0=f at *;have HG:=GL D;clear s0 c G z2 z3 z4 z5 F h X S D;have d1:dQ (λ_=>False) w1 f w1.drew f:=(dQ.refl _ w1 f).drew;have SD:dQ I17 w1 f w1.drew f:=(dQ.refl _ w1 f).drew;have KD:=l.1.step d1 id;obtain⟨b,off,ak,ck,rfl,NN,Sy,NK⟩:=ic (x:=.nil) l.1.sn 0 rfl;have U:=HP x ak ck ar u w1.drew f rb lv ls s C (eo p).1 z r (Sy.stepO d1 id) A (by omega) (by omega) (by omega) W (Z.step d1 id) (E1.step d1 noF);rw[dS] at U;rw[d] at i ⊢;have T:Hid (∀ w' o',dQ I17 w1.drew f w' o'->w'.cell? ⟨g,0,GA⟩=GB (pt0 rb)/\w'.cell? ⟨g+1,3,GA⟩=GB (.slice (GB ⟨b,off,GA⟩) 2 cap)/\Nd4 w' b off x ak ck/\w'.cell? ⟨g+3,0,GA⟩=GB (.int .i64 ar)/\w'.cell? ⟨g+3,1,GA⟩=GB (.int .i64 u)):=λw' o' S=>by
  have S':=SD.trans S;have q:=l.1.step S' dZ;exact⟨eP q.bw.1,(dW q.bn.1).1.2.2.2,NK S' dZ,(eh q.ba.1).1,(eh q.ba.1).2⟩
 obtain⟨O,H,R,Q,P⟩:=T.out _ _ (dQ.refl I17 w1.drew f);have cw:=eP l.1.bw.1;have n3:=(dW l.1.bn.1).1.2.2.2;rw[d] at n3;obtain⟨a0,a1⟩:=eh l.1.ba.1;obtain⟨x0,x1,x2,x3⟩:=NN;obtain⟨y0,y1,y2,y3⟩:=R;have FK:∀ w2 m s2,CxI rb g (g+1) (g+2) (g+3) k n nm (Fs.ex x (Fs.ex y .nil)) (GB ⟨b,off,GA⟩) cap ar u v w2 m->EmX w2 m lv ls->EmW w2 m rb lv s2->s2.mes+(300*(y.kids.size+1)+2+2)<=100000000->s2.dp<=1000000001->s2.ks.length=ls.length->_:=λw2 m s2 q X2 V K M L =>
  uo op 124 125 #[pt0 g,pt0 (g+1),pt0 (g+3)] #[pt0 g,pt0 (g+2),pt0 (g+3)] (emE ls y ar u) (λt=>t.con (v:Nat) 2 u) (300*(y.kids.size+1)) 2 _ (CxI.keeps _ _ _ _ _ _ _ _ _ _ _ _ _ _) yW Ag w2 m rb lv ls ((Cm nc N HP rb g (g+1) (g+3) k n nm x y (GB ⟨b,off,GA⟩) cap ar u lv ls p B z r (by omega) (by omega)).mono (λ_ _ h=>h.1)) ((Dz rb g (g+2) (g+3) ar u v lv ls hv (by omega)).mono (λ_ _ h=>⟨h.1.bw,h.2,h.1.ba⟩)) s2 J K M L X2 V q
 clear d d1 NK Sy KD E1 p C B;go_enter Tryz.func78,Tryz.ntmps78;go_upto_region 1 with fail;rw[<-i,<-HG.out];clear i;go_region_held3 (λwx=>wx.cell? ⟨g,0,GA⟩=GB (pt0 rb)/\wx.cell? ⟨g+1,3,GA⟩=GB (.slice (GB ⟨b,off,GA⟩) 2 cap)/\(wx.cell? ⟨b,off,GA⟩=GB (.int .i64 x.k)/\wx.cell? ⟨b,off+1,GA⟩=GB (.int .i64 x.n)/\wx.cell? ⟨b,off+2,GA⟩=GB (stv x.nm)/\wx.cell? ⟨b,off+3,GA⟩=GB (.slice ak x.kids.len ck))/\wx.cell? ⟨g+3,0,GA⟩=GB (.int .i64 ar)/\wx.cell? ⟨g+3,1,GA⟩=GB (.int .i64 u)) (go_keep) (first|(go_at_call 40;refine U.mono ?_;rintro e w2 ⟨rfl,⟨m,V,S2⟩,g2⟩;obtain⟨O,H,⟨y0,y1,y2,y3⟩,Q,P⟩:=T.out _ _ S2))
 all_goals
  have E:=SD.trans S2;have HF:=FK w2 m _ ⟨l.1.step E dZ,l.2.step E dZ⟩ (Z.step E dZ) V (by have:=g2.mes;omega) (g2.dp W) (g2.ks.trans A);clear FK U T l;go_wp2_with (first|(go_at_call 79;refine HF.mono ?_;rintro e w4 ⟨rfl,⟨o4,E4,S4⟩,g4⟩))
  go_end0
  exact⟨rfl,⟨o4,E4,(S0.trans E).trans S4⟩,(g2.trans g4).le (by omega)⟩
theorem EI (nc N:Nat)(HP:jA nc N)(n:Int)(nm:List UInt8)(a:Int)(x:Ex)(ao:Option G1)(cap ar u:Nat)(w:GE)(o:Nat->Nat)(rb:Nat)(lv:GJ)(ls:List Int)(s:Em)(H:okE nc ⟨26,n,nm,a,Fs.ex x .nil⟩)(ah:x.kids.size<N)(L:ls.length=nc)(ag:nc<=256)(hu:u+3*(x.kids.size+1)<=1000000000)(au:ar+(x.kids.size+1)<=1000000000)(S:SnO w o (Fs.ex x .nil) ao)(M:s.ks.length=ls.length)
  (hm:s.mes+(300*(x.kids.size+1)+2)<=100000000) (hd:s.dp<=1000000001) (X:EmX w o lv ls) (h:EmW w o rb lv s) :
  GR GD 82 #[pt0 rb,exN ⟨26,n,nm,a,Fs.ex x .nil⟩ ao cap,spV ar u] w (pE w o rb lv s (((emE ls x ar u ((s.cel n.toNat (kdE x)).lay 17 n.toNat 0)).lay 18 n.toNat 0).land s.ws.length) (300*(x.kids.size+1)+2)):=by
 have V:=H.2;have hn:0<=n/\n<(nc:Int):=H.1.2.2.1 rfl;obtain⟨n0,K⟩:∃n0:Nat,(n0:Int)=n:=⟨n.toNat,by omega⟩;subst K;rw[If];have ap:=lK (eo V).1;have t:(Fs.ex x .nil).len=1:=rfl;have l:=λw2 (S2:SnA w2 (Fs.ex x .nil) ao)=>kh nc ((Fs.ex x .nil).size+1) ⟨26,(n0:Int),nm,a,Fs.ex x .nil⟩ ao cap w2 (by show (Fs.ex x .nil).size < _;omega) H S2;have Y:kdE ⟨26,(n0:Int),nm,a,Fs.ex x .nil⟩=kdE x:=by simp only[kdE,lz];simp[kdN]
 rw[dS,Y] at l;rw[dS];simp only at l ⊢;obtain⟨g,hg⟩:=exq w.heap.size;obtain⟨w1,m⟩:=exq ((w.alloc (.cells #[.int .i64 26,.int .i64 n0,stv nm,.slice ao (Fs.ex x .nil).len cap] 34)).alloc (.cells #[.int .i64 ar,.int .i64 u] 86));obtain⟨z1,z2,z5,z6⟩:=al2 w (.cells #[.int .i64 26,.int .i64 n0,stv nm,.slice ao (Fs.ex x .nil).len cap] 34) (.cells #[.int .i64 ar,.int .i64 u] 86);rw[<-m,<-hg] at z1 z2 z5 z6;have s0:∀ {I:Nat->Prop},dQ I w o w1 (dR w o 0):=λ{I}=>gT o (by rw[<-hg];exact z6);have J:∀ j,dR w o 0 (g+j)=0:=λj=>dY (by omega);have K1:Blk w1 (dR w o 0) 0 g (.cells #[.int .i64 26,.int .i64 n0,stv nm,.slice ao (Fs.ex x .nil).len cap] 34)/\Blk w1 (dR w o 0) 0 (g+1) (.cells #[.int .i64 ar,.int .i64 u] 86):=⟨⟨z1,J 0⟩,⟨z2,J 1⟩⟩;have Q:=S.stepO (s0 (I:=λ_=>False)) id;have E1:=h.step (s0 (I:=λ_=>False)) noF;have X1:=X.step (s0 (I:=λ_=>False)) id;have S0:=s0 (I:=I17);generalize dR w o 0=c at *;have HG:=GL hg;clear s0 J z1 z2 z5 z6 h X S hg;rw[t] at m K1 l ⊢;have d1:dQ (λ_=>False) w1 c w1.drew c:=(dQ.refl _ w1 c).drew;have HK:=l w1.drew (Q.all.below (GN _ w1).drew);obtain⟨b,off,ak,ck,rfl,NN,Sy,NK⟩:=ic (x:=.nil) Q 0 rfl;obtain⟨h1,h2,h3,vw,vc,vn,vk,mc,mn,U,q1,q2,q3,q4,q5,q6⟩:=E1;obtain⟨gk,y,rfl,D,-,-,Z,ab,aa⟩:=q4.pos (by rw[M,L];omega);have W:rb≠gk:=λe=>by have:=U.2;rw[e,D] at this;cases this
 have al:g≠gk:=λe=>by have:=K1.1.2;rw[e,D] at this;cases this
 have K:n0<s.ks.length:=by rw[M,L];omega
 have HS:Hid (∀ w2,GK w1.heap.size w1 w2->EmW (w2.setCell ⟨gk,n0,GA⟩ (.int .i64 (kdE x))) c rb lv (s.cel n0 (kdE x))/\dQ I17 w1 c (w2.setCell ⟨gk,n0,GA⟩ (.int .i64 (kdE x))) c):=λw2 B=>by
  have A:=dQ.ofBelow (I:=λ_=>False) c B;have d:dQ (λk=>k=5) w1 c (w2.setCell ⟨gk,n0,GA⟩ (.int .i64 (kdE x))) c:=(dQ.ofBelow c B).setCell ⟨gk,n0,GA⟩ _ D;refine⟨⟨h1,h2,h3,_,_,_,_,mc,mn,U.step d (by decide),q1.step d (by decide),q2.step d (by decide),q3.step d (by decide),?_,q5.step d (by decide),q6.step d (by decide)⟩,d.mono (fx (by decide))⟩;have r:=(q4.step A id).store n0 (.int .i64 (kdE x));have P:eiV (s.cel n0 (kdE x)).ks=(eiV s.ks).set n0 (.int .i64 (kdE x)):=by simp[eiV,Em.cel]
  have O:(s.cel n0 (kdE x)).ks.length=s.ks.length:=by simp[Em.cel]
  rw[P,O];exact r
 have z:Hid (∀ w' o',dQ I17 w1 c w' o'->w'.cell? ⟨g,0,GA⟩=GB (.int .i64 26)/\w'.cell? ⟨g,1,GA⟩=GB (.int .i64 n0)/\w'.cell? ⟨g,2,GA⟩=GB (stv nm)/\w'.cell? ⟨g,3,GA⟩=GB (.slice (GB ⟨b,off,GA⟩) 1 cap)/\Nd4 w' b off x ak ck/\w'.cell? ⟨g+1,0,GA⟩=GB (.int .i64 ar)/\w'.cell? ⟨g+1,1,GA⟩=GB (.int .i64 u)):=λw' o' S=>by
  obtain⟨⟨e0,e1,P,O⟩,-⟩:=dW (K1.1.step S dZ).1;obtain⟨f0,f1⟩:=eh (K1.2.step S dZ).1;exact⟨e0,e1,P,O,NK S dZ,f0,f1⟩
 have FZ:Hid (∀ w2,GK w1.heap.size w1 w2->w2.cell? ⟨rb,3,GA⟩=GB (.slice (GB ⟨gk,0,GA⟩) s.ks.length y)/\(∃v,w2.cell? ⟨gk,n0,GA⟩=GB v)/\w2.frozen? ⟨gk,n0,GA⟩=false):=λw2 B=>by
  refine⟨(B.cell (p:=⟨rb,3,GA⟩) U.lt).trans (ia U.1).1.2.2.2.1,⟨.int .i64 (s.ks[n0]),?_⟩,?_⟩
  ·rw[B.cell (p:=⟨gk,n0,GA⟩) Z,ab n0 (by omega)];simp[eiV,K]
  ·have e:=B.block gk Z
   have:=aa n0
   unfold JP at this ⊢;rw[e];exact this
 obtain⟨r3,⟨vz,rz⟩,rf⟩:=FZ.out w1 (GN _ _);obtain⟨ae,⟨am,ac⟩,ad⟩:=FZ.out w1.drew (GN _ w1).drew;obtain⟨c0,c1,c2,c3,⟨A,d,T,R⟩,a0,a1⟩:=z.out _ _ (dQ.refl I17 w1 c);obtain⟨d0,ai,d2,d3,⟨y0,y1,y2,y3⟩,b0,b1⟩:=z.out _ _ ((dQ.refl I17 w1 c).drew);have an:(n0:Int)<(s.ks.length:Int):=by omega
 have av:=Sy;have gc:=D1 s n0 (kdE x);have gl:=eR (s.cel n0 (kdE x)) 17 n0 0;clear U q1 q2 q3 q4 q5 q6 h1 h2 h3 ab aa NK Q l Y t NN;generalize aq:kdE x=F at *
 go_enter_defers Tryz.func82,Tryz.ntmps82
 go_upto_region 1 with fail;rw[<-m,<-HG.out];clear m;go_region_held3 (λwx=>wx.cell? ⟨g,0,GA⟩=GB (.int .i64 26)/\wx.cell? ⟨g,1,GA⟩=GB (.int .i64 n0)/\wx.cell? ⟨g,2,GA⟩=GB (stv nm)/\wx.cell? ⟨g,3,GA⟩=GB (.slice (GB ⟨b,off,GA⟩) 1 cap)/\wx.cell? ⟨rb,3,GA⟩=GB (.slice (GB ⟨gk,0,GA⟩) s.ks.length y)) (go_keep) (first|(go_at_call 75;refine HK.mono ?_;rintro e w2 ⟨rfl,B2⟩;have q:=((GN _ w1).drew).trans B2;obtain⟨e0,e1,P,O,-,-,-⟩:=z.out _ _ (dQ.ofBelow c q);obtain⟨t3,⟨tz,tr⟩,tf⟩:=FZ.out w2 q;obtain⟨m0,m1,m2,m3,-,-,-⟩:=z.out _ _ (HS.out w2 q).2;have mr:=(GS (a:=⟨rb,3,GA⟩) (GP w2 ⟨gk,n0,GA⟩ rb (.int .i64 F) W)).trans t3))
 all_goals
  obtain⟨ES,SS⟩:=HS.out w2 q;clear HS FZ HK m0 m1 m2 m3 mr t3 tz tr tf e0 e1 P O r3 ae rz ac rf ad c0 c1 c2 c3 d0 ai d2 d3 A d T R y0 y1 y2 y3 a0 a1 b0 b1;generalize w2.setCell ⟨gk,n0,GA⟩ (.int .i64 F)=w3 at *;have XS:=X1.step SS dZ;have HL:=fm 17 n0 0 w3 c rb lv ls (s.cel n0 F) (by omega) (by omega) (by omega) (by have:=gc.mes;omega) XS ES;obtain⟨c0,c1,c2,c3,⟨A,d,T,R⟩,a0,a1⟩:=z.out _ _ SS;go_upto_region 3 with (first|(go_at_call 41;refine HL.mono ?_;rintro e w4 ⟨rfl,E,E4,S4⟩))
  have ST:=SS.trans S4;have d4:dQ (λ_=>False) w4 E w4.drew E:=(dQ.refl _ w4 E).drew;have D4:dQ I17 w4 E w4.drew E:=(dQ.refl _ w4 E).drew;have i:=ST.trans D4;have HC:=HP x ak ck ar u w4.drew E rb lv ls ((s.cel n0 F).lay 17 n0 0) ah (eo V).1 L ag (Sy.stepO i dZ) ((gc.trans gl).ks.trans M) (by have:=(gc.trans gl).mes;omega) (by omega) (by omega) ((gc.trans gl).dp hd) (X1.step i dZ) (E4.step d4 noF);rw[dS] at HC;clear c0 c1 c2 c3 A d T R a0 a1 HL;obtain⟨c0,c1,c2,c3,⟨A,d,T,R⟩,a0,a1⟩:=z.out _ _ ST;obtain⟨e0,e1,P,O,⟨y0,y1,y2,y3⟩,b0,b1⟩:=z.out _ _ i;go_region_held3 (λwx=>wx.cell? ⟨g,3,GA⟩=GB (.slice (GB ⟨b,off,GA⟩) 1 cap)/\(wx.cell? ⟨b,off,GA⟩=GB (.int .i64 x.k)/\wx.cell? ⟨b,off+1,GA⟩=GB (.int .i64 x.n)/\wx.cell? ⟨b,off+2,GA⟩=GB (stv x.nm)/\wx.cell? ⟨b,off+3,GA⟩=GB (.slice ak x.kids.len ck))/\wx.cell? ⟨g+1,0,GA⟩=GB (.int .i64 ar)/\wx.cell? ⟨g+1,1,GA⟩=GB (.int .i64 u)) (go_keep) (first|(go_at_call 40;refine HC.mono ?_;rintro e w5 ⟨rfl,⟨o5,E5,S5⟩,g5⟩;obtain⟨m0,m1,m2,m3,⟨z0,z1,z2,z3⟩,h0,h1⟩:=z.out _ _ (i.trans S5)))
  all_goals
   have SU:=i.trans S5;have g15:=(gc.trans gl).trans g5;have HL:=fm 18 n0 0 w5 o5 rb lv ls (emE ls x ar u ((s.cel n0 F).lay 17 n0 0)) (by omega) (by omega) (by omega) (by have:=g15.mes;omega) (X1.step SU dZ) E5;clear HC c0 c1 c2 c3 A d T R a0 a1 e0 e1 P O y0 y1 y2 y3 b0 b1;obtain⟨C,G⟩:=exq (emE ls x ar u ((s.cel n0 F).lay 17 n0 0));rw[<-G] at E5 g5 g15 HL;have aj:=GL G;clear G;go_wp2_with (first|(go_at_call 41;refine HL.mono ?_;rintro e w6 ⟨rfl,o6,E6,S6⟩));have af:s.ws.length<(C.lay 18 n0 0).ws.length:=by
    have h1:=g5.ws;have h2:((s.cel n0 F).lay 17 n0 0).ws.length=s.ws.length+1:=by simp[Em.lay,Em.cel]
    have h3:(C.lay 18 n0 0).ws.length=C.ws.length+1:=by simp[Em.lay]
    omega
   have g6:=g15.trans (eR C 18 n0 0);have HD:=rH s.ws.length .returning w6 o6 rb lv ls (C.lay 18 n0 0) af (by have:=g6.mes;omega) (X1.step (SU.trans S6) dZ) E6;refine leaves_cons (f:=126) (args:=#[.pointer (GB ⟨rb,0,GA⟩),.int .i64 (s.ws.length:Nat)]) (by simp) (by simp[go_sem,Em.cel]) ?_;refine HD.mono ?_;rintro e u' w7 ⟨rfl,rfl,o7,E7,S7⟩;exact⟨_,IY rfl _ _ _,rfl,by rw[<-aj.out];exact⟨⟨o7,E7,((S0.trans SU).trans S6).trans S7⟩,(g6.trans (nP _ _)).le (by omega)⟩⟩
abbrev il (e:Ex)(ao:Option G1)(cap:Nat):Array GJ:=#[.int .i64 e.k,.int .i64 e.n,stv e.nm,.slice ao e.kids.len cap]
theorem yt (h:Nat):∀ (l:List Int) (k:Nat) (s:Em) (x:Int) (r:List Int),l=x::r->iF h l k s=iF h r (k+1) (if x=(h:Int) then s.lay 19 k 0 else s)
 | _,k,s,x,r,rfl=>rfl
theorem yY (nc N:Nat)(HP:jA nc N)(e:Ex)(ao:Option G1)(cap ar u:Nat)(w:GE)(o:Nat->Nat)(rb:Nat)(lv:GJ)(ls:List Int)(s:Em)(M:okE nc e)(hN:e.kids.size<N)(P:ls.length=nc)(O:nc<=256)(hu:u+3*(e.kids.size+1)<=1000000000)(ad:ar+1+(e.kids.size+1)<=1000000000)(S:SnO w o e.kids ao)(C:s.ks.length=ls.length)
  (hm:s.mes+(256+300*(e.kids.size+1))<=100000000) (hd:s.dp<=1000000001) (X:EmX w o lv ls) (h:EmW w o rb lv s) :
  GR GD 191 #[pt0 rb,exN e ao cap,spV ar u] w (pE w o rb lv s (bdy ls (emE ls e) ar u s) (256+300*(e.kids.size+1))):=by
 subst P;have aa:=GL C;clear C;obtain⟨g,F⟩:=exq w.heap.size;obtain⟨w1,r⟩:=exq ((w.alloc (.cells (il e ao cap) 34)).alloc (.cells #[.int .i64 ar,.int .i64 u] 86));obtain⟨J,z2,z5,H⟩:=al2 w (.cells (il e ao cap) 34) (.cells #[.int .i64 ar,.int .i64 u] 86);rw[<-r,<-F] at J z2 z5 H;obtain⟨A,D⟩:=exq (ar+1);have U:(ar:Int)+1=(A:Int):=by omega
 obtain⟨w2,d⟩:=exq (w1.setCell ⟨g+1,0,GA⟩ (.int .i64 A));have B2:GK g w w2:=by rw[d];exact H.setCell (p:=⟨g+1,0,GA⟩) (by show g<=g+1;omega) _
 have y1:w2.heap[g]?=GB (.cells (il e ao cap) 34):=by rw[d];exact(GP w1 ⟨g+1,0,GA⟩ g _ (by show g≠g+1;omega)).trans J
 have y2:w2.heap[g+1]?=GB (.cells #[.int .i64 A,.int .i64 u] 86):=by
  rw[d]
  have:=Ij w1 (g+1) 0 _ _ (.int .i64 A) z2
  simpa using this
 have s0:∀ {I:Nat->Prop},dQ I w o w2 (dR w o 0):=λ{I}=>gT o (by rw[<-F];exact B2);have t:∀ j,dR w o 0 (g+j)=0:=λj=>dY (by omega);have K1:Blk w2 (dR w o 0) 0 g (.cells (il e ao cap) 34)/\Blk w2 (dR w o 0) 0 (g+1) (.cells #[.int .i64 A,.int .i64 u] 86):=⟨⟨y1,t 0⟩,⟨y2,t 1⟩⟩;have Z:=S.stepO (s0 (I:=λ_=>False)) id;have E1:=h.step (s0 (I:=λ_=>False)) noF;have Y:=X.step (s0 (I:=λ_=>False)) id;have S0:=s0 (I:=I17);generalize dR w o 0=z at *;have HG:=GL F;obtain⟨⟨c0,c1⟩,cf⟩:=lj z2;have V:=cf 0;clear s0 t J z2 z5 H h X S F y1 y2 B2 cf;rw[dS];have KK:Hid (∀ w' o',dQ I17 w2 z w' o'->w'.cell? ⟨g,0,GA⟩=GB (.int .i64 e.k)/\w'.cell? ⟨g,1,GA⟩=GB (.int .i64 e.n)/\w'.cell? ⟨g,2,GA⟩=GB (stv e.nm)/\w'.cell? ⟨g,3,GA⟩=GB (.slice ao e.kids.len cap)/\w'.cell? ⟨g+1,0,GA⟩=GB (.int .i64 A)/\w'.cell? ⟨g+1,1,GA⟩=GB (.int .i64 u)):=λw' o' S=>by
  obtain⟨⟨e0,e1,e2,e3⟩,-⟩:=dW (K1.1.step S dZ).1;obtain⟨f0,f1⟩:=eh (K1.2.step S dZ).1;exact⟨e0,e1,e2,e3,f0,f1⟩
 obtain⟨G,cl,rfl,B⟩:=Y.lvs;have LV:Hid (∀ w' o',dQ I17 w2 z w' o'->∀ j x,ls[j]?=GB x->∃b off,G=GB ⟨b,off,GA⟩/\w'.cell? ⟨b,off+j,GA⟩=GB (.int .i64 x)):=λw' o' S j x q=>by
  rcases B with h|⟨b,off,h1,h2,h3,h4⟩
  ·rw[h] at q;simp at q
  ·exact⟨b,off,h1,(GS (a:=⟨b,off+j,GA⟩) (S.block b h3 (by rw[h2];exact dZ))).trans (h4 j x q)⟩
 have RB:Hid (∀ w' o' s',EmW w' o' rb (.slice G ls.length cl) s'->w'.cell? ⟨rb,6,GA⟩=GB (.slice G ls.length cl)):=λw' o' s' E=>by
  obtain⟨-,-,-,vw,vc,vn,vk,mc,mn,q0,-⟩:=E;exact(ia q0.1).1.2.2.2.2.2.2.1
 obtain⟨W,T⟩:=exq (iF A ls 0 s);have l:Hid (W=iF A (ls.drop 0) 0 s):=by show _=_;rw[T];rfl
 have HB:Hid (bdy ls (emE ls e) ar u s=emE ls e A u W):=by show _=_;rw[T,D];rfl
 have r6:=RB.out _ _ _ E1;obtain⟨k0,k1,k2,k3,a0,a1⟩:=KK.out _ _ (dQ.refl I17 w2 z);have HA:=GL D;clear T B D;go_enter Tryz.func191,Tryz.ntmps191;go_upto_region 1 with fail;rw[<-r,<-HG.out];clear r;go_upto_region 2 with fail;rw[<-d];clear d;clear U;go_wp2_with fail;go_loopw [17] (λK wr=>∃(k:Nat) (s':Em) (o':Nat->Nat),K=.int .i64 k/\k<=ls.length/\EmW wr o' rb (.slice G ls.length cl) s'/\dQ I17 w2 z wr o'/\Grw s s' k/\Hid (W=iF A (ls.drop k) k s')) (λK _=>ls.length-(Hh K).toNat)
 case atStart=>exact⟨0,s,z,by go_num,by omega,E1,dQ.refl _ _ _,⟨by omega,GC _,rfl,id⟩,l⟩
 case round =>
  clear l E1 r6 k0 k1 k2 k3 a0 a1 c0 c1 V;obtain⟨k,s',o',rfl,hk,E2,i,g2,l⟩:=hrel;obtain⟨k0,k1,k2,k3,a0,a1⟩:=KK.out _ _ i;by_cases v:k<ls.length
  ·have Q:(k:Int)<(ls.length:Int):=by omega
   have q:=GI v;have y:=IK v;have c:=l.out;rw[yt A _ k s' _ _ y] at c;obtain⟨b,off,rfl,cx⟩:=LV.out _ _ i k _ q;generalize ls[k]=lx at *;by_cases R:lx=(A:Int)
   ·rw[if_pos R] at c;have f:=GL c;have HL:=fm 19 k 0 wr o' rb _ ls s' (by omega) (by omega) (by omega) (by have:=g2.mes;omega) (Y.step i dZ) E2;have g3:=g2.trans (eR s' 19 k 0);subst R;clear c l q y;go_wp2_with (first|(go_at_call 41;refine HL.mono ?_;rintro e w3 ⟨rfl,L,E3,S3⟩));go_roundw
    case rel=>(try ((repeat apply G0);refine⟨?_,rfl⟩));exact⟨k+1,s'.lay 19 k 0,L,by go_num,by omega,E3,i.trans S3,g3,f.out⟩
    case measure=>simp[Hh];omega
   ·rw[if_neg R] at c;have f:=GL c;have g3:=g2.le (m:=k+1) (by omega);clear c l q y;go_wp2;go_roundw
    case rel=>(try ((repeat apply G0);refine⟨?_,rfl⟩));exact⟨k+1,s',o',by go_num,by omega,E2,i,g3,f.out⟩
    case measure=>simp[Hh];omega
  ·have Q:¬(k:Int)<(ls.length:Int):=by omega
   obtain rfl:k=ls.length:=by omega
   have c:=l.out;rw[List.drop_length] at c;have f:=c;subst f;have D:=HA.out;have HC:=HP e ao cap A u wr o' rb _ ls W hN M rfl O (Z.stepO i dZ) (g2.ks.trans aa.out) (by have:=g2.mes;omega) hu (by omega) (g2.dp hd) (Y.step i dZ) E2;rw[dS] at HC;have ab:=HB;clear l c D HP v;go_wp2_with (first|(go_at_call 40;refine HC.mono ?_;rintro e w3 ⟨rfl,⟨L,E3,S3⟩,g3⟩))
   go_end0
   exact⟨rfl,by rw[ab.out];exact⟨⟨L,E3,(S0.trans i).trans S3⟩,(g2.trans g3).le (by omega)⟩⟩
structure CxS (rb gw gn gl gs ga gg:Nat)(e:Ex)(ao:Option G1)(cap ar u op v ag:Nat)(w:GE)(o:Nat->Nat):Prop where
 bw:Blk w o 0 gw (.cells #[pt0 rb] 82)
 bn:Blk w o 0 gn (.cells (il e ao cap) 34)
 bl:Blk w o 0 gl (.cells #[.int .i64 op] 3)
 bs:Blk w o 0 gs (.cells #[.int .i64 v] 3)
 ba:Blk w o 0 ga (.cells #[.int .i64 ar,.int .i64 u] 86)
 bg:Blk w o 0 gg (.cells #[.int .i64 ag] 3)
 sn:SnO w o e.kids ao
theorem CxS.step {I:Nat->Prop}{rb gw gn gl gs ga gg:Nat}{e:Ex}{ao:Option G1}{cap ar u op v ag:Nat}{w w':GE}{o o':Nat->Nat}(h:CxS rb gw gn gl gs ga gg e ao cap ar u op v ag w o)(x:dQ I w o w' o')(a:¬I 0):CxS rb gw gn gl gs ga gg e ao cap ar u op v ag w' o' :=
 ⟨h.bw.step x a,h.bn.step x a,h.bl.step x a,h.bs.step x a,h.ba.step x a,h.bg.step x a,h.sn.stepO x a⟩
theorem CxS.keeps (rb gw gn gl gs ga gg:Nat)(e:Ex)(ao:Option G1)(cap ar u op v ag:Nat):ov (CxS rb gw gn gl gs ga gg e ao cap ar u op v ag):=λh x=>h.step x dZ
theorem Fy (nc N:Nat)(C:jA nc N)(rb gw gn gl gs ga gg:Nat)(e:Ex)(ao:Option G1)(cap ar u op v ag:Nat)(lv:GJ)(ls:List Int)(m:okE nc e)(M:e.kids.size<N)(i:ls.length=nc)(p:nc<=256)(l:op<=255)(Y:v<=1)(L:ag<=100000000)(J:u+3*(e.kids.size+1)<=1000000000)(q:ar+1+(e.kids.size+1)<=1000000000) :
  nG rb lv ls (CxS rb gw gn gl gs ga gg e ao cap ar u op v ag) 190 #[pt0 gw,pt0 gn,pt0 ga,pt0 gl,pt0 gg,pt0 gs] (λx=>(((bdy ls (emE ls e) ar u x).lay op ag 0).lay 25 0 0).con (v:Nat) 2 u) (256+300*(e.kids.size+1)+4):=by
 intro w o s X E K Z B b;have A:=yY nc N C e ao cap ar u w o rb lv ls s m M i p J q K.sn b (by omega) B X E;rw[dS] at A;have j:Hid (∀ w' o',dQ I17 w o w' o'->w'.cell? ⟨gw,0,GA⟩=GB (pt0 rb)/\(w'.cell? ⟨gn,0,GA⟩=GB (.int .i64 e.k)/\w'.cell? ⟨gn,1,GA⟩=GB (.int .i64 e.n)/\w'.cell? ⟨gn,2,GA⟩=GB (stv e.nm)/\w'.cell? ⟨gn,3,GA⟩=GB (.slice ao e.kids.len cap))/\w'.cell? ⟨gl,0,GA⟩=GB (.int .i64 op)/\w'.cell? ⟨gs,0,GA⟩=GB (.int .i64 v)/\w'.cell? ⟨gg,0,GA⟩=GB (.int .i64 ag)/\w'.cell? ⟨ga,0,GA⟩=GB (.int .i64 ar)/\w'.cell? ⟨ga,1,GA⟩=GB (.int .i64 u)):=λw' o' S=>by
  have f:=K.step S dZ;exact⟨eP f.bw.1,(dW f.bn.1).1,eP f.bl.1,eP f.bs.1,eP f.bg.1,(eh f.ba.1).1,(eh f.ba.1).2⟩
 obtain⟨c0,⟨n0,n1,n2,h⟩,c2,c3,c4,a0,a1⟩:=j.out _ _ (dQ.refl I17 w o);have R:=GL b;clear b i K C;go_enter Tryz.func190,Tryz.ntmps190;go_upto_region 1 with (first|(go_at_call 191;refine A.mono ?_;rintro z w2 ⟨rfl,⟨I,D,t⟩,g2⟩))
 obtain⟨s2,a⟩:=exq (bdy ls (emE ls e) ar u s);rw[<-a] at D g2;have y:=GL a;clear a A c0 n0 n1 n2 h c2 c3 c4 a0 a1;obtain⟨c0,⟨n0,n1,n2,h⟩,c2,c3,c4,a0,a1⟩:=j.out _ _ t;have g:=fm op ag 0 w2 I rb lv ls s2 l (by omega) (by omega) (by have:=g2.mes;omega) (X.step t dZ) D;go_upto_region 2 with (first|(go_at_call 41;refine g.mono ?_;rintro z w3 ⟨rfl,H,V,Q⟩))
 have d:=t.trans Q;have g3:=g2.trans (eR s2 op ag 0);clear g c0 n0 n1 n2 h c2 c3 c4 a0 a1;obtain⟨c0,⟨n0,n1,n2,h⟩,c2,c3,c4,a0,a1⟩:=j.out _ _ d;have g:=fm 25 0 0 w3 H rb lv ls (s2.lay op ag 0) (by omega) (by omega) (by omega) (by have:=g3.mes;omega) (X.step d dZ) V;go_upto_region 3 with (first|(go_at_call 41;refine g.mono ?_;rintro z w4 ⟨rfl,G,U,P⟩))
 have c:=d.trans P;have r:=g3.trans (eR (s2.lay op ag 0) 25 0 0);clear g c0 n0 n1 n2 h c2 c3 c4 a0 a1;obtain⟨c0,⟨n0,n1,n2,h⟩,c2,c3,c4,a0,a1⟩:=j.out _ _ c;have g:=fo (v:Nat) 2 ar u w4 G rb lv ls ((s2.lay op ag 0).lay 25 0 0) (by omega) (by omega) (by omega) (r.dp B) (by have:=r.mes;omega) (X.step c dZ) U;go_wp2_with (first|(go_at_call 74;refine g.mono ?_;rintro z W ⟨rfl,F,T,O⟩))
 go_end0
 exact⟨rfl,by rw[<-y.out];exact⟨⟨F,T,c.trans O⟩,(r.trans (iH _ _ _ _ (by omega))).le (by omega)⟩⟩
theorem FL (rb gw gs ga ar u v:Nat)(lv:GJ)(ls:List Int)(i:v<=1)(b:u<=1000000000) :
  nG rb lv ls (λw o=>Blk w o 0 gw (.cells #[pt0 rb] 82)/\Blk w o 0 gs (.cells #[.int .i64 v] 3)/\Blk w o 0 ga (.cells #[.int .i64 ar,.int .i64 u] 86)) 192 #[pt0 gw,pt0 gs,pt0 ga] (λt=>t.con (1-(v:Int)) 2 u) 2:=by
 intro w o s X E ⟨bw,bs,ba⟩ j d a;have cw:=eP bw.1;have cs:=eP bs.1;obtain⟨a0,a1⟩:=eh ba.1;have g:=fo (1-(v:Int)) 2 ar u w o rb lv ls s (by omega) (by omega) b d (by omega) X E;clear bw bs ba a;go_enter Tryz.func192,Tryz.ntmps192;go_wp2_with (first|(go_at_call 74;refine g.mono ?_;rintro e w2 ⟨rfl,c,h,f⟩))
 go_end0
 exact⟨rfl,⟨c,h,f⟩,iH s _ _ _ b⟩
theorem D6:Ent 190:=λ_ _=>by kernel_rfl
theorem EY:Ent 192:=λ_ _=>by kernel_rfl
theorem tA (nc N:Nat)(J:jA nc N)(e:Ex)(ao:Option G1)(cap op v ar u:Nat)(w:GE)(o:Nat->Nat)(rb:Nat)(lv:GJ)(ls:List Int)(s:Em)(A:okE nc e)(V:e.kids.size<N)(f:ls.length=nc)(B:nc<=256)(y:op<=255)(F:v<=1)(Q:u+3*(e.kids.size+1)<=1000000000)(C:ar+1+(e.kids.size+1)<=1000000000)(S:SnO w o e.kids ao)(i:s.ks.length=ls.length)
  (T:s.mes+(256+300*(e.kids.size+1)+8)<=100000000) (U:s.dp<=1000000001) (X:EmX w o lv ls) (h:EmW w o rb lv s) :
  GR GD 128 #[pt0 rb,exN e ao cap,.int .i64 op,.int .i64 v,spV ar u] w (pE w o rb lv s (yk ls (emE ls e) op (v:Int) ar u s) (256+300*(e.kids.size+1)+8)):=by
 rw[dS];obtain⟨g,l⟩:=exq w.heap.size;obtain⟨w1,d⟩:=exq (((((w.alloc (.cells #[pt0 rb] 82)).alloc (.cells (il e ao cap) 34)).alloc (.cells #[.int .i64 op] 3)).alloc (.cells #[.int .i64 v] 3)).alloc (.cells #[.int .i64 ar,.int .i64 u] 86));obtain⟨p,z2,z3,z4,z5,n,m⟩:=al5 w (.cells #[pt0 rb] 82) (.cells (il e ao cap) 34) (.cells #[.int .i64 op] 3) (.cells #[.int .i64 v] 3) (.cells #[.int .i64 ar,.int .i64 u] 86);rw[<-d,<-l] at p z2 z3 z4 z5 n m;obtain⟨w2,c⟩:=exq (w1.alloc (.cells #[.int .i64 (s.ws.length:Nat)] 3));have E:w2.heap[g+5]?=GB (.cells #[.int .i64 (s.ws.length:Nat)] 3):=by rw[c,<-n];exact GH _ _
 have a:∀ k,k<g+5->w2.heap[k]?=w1.heap[k]?:=λk hk=>by rw[c];exact In _ _ (by omega)
 have L:GK g w w2:=by rw[c];exact m.alloc (by omega) _
 have s0:∀ {I:Nat->Prop},dQ I w o w2 (dR w o 0):=λ{I}=>gT o (by rw[<-l];exact L);have b:∀ j,dR w o 0 (g+j)=0:=λj=>dY (by omega);have D:CxS rb g (g+1) (g+2) (g+3) (g+4) (g+5) e ao cap ar u op v s.ws.length w2 (dR w o 0) :=
  ⟨⟨(a _ (by omega)).trans p,b 0⟩,⟨(a _ (by omega)).trans z2,b 1⟩,⟨(a _ (by omega)).trans z3,b 2⟩,⟨(a _ (by omega)).trans z4,b 3⟩,⟨(a _ (by omega)).trans z5,b 4⟩,⟨E,b 5⟩,S.stepO (s0 (I:=λ_=>False)) id⟩
 have K:=h.step (s0 (I:=λ_=>False)) noF;have H:=X.step (s0 (I:=λ_=>False)) id;have S0:=s0 (I:=I17);have HN:=ua w1 o rb lv s (h.below (by rw[<-l];exact m));have Y:=eP p;generalize dR w o 0=P at *;have r:s.ws.length<=100000000:=by unfold Em.mes at T;omega
 have HF:=uo 24 190 192 #[pt0 g,pt0 (g+1),pt0 (g+4),pt0 (g+2),pt0 (g+5),pt0 (g+3)] #[pt0 g,pt0 (g+3),pt0 (g+4)] (λx=>(((bdy ls (emE ls e) ar u x).lay op s.ws.length 0).lay 25 0 0).con (v:Nat) 2 u) (λt=>t.con (1-(v:Int)) 2 u) (256+300*(e.kids.size+1)+4) 2 _ (CxS.keeps _ _ _ _ _ _ _ _ _ _ _ _ _ _ _) D6 EY w2 P rb lv ls (Fy nc N J rb g (g+1) (g+2) (g+3) (g+4) (g+5) e ao cap ar u op v s.ws.length lv ls A V f B y F r Q C) ((FL rb g (g+3) (g+4) ar u v lv ls F (by omega)).mono (λ_ _ h=>⟨h.bw,h.bs,h.ba⟩)) s (by omega) (by omega) U i H K D;have HG:=GL l;have HZ:=GL n;have c2:=eP D.bw.1;clear s0 b p z2 z3 z4 z5 n m E a L h X S l i f J H K D;go_enter Tryz.func128,Tryz.ntmps128;go_upto_region 1 with fail;rw[<-d,<-HG.out];clear d;go_upto_region 2 with (first|(go_at_call 189;refine HN.mono ?_;rintro z M ⟨rfl,q⟩;subst q))
 rw[<-c,HZ.out];clear c;go_wp2_with (first|(go_at_call 79;refine HF.mono ?_;rintro z w4 ⟨rfl,⟨O,E4,Z⟩,W⟩))
 go_end0
 exact⟨rfl,⟨O,E4,S0.trans Z⟩,W.le (by omega)⟩
def ol (rb:Nat)(lv:GJ)(ls:List Int)(K:GE->(Nat->Nat)->Prop)(F:FuncId)(c:Array GJ)(t:Nat->Em->Em)(n:Nat):Prop :=
 ∀ ag:Nat,ag<=100000000->∀ w o s,EmX w o lv ls->EmW w o rb lv s->K w o->s.mes+n<=100000000->s.dp<=1000000001->s.ks.length=ls.length->GR GD F (#[.int .i64 ag]++c) w (pE w o rb lv s (t ag s) n)
theorem mB (nc N:Nat)(HP:jA nc N)(F:FuncId)(c:Array GJ)(t:Nat->Em->Em)(n:Nat)(K:GE->(Nat->Nat)->Prop)(hK:ov K)(HE:Ent F)(e:Ex)(ao:Option G1)(cap ar u:Nat)(w:GE)(o:Nat->Nat)(rb:Nat)(lv:GJ)(ls:List Int)(H:ol rb lv ls K F c t n)(s:Em)(R:okE nc e)(hN:e.kids.size<N)(v:ls.length=nc)(T:nc<=256)(hu:u+3*(e.kids.size+1)<=1000000000)(V:ar+1+(e.kids.size+1)<=1000000000)(S:SnO w o e.kids ao)(m:s.ks.length=ls.length)
  (hm:s.mes+(256+300*(e.kids.size+1)+n+2)<=100000000) (hd:s.dp<=1000000001) (X:EmX w o lv ls) (h:EmW w o rb lv s) (k:K w o) :
  GR GD 129 #[pt0 rb,exN e ao cap,spV ar u,.func (.func F) #[] c] w (pE w o rb lv s (pM ls (emE ls e) t ar u s) (256+300*(e.kids.size+1)+n+2)):=by
 rw[dS];obtain⟨g,D⟩:=exq w.heap.size;obtain⟨w1,i⟩:=exq ((w.alloc (.cells (il e ao cap) 34)).alloc (.cells #[.int .i64 ar,.int .i64 u] 86));obtain⟨M,z2,z5,L⟩:=al2 w (.cells (il e ao cap) 34) (.cells #[.int .i64 ar,.int .i64 u] 86);rw[<-i,<-D] at M z2 z5 L;have s0:∀ {I:Nat->Prop},dQ I w o w1 (dR w o 0):=λ{I}=>gT o (by rw[<-D];exact L);have l:∀ j,dR w o 0 (g+j)=0:=λj=>dY (by omega);have G:Blk w1 (dR w o 0) 0 g (.cells (il e ao cap) 34)/\Blk w1 (dR w o 0) 0 (g+1) (.cells #[.int .i64 ar,.int .i64 u] 86):=⟨⟨M,l 0⟩,⟨z2,l 1⟩⟩;have Z:=S.stepO (s0 (I:=λ_=>False)) id;have E1:=h.step (s0 (I:=λ_=>False)) noF;have y:=X.step (s0 (I:=λ_=>False)) id;have S0:=s0 (I:=I17);have k1:=hK k S0;generalize dR w o 0=O at *;have KK:Hid (∀ w' o',dQ I17 w1 O w' o'->(w'.cell? ⟨g,0,GA⟩=GB (.int .i64 e.k)/\w'.cell? ⟨g,1,GA⟩=GB (.int .i64 e.n)/\w'.cell? ⟨g,2,GA⟩=GB (stv e.nm)/\w'.cell? ⟨g,3,GA⟩=GB (.slice ao e.kids.len cap))/\w'.cell? ⟨g+1,0,GA⟩=GB (.int .i64 ar)/\w'.cell? ⟨g+1,1,GA⟩=GB (.int .i64 u)):=λw' o' S=>⟨(dW (G.1.step S dZ).1).1,(eh (G.2.step S dZ).1).1,(eh (G.2.step S dZ).1).2⟩;have HN:=ua w1 O rb lv s E1;have J:=fm 24 0 0 w1 O rb lv ls s (by omega) (by omega) (by omega) (by omega) y E1;have aa:=GL m;have HG:=GL D;have Q:s.ws.length<=100000000:=by unfold Em.mes at hm;omega
 have g1:=eR s 24 0 0;have HT:Hid (pM ls (emE ls e) t ar u s=((t s.ws.length (bdy ls (emE ls e) ar u (s.lay 24 0 0))).lay 13 s.ws.length 0).land s.ws.length):=rfl;have HB:∀ w2 d,EmX w2 d lv ls->EmW w2 d rb lv (s.lay 24 0 0)->SnO w2 d e.kids ao->_:=λw2 d X2 E2 Y=>yY nc N HP e ao cap ar u w2 d rb lv ls (s.lay 24 0 0) R hN v T hu V Y (g1.ks.trans m) (by have:=g1.mes;omega) (g1.dp hd) X2 E2;clear s0 l M z2 z5 L h X S D m v HP G k E1
 go_enter_defers Tryz.func129,Tryz.ntmps129
 go_upto_region 1 with fail;rw[<-i,<-HG.out];clear i;go_upto_region 2 with (first|(go_at_call 189;refine HN.mono ?_;rintro z ab ⟨rfl,P⟩;subst P))
 go_upto_region 3 with (first|(go_at_call 41;refine J.mono ?_;rintro z w2 ⟨rfl,d,E2,E⟩))
 clear HN J;have HC:=HB w2 d (y.step E dZ) E2 (Z.stepO E dZ);rw[dS] at HC;obtain⟨⟨n0,n1,n2,n3⟩,a0,a1⟩:=KK.out _ _ E;go_upto_region 4 with (first|(go_at_call 191;refine HC.mono ?_;rintro z w3 ⟨rfl,⟨o3,E3,S3⟩,g3⟩))
 obtain⟨C,r⟩:=exq (bdy ls (emE ls e) ar u (s.lay 24 0 0));rw[<-r] at E3 g3 HT;clear r HB HC n0 n1 n2 n3 a0 a1;have p:=E.trans S3;have a:=g1.trans g3;have HF:=H s.ws.length Q w3 o3 C (y.step p dZ) E3 (hK k1 p) (by have:=a.mes;omega) (a.dp hd) (a.ks.trans aa.out);go_wp2_with fail;refine HF.mono ?_;rintro z w4 ⟨rfl,⟨o4,E4,S4⟩,W⟩;obtain⟨b,q⟩:=exq (t s.ws.length C);rw[<-q] at E4 W HT;clear q HF HE;have B:=p.trans S4;have x:=a.trans W;have J:=fm 13 s.ws.length 0 w4 o4 rb lv ls b (by omega) (by omega) (by omega) (by have:=x.mes;omega) (y.step B dZ) E4;go_wp2_with (first|(go_at_call 41;refine J.mono ?_;rintro z w5 ⟨rfl,o5,E5,S5⟩));have A:=B.trans S5;have g15:=x.trans (eR b 13 s.ws.length 0);have U:s.ws.length<(b.lay 13 s.ws.length 0).ws.length:=by
  have h1:=W.ws;have h2:=g3.ws;have h3:(s.lay 24 0 0).ws.length=s.ws.length+1:=by simp[Em.lay]
  have h4:(b.lay 13 s.ws.length 0).ws.length=b.ws.length+1:=by simp[Em.lay]
  omega
 have HD:=rH s.ws.length .returning w5 o5 rb lv ls (b.lay 13 s.ws.length 0) U (by have:=g15.mes;omega) (y.step A dZ) E5;refine leaves_cons (f:=126) (args:=#[.pointer (GB ⟨rb,0,GA⟩),.int .i64 (s.ws.length:Nat)]) (by simp) (by simp[go_sem]) ?_;refine HD.mono ?_;rintro z u' w6 ⟨rfl,rfl,o6,E6,S6⟩;exact⟨_,IY rfl _ _ _,rfl,by rw[HT.out];exact⟨⟨o6,E6,(S0.trans A).trans S6⟩,(g15.trans (nP _ _)).le (by omega)⟩⟩
theorem Gf (rb gw ga ar u:Nat)(lv:GJ)(ls:List Int)(y:u+1<=1000000000) :
  ol rb lv ls (λw o=>Blk w o 0 gw (.cells #[pt0 rb] 82)/\Blk w o 0 ga (.cells #[.int .i64 ar,.int .i64 u] 86)) 130 #[pt0 gw,pt0 ga] (λg x=>((x.lay 14 g 0).con 1 1 (u+1)).lay 6 0 0) 4:=by
 intro ag C w o s X E ⟨bw,ba⟩ M A h;have f:=fm 14 ag 0 w o rb lv ls s (by omega) (by omega) (by omega) (by omega) X E;have d:Hid (∀ w' o',dQ I17 w o w' o'->w'.cell? ⟨gw,0,GA⟩=GB (pt0 rb)/\w'.cell? ⟨ga,0,GA⟩=GB (.int .i64 ar)/\w'.cell? ⟨ga,1,GA⟩=GB (.int .i64 u)):=λw' o' S=>⟨eP (bw.step S dZ).1,(eh (ba.step S dZ).1).1,(eh (ba.step S dZ).1).2⟩;obtain⟨c0,a0,a1⟩:=d.out _ _ (dQ.refl I17 w o);have g1:=eR s 14 ag 0;have p:=λw'=>kO ar u 1 w' (by omega) (by omega);clear bw ba h;go_enter Tryz.func130,Tryz.ntmps130;go_upto_region 1 with (first|(go_at_call 41;refine f.mono ?_;rintro z w2 ⟨rfl,a,K,n⟩))
 clear f c0 a0 a1;have d2:dQ I17 w2 a w2.drew a:=(dQ.refl _ w2 a).drew;have b:=n.trans d2;obtain⟨c0,a0,a1⟩:=d.out _ _ n;obtain⟨e0,l,k⟩:=d.out _ _ b;have D:=X.step b dZ;have G:=K.step ((dQ.refl (λ_=>False) w2 a).drew) noF;have q:∀ w3,GK w2.drew.heap.size w2.drew w3->GR GD 74 #[.pointer (GB ⟨rb,0,GA⟩),.int .i64 1,.int .i64 1,spV ar (u+1)] w3 (mX w3 a rb lv ((s.lay 14 ag 0).con 1 1 (u+1)) (.tuple #[])):=λw3 B=>fo 1 1 ar (u+1) w3 a rb lv ls (s.lay 14 ag 0) (by omega) (by omega) (by omega) (g1.dp A) (by have:=g1.mes;omega) (D.below B) (G.below B);go_region_held3 (λwx=>wx.cell? ⟨gw,0,GA⟩=GB (pt0 rb)/\wx.cell? ⟨ga,0,GA⟩=GB (.int .i64 ar)/\wx.cell? ⟨ga,1,GA⟩=GB (.int .i64 u)) (go_keep) (first|(go_at_call 84;refine(p _).mono ?_;rintro z w3 ⟨rfl,r⟩;have i:=b.trans (dQ.ofBelow (I:=I17) a r);obtain⟨e0,l,k⟩:=d.out _ _ i;have e:=q w3 r)|(go_at_call 74;refine e.mono ?_;rintro z w4 ⟨rfl,v,J,m⟩;obtain⟨e0,l,k⟩:=d.out _ _ (i.trans m)))
 all_goals
  have c:=i.trans m;have j:=g1.trans (iH (s.lay 14 ag 0) 1 1 (u+1) y);have f:=fm 6 0 0 w4 v rb lv ls ((s.lay 14 ag 0).con 1 1 (u+1)) (by omega) (by omega) (by omega) (by have:=j.mes;omega) (X.step c dZ) J;clear q p e;go_wp2_with (first|(go_at_call 41;refine f.mono ?_;rintro z L ⟨rfl,t,H,F⟩))
  go_end0
  exact⟨rfl,⟨t,H,c.trans F⟩,(j.trans (eR _ _ _ _)).le (by omega)⟩
theorem Gs (rb gw:Nat)(lv:GJ)(ls:List Int) :
  ol rb lv ls (λw o=>Blk w o 0 gw (.cells #[pt0 rb] 82)) 131 #[pt0 gw] (λ_ x=>x.lay 6 0 0) 4:=by
 intro ag c w o s X E bw h i a;have e:=fm 6 0 0 w o rb lv ls s (by omega) (by omega) (by omega) (by omega) X E;have c0:=eP bw.1;clear bw a;go_enter Tryz.func131,Tryz.ntmps131;go_wp2_with (first|(go_at_call 41;refine e.mono ?_;rintro z g ⟨rfl,b,f,d⟩))
 go_end0
 exact⟨rfl,⟨b,f,d⟩,(eR _ _ _ _).le (by omega)⟩
theorem DJ (rb gw gn:Nat)(e:Ex)(ao:Option G1)(cap:Nat)(lv:GJ)(ls:List Int)(r:e.n=5\/e.n=6) :
  ol rb lv ls (λw o=>Blk w o 0 gw (.cells #[pt0 rb] 82)/\Blk w o 0 gn (.cells (il e ao cap) 34)) 132 #[pt0 gw,pt0 gn] (λ_ x=>x.lay 26 (e.n-5).toNat 0) 4:=by
 intro ag i w o s X E ⟨bw,bn⟩ t u b;obtain⟨j,c⟩:∃j:Nat,(j:Int)=e.n-5:=⟨(e.n-5).toNat,by omega⟩;have a:(e.n-5).toNat=j:=by omega
 have g:j<=1:=by omega
 rw[a];have l:=fm 26 j 0 w o rb lv ls s (by omega) (by omega) (by omega) (by omega) X E;have c0:=eP bw.1;obtain⟨⟨n0,n1,n2,q⟩,-⟩:=dW bn.1;have h:-9223372036854775808<=e.n-5/\e.n-5<=9223372036854775807:=by omega
 have f:e.n-5=(j:Int):=c.symm;generalize e.n=v at *;clear bw bn b c a;go_enter Tryz.func132,Tryz.ntmps132;go_wp2_with (first|(go_at_call 41;refine l.mono ?_;rintro z p ⟨rfl,d,m,k⟩))
 go_end0
 exact⟨rfl,⟨d,m,k⟩,(eR _ _ _ _).le (by omega)⟩
theorem EE:Ent 130:=λ_ _=>by kernel_rfl
theorem El:Ent 131:=λ_ _=>by kernel_rfl
theorem As:Ent 132:=λ_ _=>by kernel_rfl
structure CxQ (rb gw gn ga gt gb:Nat)(q t b:Ex)(ao:Option G1)(cap:Nat)(at1:Option G1)(ct:Nat)(ab:Option G1)(cb ar u:Nat)(w:GE)(o:Nat->Nat):Prop where
 bw:Blk w o 0 gw (.cells #[pt0 rb] 82)
 bn:Blk w o 0 gn (.cells (il q ao cap) 34)
 ba:Blk w o 0 ga (.cells #[.int .i64 ar,.int .i64 u] 86)
 bt:Blk w o 0 gt (.cells (il t at1 ct) 34)
 bb:Blk w o 0 gb (.cells (il b ab cb) 34)
 st:SnO w o t.kids at1
 sb:SnO w o b.kids ab
theorem CxQ.step {I:Nat->Prop}{rb gw gn ga gt gb:Nat}{q t b:Ex}{ao:Option G1}{cap:Nat}{at1:Option G1}{ct:Nat}{ab:Option G1}{cb ar u:Nat}{w w':GE}{o o':Nat->Nat}(h:CxQ rb gw gn ga gt gb q t b ao cap at1 ct ab cb ar u w o)(x:dQ I w o w' o')(a:¬I 0):CxQ rb gw gn ga gt gb q t b ao cap at1 ct ab cb ar u w' o' :=
 ⟨h.bw.step x a,h.bn.step x a,h.ba.step x a,h.bt.step x a,h.bb.step x a,h.st.stepO x a,h.sb.stepO x a⟩
theorem CxQ.keeps (rb gw gn ga gt gb:Nat)(q t b:Ex)(ao:Option G1)(cap:Nat)(at1:Option G1)(ct:Nat)(ab:Option G1)(cb ar u:Nat):ov (CxQ rb gw gn ga gt gb q t b ao cap at1 ct ab cb ar u):=λh x=>h.step x dZ
theorem ol.mono {rb:Nat}{lv:GJ}{ls:List Int}{K b:GE->(Nat->Nat)->Prop}{F:FuncId}{c:Array GJ}{t:Nat->Em->Em}{n:Nat}(h:ol rb lv ls K F c t n)(d:∀ w o,b w o->K w o):ol rb lv ls b F c t n:=λag a w o s X E k=>h ag a w o s X E (d w o k)
theorem Cr (nc N:Nat)(HP:jA nc N)(n:Int)(nm:List UInt8)(a:Int)(t b:Ex)(ao:Option G1)(cap ar u:Nat)(w:GE)(o:Nat->Nat)(rb:Nat)(lv:GJ)(ls:List Int)(s:Em)(hn:1<=n/\n<=6)(an:okF nc (Fs.ex t (Fs.ex b .nil)))(aK:t.kids.size<N)(aa:b.kids.size<N)(aq:ls.length=nc)(M:nc<=256)(hu:u+3*(t.kids.size+b.kids.size+3)<=1000000000)(aN:ar+(t.kids.size+b.kids.size+3)<=1000000000)(S:SnO w o (Fs.ex t (Fs.ex b .nil)) ao)(av:s.ks.length=ls.length)
  (hm:s.mes+300*(t.kids.size+b.kids.size+3)<=100000000) (Z:s.dp<=1000000001) (X:EmX w o lv ls) (h:EmW w o rb lv s) :
  GR GD 83 #[pt0 rb,exN ⟨21,n,nm,a,Fs.ex t (Fs.ex b .nil)⟩ ao cap,spV ar u] w (pE w o rb lv s (qua ls n (emE ls t) (emE ls b) ar u s) (300*(t.kids.size+b.kids.size+3))):=by
 have aM:∀ (fn:Fn) (first cap:Array GJ) (w:GE),(Instr.makeFunc fn first cap).run GD w=.ok (.func fn first cap) w:=λ_ _ _ _=>rfl;rw[dS];simp only;obtain⟨g,hg⟩:=exq w.heap.size;obtain⟨w1,af⟩:=exq (((w.alloc (.cells #[pt0 rb] 82)).alloc (.cells #[.int .i64 21,.int .i64 n,stv nm,.slice ao (Fs.ex t (Fs.ex b .nil)).len cap] 34)).alloc (.cells #[.int .i64 ar,.int .i64 u] 86));obtain⟨z1,z2,z3,z4,z5⟩:=al3 w (.cells #[pt0 rb] 82) (.cells #[.int .i64 21,.int .i64 n,stv nm,.slice ao (Fs.ex t (Fs.ex b .nil)).len cap] 34) (.cells #[.int .i64 ar,.int .i64 u] 86);rw[<-af,<-hg] at z1 z2 z3 z4 z5;have s0:∀ {I:Nat->Prop},dQ I w o w1 (dR w o 0):=λ{I}=>gT o (by rw[<-hg];exact z5);have ag:∀ j,dR w o 0 (g+j)=0:=λj=>dY (by omega);have al:=S.stepO (s0 (I:=λ_=>False)) id;have E1:=h.step (s0 (I:=λ_=>False)) noF;have X1:=X.step (s0 (I:=λ_=>False)) id;have S0:=s0 (I:=I17);have ah:Blk w1 (dR w o 0) 0 g (.cells #[pt0 rb] 82):=⟨z1,ag 0⟩;have ab:Blk w1 (dR w o 0) 0 (g+1) (.cells #[.int .i64 21,.int .i64 n,stv nm,.slice ao (Fs.ex t (Fs.ex b .nil)).len cap] 34):=⟨z2,ag 1⟩;have ai:Blk w1 (dR w o 0) 0 (g+2) (.cells #[.int .i64 ar,.int .i64 u] 86):=⟨z3,ag 2⟩;generalize dR w o 0=o1 at *;have HG:=GL hg;have au:(Fs.ex t (Fs.ex b .nil)).len=2:=rfl;obtain⟨b0,off,ak,ck,rfl,-,Sy,NK⟩:=ic (x:=.nil) al 0 rfl;obtain⟨aO,aL,f,e,aJ,-,aj,am⟩:=ic (x:=one t) al 1 rfl;cases aJ;rw[au] at af ab ⊢;obtain⟨⟨n0,n1,n2,n3⟩,-⟩:=dW ab.1;have CC:∀ wx ox,dQ (λ_=>False) w1 o1 wx ox->wx.cell? ⟨g+1,3,GA⟩=GB (.slice (GB ⟨b0,off,GA⟩) 2 cap)/\wx.cell? ⟨b0,off,GA⟩=GB (.int .i64 t.k)/\wx.cell? ⟨b0,off+1,GA⟩=GB (.int .i64 t.n)/\wx.cell? ⟨b0,off+2,GA⟩=GB (stv t.nm)/\wx.cell? ⟨b0,off+3,GA⟩=GB (.slice ak t.kids.len ck)/\wx.cell? ⟨b0,off+4,GA⟩=GB (.int .i64 b.k)/\wx.cell? ⟨b0,off+5,GA⟩=GB (.int .i64 b.n)/\wx.cell? ⟨b0,off+6,GA⟩=GB (stv b.nm)/\wx.cell? ⟨b0,off+7,GA⟩=GB (.slice f b.kids.len e):=λwx ox x=>by
  obtain⟨p0,p1,p2,p3⟩:=NK x id;obtain⟨q0,q1,q2,q3⟩:=am x id;exact⟨(dW (ab.step x id).1).1.2.2.2,p0,p1,p2,p3,q0,q1,q2,q3⟩
 obtain⟨m3,x0,x1,x2,x3,y0,y1,y2,y3⟩:=CC w1 o1 (dQ.refl _ _ _);obtain⟨aF,aD,aC,aB,aA,az,ay,ax,aw⟩:=CC w1.drew o1 ((dQ.refl _ _ _).drew);have aG:=z4;clear s0 ag z1 z2 z3 z4 z5 h X S hg;have T:=GL aq;have V:=GL av;clear aG av aq;go_enter Tryz.func83,Tryz.ntmps83;go_upto_region 1 with fail;rw[<-af,<-HG.out];clear af;go_cut [6,7] (λv6 v7 wx=>∃gt gb L,v6=pt0 gt/\v7=pt0 gb/\CxQ rb g (g+1) (g+2) gt gb ⟨21,n,nm,a,Fs.ex t (Fs.ex b .nil)⟩ t b (GB ⟨b0,off,GA⟩) cap ak ck f e ar u wx L/\EmW wx L rb lv s/\dQ I17 w1 o1 wx L)
 case first =>
  have HX:Hid (∀ (p q:Obj) (gt gb:Nat),((w1.alloc p).alloc q).drew.heap[gt]?=GB (.cells (il t ak ck) 34)->((w1.alloc p).alloc q).drew.heap[gb]?=GB (.cells (il b f e) 34)->w1.heap.size<=gt->w1.heap.size<=gb->∃L,CxQ rb g (g+1) (g+2) gt gb ⟨21,n,nm,a,Fs.ex t (Fs.ex b .nil)⟩ t b (GB ⟨b0,off,GA⟩) cap ak ck f e ar u ((w1.alloc p).alloc q).drew L/\EmW ((w1.alloc p).alloc q).drew L rb lv s/\dQ I17 w1 o1 ((w1.alloc p).alloc q).drew L):=λp q gt gb h1 h2 h3 h4=>by
   have B:=(al2 w1 p q).2.2.2.drew;have x:dQ (λ_=>False) w1 o1 ((w1.alloc p).alloc q).drew (dR w1 o1 0):=gT o1 B;exact⟨dR w1 o1 0,⟨ah.step x id,ab.step x id,ai.step x id,⟨h1,dY h3⟩,⟨h2,dY h4⟩,Sy.stepO x id,aj.stepO x id⟩,E1.step x noF,gT o1 B⟩
  have A1:=λp q=>al2 w1 p q;clear ah ab ai Sy aj NK am CC al E1 X1 HP;go_region_held3 (λwx=>wx.cell? ⟨g+1,3,GA⟩=GB (.slice (GB ⟨b0,off,GA⟩) 2 cap)/\wx.cell? ⟨b0,off,GA⟩=GB (.int .i64 t.k)/\wx.cell? ⟨b0,off+1,GA⟩=GB (.int .i64 t.n)/\wx.cell? ⟨b0,off+2,GA⟩=GB (stv t.nm)/\wx.cell? ⟨b0,off+3,GA⟩=GB (.slice ak t.kids.len ck)/\wx.cell? ⟨b0,off+4,GA⟩=GB (.int .i64 b.k)/\wx.cell? ⟨b0,off+5,GA⟩=GB (.int .i64 b.n)/\wx.cell? ⟨b0,off+6,GA⟩=GB (stv b.nm)/\wx.cell? ⟨b0,off+7,GA⟩=GB (.slice f b.kids.len e)) (go_keep) (fail)
  ·go_wp2;go_meet;obtain⟨L,h1,h2,h3⟩:=HX.out _ _ w1.heap.size (w1.heap.size+1) (A1 _ _).1 (A1 _ _).2.1 (by omega) (by omega);exact⟨_,_,L,rfl,rfl,h1,h2,h3⟩
  ·go_wp2;go_meet;obtain⟨L,h1,h2,h3⟩:=HX.out _ _ (w1.heap.size+1) w1.heap.size (A1 _ _).2.1 (A1 _ _).1 (by omega) (by omega);exact⟨_,_,L,rfl,rfl,h1,h2,h3⟩
 case rest =>
  obtain⟨gt,gb,L,rfl,rfl,Q2,E2,S2⟩:=hcut;clear m3 aF x0 x1 x2 x3 y0 y1 y2 y3 aD aC aB aA az ay ax aw CC NK am Sy aj ab ah ai n0 n1 n2 n3;have O:=X1.step S2 dZ;have aE:=(eo an).1;have Y:=(eo (eo an).2).1;have HC:=HP t ak ck ar u wc L rb lv ls s aK aE T.out M Q2.st V.out (by omega) (by omega) (by omega) Z O E2;rw[dS] at HC;have v:Hid (∀ w' o',dQ I17 wc L w' o'->w'.cell? ⟨g,0,GA⟩=GB (pt0 rb)/\(w'.cell? ⟨gb,0,GA⟩=GB (.int .i64 b.k)/\w'.cell? ⟨gb,1,GA⟩=GB (.int .i64 b.n)/\w'.cell? ⟨gb,2,GA⟩=GB (stv b.nm)/\w'.cell? ⟨gb,3,GA⟩=GB (.slice f b.kids.len e))/\w'.cell? ⟨g+2,0,GA⟩=GB (.int .i64 ar)/\w'.cell? ⟨g+2,1,GA⟩=GB (.int .i64 u)/\w'.cell? ⟨g+1,1,GA⟩=GB (.int .i64 n)):=λw' o' S=>by
   have Q:=Q2.step S dZ;exact⟨eP Q.bw.1,(dW Q.bb.1).1,(eh Q.ba.1).1,(eh Q.ba.1).2,(dW Q.bn.1).1.2.1⟩
  obtain⟨c0,⟨t0,t1,t2,t3⟩,a0,a1,n1⟩:=v.out _ _ (dQ.refl I17 wc L);obtain⟨⟨s0,s1,s2,s3⟩,-⟩:=dW Q2.bt.1;go_upto_region 3 with (first|(go_at_call 40;refine HC.mono ?_;rintro z w3 ⟨rfl,⟨o3,E3,P⟩,g3⟩))
  clear c0 t0 t1 t2 t3 a0 a1 n1 s0 s1 s2 s3;obtain⟨c0,⟨t0,t1,t2,t3⟩,a0,a1,n1⟩:=v.out _ _ P;by_cases aI:n=1
  ·subst aI;have y:=tA nc N HP b f e 15 0 ar u w3 o3 rb lv ls (emE ls t ar u s) Y aa T.out M (by omega) (by omega) (by omega) (by omega) (Q2.step P dZ).sb (g3.ks.trans V.out) (by have:=g3.mes;omega) (g3.dp Z) (O.step P dZ) E3;rw[dS] at y;clear HC HP;go_wp2_with (first|(go_at_call 128;refine y.mono ?_;rintro z w4 ⟨rfl,⟨l,E4,S4⟩,C⟩))
   go_end0
   exact⟨rfl,⟨l,by simpa [qua] using E4,((S0.trans S2).trans P).trans S4⟩,by simpa [qua] using (g3.trans C).le (by omega)⟩
  by_cases hn2:n=2
  ·subst hn2;have y:=tA nc N HP b f e 14 1 ar u w3 o3 rb lv ls (emE ls t ar u s) Y aa T.out M (by omega) (by omega) (by omega) (by omega) (Q2.step P dZ).sb (g3.ks.trans V.out) (by have:=g3.mes;omega) (g3.dp Z) (O.step P dZ) E3;rw[dS] at y;clear HC HP;go_wp2_with (first|(go_at_call 128;refine y.mono ?_;rintro z w4 ⟨rfl,⟨l,E4,S4⟩,C⟩))
   go_end0
   exact⟨rfl,⟨l,by simpa [qua] using E4,((S0.trans S2).trans P).trans S4⟩,by simpa [qua] using (g3.trans C).le (by omega)⟩
  by_cases aH:n=3
  ·subst aH;have U:=fo 0 1 ar u w3 o3 rb lv ls (emE ls t ar u s) (by omega) (by omega) (by omega) (g3.dp Z) (by have:=g3.mes;omega) (O.step P dZ) E3;go_upto_region 10 with (first|(go_at_call 74;refine U.mono ?_;rintro z w4 ⟨rfl,l,E4,S4⟩))
   have C:=g3.trans (iH (emE ls t ar u s) 0 1 u (by omega));have A:=P.trans S4;have c:=A.trans ((dQ.refl I17 w4 l).drew);have HO:=λw'=>kO ar u 1 w' (by omega) (by omega);have J:∀ m,GK w4.drew.heap.size w4.drew m->_:=λm r=>mB nc N HP 130 #[pt0 g,pt0 (g+2)] (λg x=>((x.lay 14 g 0).con 1 1 (u+1)).lay 6 0 0) 4 _ (CxQ.keeps _ _ _ _ _ _ _ _ _ _ _ _ _ _ _ _ _) EE b f e ar (u+1) m l rb lv ls ((Gf rb g (g+2) ar u lv ls (by omega)).mono (λ_ _ h=>⟨h.bw,h.ba⟩)) ((emE ls t ar u s).con 0 1 u) Y aa T.out M (by omega) (by omega) ((Q2.step c dZ).step (dQ.ofBelow (I:=λ_=>False) l r) id).sb (C.ks.trans V.out) (by have:=C.mes;omega) (C.dp Z) ((O.step c dZ).below r) ((E4.step ((dQ.refl (λ_=>False) w4 l).drew) noF).below r) ((Q2.step c dZ).step (dQ.ofBelow (I:=λ_=>False) l r) id);clear HC HP U c0 t0 t1 t2 t3 a0 a1 n1;obtain⟨c0,⟨t0,t1,t2,t3⟩,a0,a1,n1⟩:=v.out _ _ A;obtain⟨e0,⟨H,G,F,E⟩,D,h1,h2⟩:=v.out _ _ c;go_region_held3 (λwx=>wx.cell? ⟨g,0,GA⟩=GB (pt0 rb)/\(wx.cell? ⟨gb,0,GA⟩=GB (.int .i64 b.k)/\wx.cell? ⟨gb,1,GA⟩=GB (.int .i64 b.n)/\wx.cell? ⟨gb,2,GA⟩=GB (stv b.nm)/\wx.cell? ⟨gb,3,GA⟩=GB (.slice f b.kids.len e))/\wx.cell? ⟨g+2,0,GA⟩=GB (.int .i64 ar)/\wx.cell? ⟨g+2,1,GA⟩=GB (.int .i64 u)) (go_keep) (first|(go_at_call 84;refine(HO _).mono ?_;rintro z m ⟨rfl,r⟩;have i:=c.trans (dQ.ofBelow (I:=I17) l r);obtain⟨e0,⟨H,G,F,E⟩,D,h1,h2⟩:=v.out _ _ i;have y:=J m r;rw[dS] at y)|(go_at_call 129;refine y.mono ?_;rintro z w6 ⟨rfl,⟨K,E6,S6⟩,g6⟩;obtain⟨e0,⟨H,G,F,E⟩,D,h1,h2⟩:=v.out _ _ (i.trans S6)))
   all_goals
    go_wp2
    go_end0
    exact⟨rfl,⟨K,by simpa [qua] using E6,((S0.trans S2).trans i).trans S6⟩,by simpa [qua] using (C.trans g6).le (by omega)⟩
  by_cases hn4:n=4
  ·subst hn4;have U:=fo 0 1 ar u w3 o3 rb lv ls (emE ls t ar u s) (by omega) (by omega) (by omega) (g3.dp Z) (by have:=g3.mes;omega) (O.step P dZ) E3;go_upto_region 13 with (first|(go_at_call 74;refine U.mono ?_;rintro z w4 ⟨rfl,l,E4,S4⟩))
   have C:=g3.trans (iH (emE ls t ar u s) 0 1 u (by omega));have A:=P.trans S4;have c:=A.trans ((dQ.refl I17 w4 l).drew);have HO:=λw'=>kO ar u 1 w' (by omega) (by omega);have J:∀ m,GK w4.drew.heap.size w4.drew m->_:=λm r=>mB nc N HP 131 #[pt0 g] (λ_ x=>x.lay 6 0 0) 4 _ (CxQ.keeps _ _ _ _ _ _ _ _ _ _ _ _ _ _ _ _ _) El b f e ar (u+1) m l rb lv ls ((Gs rb g lv ls).mono (λ_ _ h=>h.bw)) ((emE ls t ar u s).con 0 1 u) Y aa T.out M (by omega) (by omega) ((Q2.step c dZ).step (dQ.ofBelow (I:=λ_=>False) l r) id).sb (C.ks.trans V.out) (by have:=C.mes;omega) (C.dp Z) ((O.step c dZ).below r) ((E4.step ((dQ.refl (λ_=>False) w4 l).drew) noF).below r) ((Q2.step c dZ).step (dQ.ofBelow (I:=λ_=>False) l r) id);clear HC HP U c0 t0 t1 t2 t3 a0 a1 n1;obtain⟨c0,⟨t0,t1,t2,t3⟩,a0,a1,n1⟩:=v.out _ _ A;obtain⟨e0,⟨H,G,F,E⟩,D,h1,h2⟩:=v.out _ _ c;go_region_held3 (λwx=>wx.cell? ⟨g,0,GA⟩=GB (pt0 rb)/\(wx.cell? ⟨gb,0,GA⟩=GB (.int .i64 b.k)/\wx.cell? ⟨gb,1,GA⟩=GB (.int .i64 b.n)/\wx.cell? ⟨gb,2,GA⟩=GB (stv b.nm)/\wx.cell? ⟨gb,3,GA⟩=GB (.slice f b.kids.len e))/\wx.cell? ⟨g+2,0,GA⟩=GB (.int .i64 ar)/\wx.cell? ⟨g+2,1,GA⟩=GB (.int .i64 u)) (go_keep) (first|(go_at_call 84;refine(HO _).mono ?_;rintro z m ⟨rfl,r⟩;have i:=c.trans (dQ.ofBelow (I:=I17) l r);obtain⟨e0,⟨H,G,F,E⟩,D,h1,h2⟩:=v.out _ _ i;have y:=J m r;rw[dS] at y)|(go_at_call 129;refine y.mono ?_;rintro z w6 ⟨rfl,⟨K,E6,S6⟩,g6⟩;obtain⟨e0,⟨H,G,F,E⟩,D,h1,h2⟩:=v.out _ _ (i.trans S6)))
   all_goals
    go_wp2
    go_end0
    exact⟨rfl,⟨K,by simpa [qua] using E6,((S0.trans S2).trans i).trans S6⟩,by simpa [qua] using (C.trans g6).le (by omega)⟩
  have ap:n=5\/n=6:=by omega
  rcases ap with hn5|hn5
  ·subst hn5;have U:=fo 0 1 ar u w3 o3 rb lv ls (emE ls t ar u s) (by omega) (by omega) (by omega) (g3.dp Z) (by have:=g3.mes;omega) (O.step P dZ) E3;go_upto_region 17 with (first|(go_at_call 74;refine U.mono ?_;rintro z w4 ⟨rfl,l,E4,S4⟩))
   have C:=g3.trans (iH (emE ls t ar u s) 0 1 u (by omega));have A:=P.trans S4;have c:=A.trans ((dQ.refl I17 w4 l).drew);have HO:=λw'=>kO ar u 1 w' (by omega) (by omega);have ae:=λw'=>kO ar u 2 w' (by omega) (by omega);have HK:∀ m,GK w4.drew.heap.size w4.drew m->GR GD 74 #[.pointer (GB ⟨rb,0,GA⟩),.int .i64 0,.int .i64 2,spV ar (u+1)] m (mX m l rb lv (((emE ls t ar u s).con 0 1 u).con 0 2 (u+1)) (.tuple #[])):=λm r=>fo 0 2 ar (u+1) m l rb lv ls ((emE ls t ar u s).con 0 1 u) (by omega) (by omega) (by omega) (C.dp Z) (by have:=C.mes;omega) ((O.step c dZ).below r) ((E4.step ((dQ.refl (λ_=>False) w4 l).drew) noF).below r);clear U c0 t0 t1 t2 t3 a0 a1 n1;obtain⟨c0,⟨t0,t1,t2,t3⟩,a0,a1,n1⟩:=v.out _ _ A;obtain⟨e0,⟨H,G,F,E⟩,D,h1,h2⟩:=v.out _ _ c;go_region_held3 (λwx=>wx.cell? ⟨g,0,GA⟩=GB (pt0 rb)/\wx.cell? ⟨g+2,0,GA⟩=GB (.int .i64 ar)/\wx.cell? ⟨g+2,1,GA⟩=GB (.int .i64 u)) (go_keep) (first|(go_at_call 84;refine(HO _).mono ?_;rintro z m ⟨rfl,r⟩;have i:=c.trans (dQ.ofBelow (I:=I17) l r);obtain⟨e0,⟨H,G,F,E⟩,D,h1,h2⟩:=v.out _ _ i;have y:=HK m r)|(go_at_call 74;refine y.mono ?_;rintro z w6 ⟨rfl,K,E6,S6⟩;obtain⟨e0,⟨H,G,F,E⟩,D,h1,h2⟩:=v.out _ _ (i.trans S6)))
   all_goals
    have ad:=i.trans S6;have d:=ad.trans ((dQ.refl I17 w6 K).drew);have g6:=C.trans (iH ((emE ls t ar u s).con 0 1 u) 0 2 (u+1) (by omega));have J:∀ w7,GK w6.drew.heap.size w6.drew w7->_:=λw7 W=>mB nc N HP 132 #[pt0 g,pt0 (g+1)] (λ_ x=>x.lay 26 (5-5:Int).toNat 0) 4 _ (CxQ.keeps _ _ _ _ _ _ _ _ _ _ _ _ _ _ _ _ _) As b f e ar (u+2) w7 K rb lv ls ((DJ rb g (g+1) ⟨21,5,nm,a,Fs.ex t (Fs.ex b .nil)⟩ (GB ⟨b0,off,GA⟩) cap lv ls (by simp)).mono (λ_ _ h=>⟨h.bw,h.bn⟩)) (((emE ls t ar u s).con 0 1 u).con 0 2 (u+1)) Y aa T.out M (by omega) (by omega) ((Q2.step d dZ).step (dQ.ofBelow (I:=λ_=>False) K W) id).sb (g6.ks.trans V.out) (by have:=g6.mes;omega) (g6.dp Z) ((O.step d dZ).below W) ((E6.step ((dQ.refl (λ_=>False) w6 K).drew) noF).below W) ((Q2.step d dZ).step (dQ.ofBelow (I:=λ_=>False) K W) id);clear HK y HO c0 t0 t1 t2 t3 a0 a1 n1 e0 H G F E D h1 h2;obtain⟨c0,⟨t0,t1,t2,t3⟩,a0,a1,n1⟩:=v.out _ _ ad;obtain⟨e0,⟨H,G,F,E⟩,D,h1,h2⟩:=v.out _ _ d;go_upto_region 18 with fail;go_region_held3 (λwx=>wx.cell? ⟨g,0,GA⟩=GB (pt0 rb)/\(wx.cell? ⟨gb,0,GA⟩=GB (.int .i64 b.k)/\wx.cell? ⟨gb,1,GA⟩=GB (.int .i64 b.n)/\wx.cell? ⟨gb,2,GA⟩=GB (stv b.nm)/\wx.cell? ⟨gb,3,GA⟩=GB (.slice f b.kids.len e))/\wx.cell? ⟨g+2,0,GA⟩=GB (.int .i64 ar)/\wx.cell? ⟨g+2,1,GA⟩=GB (.int .i64 u)) (go_keep) (first|(go_at_call 84;refine(ae _).mono ?_;rintro z w7 ⟨rfl,W⟩;have R:=d.trans (dQ.ofBelow (I:=I17) K W);obtain⟨e0,⟨H,G,F,E⟩,D,h1,h2⟩:=v.out _ _ R;have y:=J w7 W;rw[dS] at y)|(go_at_call 129;refine y.mono ?_;rintro z w8 ⟨rfl,⟨o8,E8,S8⟩,g8⟩;obtain⟨e0,⟨H,G,F,E⟩,D,h1,h2⟩:=v.out _ _ (R.trans S8)))
    all_goals
     have ac:=R.trans S8;have g18:=g6.trans g8;have U:=fm 27 0 0 w8 o8 rb lv ls (pM ls (emE ls b) (λ_ x=>x.lay 26 (5-5:Int).toNat 0) ar (u+2) (((emE ls t ar u s).con 0 1 u).con 0 2 (u+1))) (by omega) (by omega) (by omega) (by have:=g18.mes;omega) (O.step ac dZ) E8;clear J y ae;go_wp2_with (first|(go_at_call 41;refine U.mono ?_;rintro z w9 ⟨rfl,o9,E9,S9⟩))
     go_end0
     exact⟨rfl,⟨o9,by simpa [qua] using E9,((S0.trans S2).trans ac).trans S9⟩,by simpa [qua] using (g18.trans (eR _ 27 0 0)).le (by omega)⟩
  ·subst hn5;have U:=fo 0 1 ar u w3 o3 rb lv ls (emE ls t ar u s) (by omega) (by omega) (by omega) (g3.dp Z) (by have:=g3.mes;omega) (O.step P dZ) E3;go_upto_region 17 with (first|(go_at_call 74;refine U.mono ?_;rintro z w4 ⟨rfl,l,E4,S4⟩))
   have C:=g3.trans (iH (emE ls t ar u s) 0 1 u (by omega));have A:=P.trans S4;have c:=A.trans ((dQ.refl I17 w4 l).drew);have HO:=λw'=>kO ar u 1 w' (by omega) (by omega);have ae:=λw'=>kO ar u 2 w' (by omega) (by omega);have HK:∀ m,GK w4.drew.heap.size w4.drew m->GR GD 74 #[.pointer (GB ⟨rb,0,GA⟩),.int .i64 0,.int .i64 2,spV ar (u+1)] m (mX m l rb lv (((emE ls t ar u s).con 0 1 u).con 0 2 (u+1)) (.tuple #[])):=λm r=>fo 0 2 ar (u+1) m l rb lv ls ((emE ls t ar u s).con 0 1 u) (by omega) (by omega) (by omega) (C.dp Z) (by have:=C.mes;omega) ((O.step c dZ).below r) ((E4.step ((dQ.refl (λ_=>False) w4 l).drew) noF).below r);clear U c0 t0 t1 t2 t3 a0 a1 n1;obtain⟨c0,⟨t0,t1,t2,t3⟩,a0,a1,n1⟩:=v.out _ _ A;obtain⟨e0,⟨H,G,F,E⟩,D,h1,h2⟩:=v.out _ _ c;go_region_held3 (λwx=>wx.cell? ⟨g,0,GA⟩=GB (pt0 rb)/\wx.cell? ⟨g+2,0,GA⟩=GB (.int .i64 ar)/\wx.cell? ⟨g+2,1,GA⟩=GB (.int .i64 u)) (go_keep) (first|(go_at_call 84;refine(HO _).mono ?_;rintro z m ⟨rfl,r⟩;have i:=c.trans (dQ.ofBelow (I:=I17) l r);obtain⟨e0,⟨H,G,F,E⟩,D,h1,h2⟩:=v.out _ _ i;have y:=HK m r)|(go_at_call 74;refine y.mono ?_;rintro z w6 ⟨rfl,K,E6,S6⟩;obtain⟨e0,⟨H,G,F,E⟩,D,h1,h2⟩:=v.out _ _ (i.trans S6)))
   all_goals
    have ad:=i.trans S6;have d:=ad.trans ((dQ.refl I17 w6 K).drew);have g6:=C.trans (iH ((emE ls t ar u s).con 0 1 u) 0 2 (u+1) (by omega));have J:∀ w7,GK w6.drew.heap.size w6.drew w7->_:=λw7 W=>mB nc N HP 132 #[pt0 g,pt0 (g+1)] (λ_ x=>x.lay 26 (6-5:Int).toNat 0) 4 _ (CxQ.keeps _ _ _ _ _ _ _ _ _ _ _ _ _ _ _ _ _) As b f e ar (u+2) w7 K rb lv ls ((DJ rb g (g+1) ⟨21,6,nm,a,Fs.ex t (Fs.ex b .nil)⟩ (GB ⟨b0,off,GA⟩) cap lv ls (by simp)).mono (λ_ _ h=>⟨h.bw,h.bn⟩)) (((emE ls t ar u s).con 0 1 u).con 0 2 (u+1)) Y aa T.out M (by omega) (by omega) ((Q2.step d dZ).step (dQ.ofBelow (I:=λ_=>False) K W) id).sb (g6.ks.trans V.out) (by have:=g6.mes;omega) (g6.dp Z) ((O.step d dZ).below W) ((E6.step ((dQ.refl (λ_=>False) w6 K).drew) noF).below W) ((Q2.step d dZ).step (dQ.ofBelow (I:=λ_=>False) K W) id);clear HK y HO c0 t0 t1 t2 t3 a0 a1 n1 e0 H G F E D h1 h2;obtain⟨c0,⟨t0,t1,t2,t3⟩,a0,a1,n1⟩:=v.out _ _ ad;obtain⟨e0,⟨H,G,F,E⟩,D,h1,h2⟩:=v.out _ _ d;go_upto_region 18 with fail;go_region_held3 (λwx=>wx.cell? ⟨g,0,GA⟩=GB (pt0 rb)/\(wx.cell? ⟨gb,0,GA⟩=GB (.int .i64 b.k)/\wx.cell? ⟨gb,1,GA⟩=GB (.int .i64 b.n)/\wx.cell? ⟨gb,2,GA⟩=GB (stv b.nm)/\wx.cell? ⟨gb,3,GA⟩=GB (.slice f b.kids.len e))/\wx.cell? ⟨g+2,0,GA⟩=GB (.int .i64 ar)/\wx.cell? ⟨g+2,1,GA⟩=GB (.int .i64 u)) (go_keep) (first|(go_at_call 84;refine(ae _).mono ?_;rintro z w7 ⟨rfl,W⟩;have R:=d.trans (dQ.ofBelow (I:=I17) K W);obtain⟨e0,⟨H,G,F,E⟩,D,h1,h2⟩:=v.out _ _ R;have y:=J w7 W;rw[dS] at y)|(go_at_call 129;refine y.mono ?_;rintro z w8 ⟨rfl,⟨o8,E8,S8⟩,g8⟩;obtain⟨e0,⟨H,G,F,E⟩,D,h1,h2⟩:=v.out _ _ (R.trans S8)))
    all_goals
     have ac:=R.trans S8;have g18:=g6.trans g8;have U:=fm 27 0 0 w8 o8 rb lv ls (pM ls (emE ls b) (λ_ x=>x.lay 26 (6-5:Int).toNat 0) ar (u+2) (((emE ls t ar u s).con 0 1 u).con 0 2 (u+1))) (by omega) (by omega) (by omega) (by have:=g18.mes;omega) (O.step ac dZ) E8;clear J y ae;go_wp2_with (first|(go_at_call 41;refine U.mono ?_;rintro z w9 ⟨rfl,o9,E9,S9⟩))
     go_end0
     exact⟨rfl,⟨o9,by simpa [qua] using E9,((S0.trans S2).trans ac).trans S9⟩,by simpa [qua] using (g18.trans (eR _ 27 0 0)).le (by omega)⟩
end Go.Proofs.YtkhgahljbpmfaaaGreatDoor

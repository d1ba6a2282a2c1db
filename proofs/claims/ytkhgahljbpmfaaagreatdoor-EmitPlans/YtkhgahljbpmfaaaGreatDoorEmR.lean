import Derived.Test.YtkhgahljbpmfaaaGreatDoorEmM
import Derived.Laws.BitsAllLaws
import Derived.Laws.Bits64
import Derived.Laws.ShiftsVarLaws
import Derived.Below
import Derived.IntWalk
import Derived.Lib.LaidTab
set_option maxRecDepth 100000
set_option maxHeartbeats 8000000
namespace Go.Proofs.YtkhgahljbpmfaaaGreatDoor
open Option renaming none->GE,some->GF
open Nat renaming le_refl->GG,lt_of_lt_of_le->GQ,le_trans->Hr
open Go.Proofs.Tryz renaming prog->GH,underlying35->Hy,ntmps85->Iz,func85->IG,underlying9->IR,underlying3->IX,underlying40->I7
open Go renaming World->GI,bodyPost_ret->GK,heap_alloc_new->GL,Value->GN,heap_setCell_other->GT,Calls->GV,maxLen->G5,Addr->Ha,TypeId->Hp,heap_setCell_same->In,heap_alloc_old->Ir,Ending->IL,results_none->I3,MemPlace->Jh,DataW->Jr,Program->Jw
open List renaming getElem?_eq_getElem->GM,length_append->Hb,length_cons->Hc,getD_eq_getElem?_getD->Hf,mem_cons->Iu,getElem_mem->Ix,getD_cons_zero->ID,getD_cons_succ->IE,drop_eq_getElem_cons->IQ,ext_getElem?->Jo,idxOf_append->Kb
open Go.RowKit renaming Below->GO,intOf->Hl,wrap64->Hs
open Go.Lib renaming hid->GP
open Go.RowKit.Below renaming refl->GR
open Go.World renaming cell?_of_block->GW,cell?->JJ,frozen?->JU
open Exists renaming intro->G9
open Go.Instr renaming lookup->J6
open Int renaming toNat_natCast->Ij
open Go.Ending renaming returned->Jb
open Go.Maps renaming size->JO,has->J2
open Go.WideAt renaming IsKeyLit->JX
open Go.ChangeShapes Go.WideShapes Go.ChangeAt Go.RowKit Go.Maps
set_option linter.unusedVariables false
set_option linter.unusedSimpArgs false
theorem oq {P:Jw}{K:Hp}{R:GN->Option (Jr Unit × List Jh)}{w:GI}{b n:Nat}{D:Jr Unit}(h:w.ownsMap P K R b n D):w.ownsMap P K R b (JO D) D:=by
 obtain⟨d,a,c,F,e,rfl⟩:=h;exact⟨d,a,c,F,by simp[JO,length_sorted],rfl⟩
theorem la {P:Jw}{K:Hp}{R:GN->Option (Jr Unit × List Jh)}{w w':GI}{o o':Nat->Nat}{I:Nat->Prop}{b n:Nat}{D:Jr Unit}(h:w.ownsMap P K R b n D)(s:dQ I w o w' o')(e:¬I (o b)):w'.ownsMap P K R b n D:=by
 have c:=h.lt;obtain⟨i,a,f,F,d,g⟩:=h;exact⟨i,a,(s.block b c e).trans f,F,d,g⟩
theorem mz {w w':GI}{o:Nat->Nat}{b i:Nat}(h:w.mapTurned w' b)(d:o b=i):dQ (λk=>k=i) w o w' o :=
 let g:=h.grown
 ⟨g.os,g.tape,g.output,g.size,λ_ _=>rfl,λk c a=>g.block k c (λe=>a (by cases e;exact d))⟩
def mU:GN->Option (Jr Unit × List Jh)
 | .int .i64 a=>GF (.lit (.int .i64 a),[])
 | _=>GE
theorem oa {v:GN}{a:Int}{ps:List Jh}(h:mU v=GF (.lit (.int .i64 a),ps)):v=.int .i64 a:=by
 unfold mU at h;split at h
 ·simp at h;rw[h.1]
 ·cases h
theorem nC {v:GN}{y:Jr Unit × List Jh}(h:mU v=GF y):∃a,v=.int .i64 a:=by
 unfold mU at h;split at h
 ·exact⟨_,rfl⟩
 ·cases h
theorem ry (w:GI):(zeroValue 3).run GH w=.ok (.int .i64 0) w:=by kernel_rfl
theorem nX:Keyed GH 3:=int_keyed IX
theorem nU:Keyed GH 9:=string_keyed IR
theorem EM (k:Int)(h:-9223372036854775808<=k/\k<=9223372036854775807):keyOf GH 3 (.int .i64 k)=GF (.int .i64 k):=keyOf_int_mk IX (WalkArith.wf_i64 (by have:=h.1;have:=h.2;omega))
theorem El (x:List UInt8)(h:x.length<=G5):keyOf GH 9 (stv x)=GF (.string x):=by
 have:=WideMaps.keyOf_string_mk (P:=GH) IR (s:=⟨x.toArray⟩) (by rw[show (⟨x.toArray⟩:ByteArray).size=x.toArray.size from rfl];simpa using h)
 simpa using this
theorem vM {α:Type}[BEq α][LawfulBEq α]{l:List α}{x:α}(h:x ∉ l):(l++[x]).idxOf x=l.length:=by
 rw[Kb,if_neg h];simp
theorem vD {α:Type}[BEq α][LawfulBEq α]{l:List α}{x y:α}(h:y ∈ l):(l++[x]).idxOf y=l.idxOf y:=by
 rw[Kb,if_pos h]
theorem mC {α:Type}[BEq α][LawfulBEq α]{l:List α}{x:α}(h:x ∉ l):l.idxOf x=l.length:=List.idxOf_eq_length h
def MpC (w:GI)(o:Nat->Nat)(i b:Nat)(l:List (Int)):Prop :=
 ∃D:Jr Unit,w.ownsMap GH 3 mU b l.length D/\JO D=l.length/\o b=i /\
  ∀ k:Int,J2 D (.int .i64 k)=decide (k ∈ l)/\(k ∈ l->D.atKey (.int .i64 k) (.lit (.int .i64 0))=.lit (.int .i64 (l.idxOf k:Nat)))
theorem MpC.step {I:Nat->Prop}{w w':GI}{o o':Nat->Nat}{i b:Nat}{l:List (Int)}(h:MpC w o i b l)(s:dQ I w o w' o')(c:¬I i):MpC w' o' i b l:=by
 obtain⟨D,h1,h2,a,d⟩:=h;exact⟨D,la h1 s (by rw[a];exact c),h2,(s.lab b h1.lt).trans a,d⟩
theorem MpC.made (w:GI)(o:Nat->Nat)(i:Nat):MpC (w.alloc (.map #[] 0)) (dR w o i) i w.heap.size [] :=
 ⟨.map [],World.ownsMap_made _ _ _ _,rfl,dY (GG _),λk=>⟨by simp[J2],λh=>by simp at h⟩⟩
theorem MpC.look {w:GI}{o:Nat->Nat}{i b:Nat}{l:List (Int)}(h:MpC w o i b l)(k:Int)(g:-9223372036854775808<=k/\k<=9223372036854775807)(d:k ∈ l) :
  (J6 87 (.map (GF b)) (.int .i64 k) true).run GH w=.ok (.tuple #[.int .i64 (l.idxOf k:Nat),.bool true]) w:=by
 obtain⟨D,h1,h2,j,f⟩:=h;obtain⟨c,ps,a,e⟩:=h1.look_ok nX Tryz.underlying87 (ry w) (zd:=.lit (.int .i64 0)) (zp:=[]) rfl (EM k g);rw[(f k).2 d] at e;rw[(f k).1,oa e,decide_eq_true d] at a;exact a
theorem MpC.miss {w:GI}{o:Nat->Nat}{i b:Nat}{l:List (Int)}(h:MpC w o i b l)(k:Int)(e:-9223372036854775808<=k/\k<=9223372036854775807)(d:k ∉ l) :
  ∃x:Int,(J6 87 (.map (GF b)) (.int .i64 k) true).run GH w=.ok (.tuple #[.int .i64 x,.bool false]) w:=by
 obtain⟨D,h1,h2,j,g⟩:=h;obtain⟨c,ps,a,f⟩:=h1.look_ok nX Tryz.underlying87 (ry w) (zd:=.lit (.int .i64 0)) (zp:=[]) rfl (EM k e);obtain⟨x,rfl⟩:=nC f;rw[(g k).1,decide_eq_false d] at a;exact⟨x,a⟩
theorem MpC.put {w:GI}{o:Nat->Nat}{i b:Nat}{l:List (Int)}(h:MpC w o i b l)(k:Int)(s:-9223372036854775808<=k/\k<=9223372036854775807)(j:k ∉ l)(t:l.length<=1000000000) :
  ∃w',(Instr.mapUpdate 87 (.map (GF b)) (.int .i64 k) (.int .i64 (l.length:Nat))).run GH w=.ok () w'/\MpC w' o i b (l++[k])/\dQ (λk=>k=i) w o w' o:=by
 obtain⟨D,h1,h2,m,g⟩:=h;obtain⟨w',q,r,p⟩:=h1.store (val:=.int .i64 (l.length:Nat)) (d:=.lit (.int .i64 (l.length:Nat))) (ps:=[]) nX Tryz.underlying87 (by unfold G5;omega) (EM k s) rfl;have a:JO (D.put (.int .i64 k) (.lit (.int .i64 (l.length:Nat))))=l.length+1:=by
  rw[size_put (h1.tidy nX),h2,(g k).1,decide_eq_false j];simp
 have c:=oq r;rw[a] at c;refine⟨w',q,⟨_,by rw[Hb];exact c,by rw[a,Hb];rfl,m,λy=>?_⟩,mz p m⟩;by_cases e:y=k
 ·subst e;rw[has_put_same h1.isMap (show JX (.int .i64 y) from trivial),atKey_put_same h1.isMap (show JX (.int .i64 y) from trivial),vM j];exact⟨by simp,λ_=>rfl⟩
 ·have f:Lit.int .i64 y≠Lit.int .i64 k:=λh=>e (by simpa using h);rw[has_put_other f,atKey_put_other f,(g y).1];refine⟨by simp[e],λn=>?_⟩;have hy2:y ∈ l:=by simpa [e] using n
  rw[vD hy2];exact(g y).2 hy2
def MpS (w:GI)(o:Nat->Nat)(i b:Nat)(l:List (List UInt8)):Prop :=
 ∃D:Jr Unit,w.ownsMap GH 9 mU b l.length D/\JO D=l.length/\o b=i /\
  ∀ k:List UInt8,J2 D (.string k)=decide (k ∈ l)/\(k ∈ l->D.atKey (.string k) (.lit (.int .i64 0))=.lit (.int .i64 (l.idxOf k:Nat)))
theorem MpS.step {I:Nat->Prop}{w w':GI}{o o':Nat->Nat}{i b:Nat}{l:List (List UInt8)}(h:MpS w o i b l)(s:dQ I w o w' o')(c:¬I i):MpS w' o' i b l:=by
 obtain⟨D,h1,h2,a,d⟩:=h;exact⟨D,la h1 s (by rw[a];exact c),h2,(s.lab b h1.lt).trans a,d⟩
theorem MpS.made (w:GI)(o:Nat->Nat)(i:Nat):MpS (w.alloc (.map #[] 0)) (dR w o i) i w.heap.size [] :=
 ⟨.map [],World.ownsMap_made _ _ _ _,rfl,dY (GG _),λk=>⟨by simp[J2],λh=>by simp at h⟩⟩
theorem MpS.look {w:GI}{o:Nat->Nat}{i b:Nat}{l:List (List UInt8)}(h:MpS w o i b l)(k:List UInt8)(g:k.length<=G5)(d:k ∈ l) :
  (J6 88 (.map (GF b)) (stv k) true).run GH w=.ok (.tuple #[.int .i64 (l.idxOf k:Nat),.bool true]) w:=by
 obtain⟨D,h1,h2,j,f⟩:=h;obtain⟨c,ps,a,e⟩:=h1.look_ok nU Tryz.underlying88 (ry w) (zd:=.lit (.int .i64 0)) (zp:=[]) rfl (El k g);rw[(f k).2 d] at e;rw[(f k).1,oa e,decide_eq_true d] at a;exact a
theorem MpS.miss {w:GI}{o:Nat->Nat}{i b:Nat}{l:List (List UInt8)}(h:MpS w o i b l)(k:List UInt8)(e:k.length<=G5)(d:k ∉ l) :
  ∃x:Int,(J6 88 (.map (GF b)) (stv k) true).run GH w=.ok (.tuple #[.int .i64 x,.bool false]) w:=by
 obtain⟨D,h1,h2,j,g⟩:=h;obtain⟨c,ps,a,f⟩:=h1.look_ok nU Tryz.underlying88 (ry w) (zd:=.lit (.int .i64 0)) (zp:=[]) rfl (El k e);obtain⟨x,rfl⟩:=nC f;rw[(g k).1,decide_eq_false d] at a;exact⟨x,a⟩
theorem MpS.put {w:GI}{o:Nat->Nat}{i b:Nat}{l:List (List UInt8)}(h:MpS w o i b l)(k:List UInt8)(s:k.length<=G5)(j:k ∉ l)(t:l.length<=1000000000) :
  ∃w',(Instr.mapUpdate 88 (.map (GF b)) (stv k) (.int .i64 (l.length:Nat))).run GH w=.ok () w'/\MpS w' o i b (l++[k])/\dQ (λk=>k=i) w o w' o:=by
 obtain⟨D,h1,h2,m,g⟩:=h;obtain⟨w',q,r,p⟩:=h1.store (val:=.int .i64 (l.length:Nat)) (d:=.lit (.int .i64 (l.length:Nat))) (ps:=[]) nU Tryz.underlying88 (by unfold G5;omega) (El k s) rfl;have a:JO (D.put (.string k) (.lit (.int .i64 (l.length:Nat))))=l.length+1:=by
  rw[size_put (h1.tidy nU),h2,(g k).1,decide_eq_false j];simp
 have c:=oq r;rw[a] at c;refine⟨w',q,⟨_,by rw[Hb];exact c,by rw[a,Hb];rfl,m,λy=>?_⟩,mz p m⟩;by_cases e:y=k
 ·subst e;rw[has_put_same h1.isMap (show JX (.string y) from trivial),atKey_put_same h1.isMap (show JX (.string y) from trivial),vM j];exact⟨by simp,λ_=>rfl⟩
 ·have f:Lit.string y≠Lit.string k:=λh=>e (by simpa using h);rw[has_put_other f,atKey_put_other f,(g y).1];refine⟨by simp[e],λn=>?_⟩;have hy2:y ∈ l:=by simpa [e] using n
  rw[vD hy2];exact(g y).2 hy2
open Go.RowKit
theorem jE (n:Int)(h1:-9223372036854775808<=n)(h2:n<=9223372036854775807):Hs n=n:=by
 unfold Hs;omega
theorem Dy (x y:Int)(h1:0<=x)(h2:x<68719476736)(b:0<=y)(a:y<268435456):bits .or .u64 (x*268435456) y=x*268435456+y:=by
 rw[u64_or _ _ (by omega) (by omega) (by omega) (by omega),nat_join 28 _ _ (by omega) (by omega)];omega
theorem CV (o a b:Int)(h1:0<=o)(h2:o<=255)(f:0<=a)(d:a<=268435455)(h5:0<=b)(c:b<=268435455) :
  bits .or .u64 (bits .or .u64 (o*72057594037927936) (a*268435456)) b=(o*268435456+a)*268435456+b:=by
 have e:bits .or .u64 (o*72057594037927936) (a*268435456)=(o*268435456+a)*268435456:=by
  rw[u64_or _ _ (by omega) (by omega) (by omega) (by omega),nat_join 56 _ _ (by omega) (by omega)];omega
 rw[e,Dy _ _ (by omega) (by omega) h5 (by omega)]
theorem zg (u:Int)(h1:0<=u)(h2:u<18446744073709551616):Hs (bits .and .u64 (u / 72057594037927936) 255)=u / 72057594037927936:=by
 rw[u64_and _ _ (by omega) (by omega) (by omega) (by omega),show (255:Int).toNat=255 from rfl,nat_mask8,jE _ (by omega) (by omega)];omega
theorem oN (x:Nat):x &&& 268435455=x % 268435456:=Nat.and_two_pow_sub_one_eq_mod x 28
theorem Al (u:Int)(h1:0<=u)(h2:u<18446744073709551616):Hs (bits .and .u64 (u / 268435456) 268435455)=u / 268435456 % 268435456:=by
 rw[u64_and _ _ (by omega) (by omega) (by omega) (by omega),show (268435455:Int).toNat=268435455 from rfl,oN,jE _ (by omega) (by omega)];omega
theorem yO (u:Int)(h1:0<=u)(h2:u<18446744073709551616):Hs (bits .and .u64 u 268435455)=u % 268435456:=by
 rw[u64_and _ _ (by omega) (by omega) (by omega) (by omega),show (268435455:Int).toNat=268435455 from rfl,oN,jE _ (by omega) (by omega)];omega
open Go.ChangeShapes Go.WideShapes Go.ChangeAt Go.RowKit
theorem gTab : Tryz.prog.globalNamed "isthmus/pack.fields" = GF 2 := by kernel_rfl
theorem zG:(Tryz.prog.globals[2]?).map (·.type)=GF 223:=by kernel_rfl
theorem Ac:Tryz.prog.cellsOf 223=6:=by kernel_rfl
theorem oY:Tryz.prog.cellsOf 222=2:=by kernel_rfl
theorem yv:Tryz.prog.cellsOf 175=1:=by kernel_rfl
theorem rO:Tryz.prog.cellsOf 54=1:=by kernel_rfl
def Tab (w:GI):Prop :=
 w.cell? ⟨2,0,GE⟩=GF (.int .u64 56)/\w.cell? ⟨2,1,GE⟩=GF (.int .u64 255)/\w.cell? ⟨2,2,GE⟩=GF (.int .u64 28) /\
 w.cell? ⟨2,3,GE⟩=GF (.int .u64 268435455)/\w.cell? ⟨2,4,GE⟩=GF (.int .u64 0)/\w.cell? ⟨2,5,GE⟩=GF (.int .u64 268435455)/\2<w.heap.size
theorem Tab.below {w w':GI}(h:Tab w)(b:GO w.heap.size w w'):Tab w':=by
 obtain⟨e,h1,h2,d,c,h5,a⟩:=h;refine⟨?_,?_,?_,?_,?_,?_,GQ a b.size⟩
 ·exact(b.cell (p:=⟨2,0,GE⟩) a).trans e
 ·exact(b.cell (p:=⟨2,1,GE⟩) a).trans h1
 ·exact(b.cell (p:=⟨2,2,GE⟩) a).trans h2
 ·exact(b.cell (p:=⟨2,3,GE⟩) a).trans d
 ·exact(b.cell (p:=⟨2,4,GE⟩) a).trans c
 ·exact(b.cell (p:=⟨2,5,GE⟩) a).trans h5
theorem jZ (w:GI)(n:Nat):GO w.heap.size w (w.drewN n):=by
 have a:∀ (n:Nat) (v:GI),GO w.heap.size w v->GO w.heap.size w (v.drewN n):=by
  intro n
  induction n with
  | zero=>intro v h;exact h
  | succ n b=>intro v h;exact(b v h).drew
 exact a n w (GR _ _)
theorem DP {a b c:GI}(h:GO a.heap.size a b)(k:GO b.heap.size b c):GO a.heap.size a c:=h.trans (k.mono h.size)
theorem xc (n:Int)(w:GI)(a:Tab w)(h1:0<=n)(h2:n<=255) :
  GV GH 134 #[.int .i64 0,.int .i64 n] w λe w'=>e=.returned (.bool true)/\w'=w:=by
 have b:=a.2.1;go_enter Tryz.func134,Tryz.ntmps134;go_wp2;go_ret;exact⟨eN (by simp;try omega),rfl⟩
theorem yh (n:Int)(w:GI)(a:Tab w)(h1:0<=n)(h2:n<=268435455) :
  GV GH 134 #[.int .i64 1,.int .i64 n] w λe w'=>e=.returned (.bool true)/\w'=w:=by
 have b:=a.2.2.2.1;go_enter Tryz.func134,Tryz.ntmps134;go_wp2;go_ret;exact⟨eN (by simp;try omega),rfl⟩
theorem xd (n:Int)(w:GI)(a:Tab w)(h1:0<=n)(h2:n<=268435455) :
  GV GH 134 #[.int .i64 2,.int .i64 n] w λe w'=>e=.returned (.bool true)/\w'=w:=by
 have b:=a.2.2.2.2.2.1;go_enter Tryz.func134,Tryz.ntmps134;go_wp2;go_ret;exact⟨eN (by simp;try omega),rfl⟩
theorem lay0 (n:Int)(w:GI)(a:Tab w)(h1:0<=n)(h2:n<=255) :
  GV GH 135 #[.int .i64 0,.int .i64 n] w λe w'=>e=.returned (.int .u64 (n*72057594037927936))/\w'=w:=by
 have b:=a.1;go_enter Tryz.func135,Tryz.ntmps135;go_wp2;go_ret;exact⟨rfl,rfl⟩
theorem lay1 (n:Int)(w:GI)(a:Tab w)(h1:0<=n)(h2:n<=268435455) :
  GV GH 135 #[.int .i64 1,.int .i64 n] w λe w'=>e=.returned (.int .u64 (n*268435456))/\w'=w:=by
 have b:=a.2.2.1;go_enter Tryz.func135,Tryz.ntmps135;go_wp2;go_ret;exact⟨rfl,rfl⟩
theorem lay2 (n:Int)(w:GI)(a:Tab w)(h1:0<=n)(h2:n<=268435455) :
  GV GH 135 #[.int .i64 2,.int .i64 n] w λe w'=>e=.returned (.int .u64 n)/\w'=w:=by
 have b:=a.2.2.2.2.1;go_enter Tryz.func135,Tryz.ntmps135;go_wp2;go_ret;exact⟨nW (by simp),rfl⟩
theorem Gh (u:Int)(w:GI)(a:Tab w)(h1:0<=u)(h2:u<18446744073709551616) :
  GV GH 196 #[.int .i64 0,.int .u64 u] w λe w'=>e=.returned (.int .i64 (u / 72057594037927936))/\GO w.heap.size w w':=by
 have c:=a.1;have b:=a.2.1;go_enter Tryz.func196,Tryz.ntmps196;go_wp2
 go_quiet (fail)
 go_wp2;go_ret;exact⟨nW (zg u h1 h2),jZ _ _⟩
theorem FQ (u:Int)(w:GI)(a:Tab w)(h1:0<=u)(h2:u<18446744073709551616) :
  GV GH 196 #[.int .i64 1,.int .u64 u] w λe w'=>e=.returned (.int .i64 (u / 268435456 % 268435456))/\GO w.heap.size w w':=by
 have c:=a.2.2.1;have b:=a.2.2.2.1;go_enter Tryz.func196,Tryz.ntmps196;go_wp2
 go_quiet (fail)
 go_wp2;go_ret;exact⟨nW (Al u h1 h2),jZ _ _⟩
theorem Gy (u:Int)(w:GI)(a:Tab w)(h1:0<=u)(h2:u<18446744073709551616) :
  GV GH 196 #[.int .i64 2,.int .u64 u] w λe w'=>e=.returned (.int .i64 (u % 268435456))/\GO w.heap.size w w':=by
 have c:=a.2.2.2.2.1;have b:=a.2.2.2.2.2.1;go_enter Tryz.func196,Tryz.ntmps196;go_wp2
 go_quiet (fail)
 go_wp2;go_ret;exact⟨nW (by simpa using yO u h1 h2),jZ _ _⟩
theorem BN {k l:IntKind}{a b c:Int}(h:a=b):Jb (.tuple #[.int k a,.int l c])=.returned (.tuple #[.int k b,.int l c]):=by rw[h]
theorem rX (o a b:Int)(w:GI)(c:Tab w)(h1:0<=o)(h2:o<=255)(g:0<=a)(f:a<=268435455)(h5:0<=b)(d:b<=268435455) :
  GV GH 86 #[.int .i64 o,.int .i64 a,.int .i64 b] w λe w' =>
   e=.returned (.tuple #[.int .u64 ((o*268435456+a)*268435456+b),.int .i64 0])/\w'=w:=by
 go_enter Tryz.func86,Tryz.ntmps86;go_wp2_with fail;refine(xc o w c h1 h2).mono ?_;rintro e w1 ⟨rfl,rfl⟩;go_wp2_with fail;refine(yh a _ c g f).mono ?_;rintro e w1 ⟨rfl,rfl⟩;go_wp2_with fail;refine(xd b _ c h5 d).mono ?_;rintro e w1 ⟨rfl,rfl⟩;go_wp2_with fail;refine(lay0 o _ c h1 h2).mono ?_;rintro e w1 ⟨rfl,rfl⟩;go_wp2_with fail;refine(lay1 a _ c g f).mono ?_;rintro e w1 ⟨rfl,rfl⟩;go_wp2_with fail;refine(lay2 b _ c h5 d).mono ?_;rintro e w1 ⟨rfl,rfl⟩;go_wp2;go_ret2;exact⟨BN (CV o a b h1 h2 g f h5 d),rfl⟩
theorem wW (u:Int)(w:GI)(g:Tab w)(h1:0<=u)(h2:u<18446744073709551616) :
  GV GH 146 #[.int .u64 u] w λe w' =>
   e=.returned (.tuple #[.int .i64 (u / 72057594037927936),.int .i64 (u / 268435456 % 268435456),.int .i64 (u % 268435456)])/\GO w.heap.size w w':=by
 go_enter Tryz.func146,Tryz.ntmps146;go_wp2_with fail;refine(Gh u w g h1 h2).mono ?_;rintro e w1 ⟨rfl,b⟩;have c:=g.below b;go_wp2_with fail;refine(FQ u w1 c h1 h2).mono ?_;rintro e w2 ⟨rfl,a⟩;have f:=c.below a;go_wp2_with fail;refine(Gy u w2 f h1 h2).mono ?_;rintro e w3 ⟨rfl,d⟩;go_wp2;go_ret3;exact⟨rfl,DP (DP b a) d⟩
abbrev I17:Nat->Prop:=λk=>1<=k/\k<=7
theorem fw {i:Nat}(h:1<=i/\i<=7):∀ k,k=i->I17 k:=λk a=>by subst a;exact h
def iU (x:Wo):Int:=((x.op:Int)*268435456+(x.a:Int))*268435456+(x.b:Int)
def Wo.ok (x:Wo):Prop:=x.op<=255/\x.a<=268435455/\x.b<=268435455
theorem Dc {x:Wo}(h:x.ok):0<=iU x/\iU x<18446744073709551616:=by
 obtain⟨h1,h2,a⟩:=h;unfold iU;omega
theorem uX {x:Wo}(h:x.ok):iU x / 72057594037927936=(x.op:Int)/\iU x / 268435456 % 268435456=(x.a:Int)/\iU x % 268435456=(x.b:Int):=by
 obtain⟨h1,h2,c⟩:=h;unfold iU;omega
def woV (l:List Wo):List GN:=l.map λx=>.int .u64 (iU x)
def eiV (l:List Int):List GN:=l.map (.int .i64 ·)
def esV (l:List (List UInt8)):List GN:=l.map stv
structure EmW (w:GI)(o:Nat->Nat)(rb:Nat)(lv:GN)(s:Em):Prop where
 ok:∀ x ∈ s.ws,x.ok
 ci:∀ n ∈ s.cs,-9223372036854775808<=n/\n<=9223372036854775807
 ni:∀ x ∈ s.ns,x.length<=G5
 mem:∃vw vc vn vk mc mn,Blk w o 1 rb (.cells #[vw,vc,vn,vk,.map (GF mc),.map (GF mn),lv,.int .i64 (s.dp:Nat)] 90) /\
  Row w o 2 54 1 vw s.ws.length (woV s.ws)/\Row w o 3 3 1 vc s.cs.length (eiV s.cs)/\Row w o 4 9 1 vn s.ns.length (esV s.ns)/\Row w o 5 3 1 vk s.ks.length (eiV s.ks) /\
  MpC w o 6 mc s.cs/\MpS w o 7 mn s.ns
theorem EmW.step {I:Nat->Prop}{w w':GI}{o o':Nat->Nat}{rb:Nat}{lv:GN}{s:Em}(h:EmW w o rb lv s)(x:dQ I w o w' o')(a:∀ k,I17 k->¬I k):EmW w' o' rb lv s:=by
 obtain⟨h1,h2,i,vw,vc,vn,vk,mc,mn,g,f,q2,e,d,c,b⟩:=h;exact⟨h1,h2,i,vw,vc,vn,vk,mc,mn,g.step x (a 1 (by decide)),f.step x (a 2 (by decide)),q2.step x (a 3 (by decide)),e.step x (a 4 (by decide)),d.step x (a 5 (by decide)),c.step x (a 6 (by decide)),b.step x (a 7 (by decide))⟩
theorem EmW.below {w w':GI}{o:Nat->Nat}{rb:Nat}{lv:GN}{s:Em}(h:EmW w o rb lv s)(b:GO w.heap.size w w'):EmW w' o rb lv s :=
 h.step (dQ.ofBelow (I:=λ_=>False) o b) (λ_ _=>id)
theorem gX {w:GI}{b:Nat}{k i g f e d c a:GN}{t:Hp}(h:w.heap[b]?=GF (.cells #[k,i,g,f,e,d,c,a] t)):(w.cell? ⟨b,0,GE⟩=GF k/\w.cell? ⟨b,1,GE⟩=GF i/\w.cell? ⟨b,2,GE⟩=GF g/\w.cell? ⟨b,3,GE⟩=GF f/\w.cell? ⟨b,4,GE⟩=GF e/\w.cell? ⟨b,5,GE⟩=GF d/\w.cell? ⟨b,6,GE⟩=GF c/\w.cell? ⟨b,7,GE⟩=GF a)/\∀ j,w.frozen? ⟨b,j,GE⟩=false:=by
 refine⟨⟨?_,?_,?_,?_,?_,?_,?_,?_⟩,λj=>?_⟩<;>simp[JJ,JU,h]
structure EmX (w:GI)(o:Nat->Nat)(lv:GN)(ls:List Int):Prop where
 tab:Tab w
 tl:o 2=0
 bar:∀ k:Nat,k<25->w.cell? ⟨0,k,GE⟩=GF (.int .i64 ([0,0,0,0,0,0,4,5,6,7,8,9,10,0,0,0,0,0,0,0,0,0,20,0,22].getD k 0))
 bl:o 0=0/\0<w.heap.size
 lvs:∃ao cap,lv=.slice ao ls.length cap/\(ls=[]\/∃b off,ao=GF ⟨b,off,GE⟩/\o b=0/\b<w.heap.size/\∀ j x,ls[j]?=GF x->w.cell? ⟨b,off+j,GE⟩=GF (.int .i64 x))
theorem EmX.step {I:Nat->Prop}{w w':GI}{o o':Nat->Nat}{lv:GN}{ls:List Int}(h:EmX w o lv ls)(x:dQ I w o w' o')(f:¬I 0):EmX w' o' lv ls:=by
 obtain⟨h1,h2,s,⟨n,h5⟩,ao,cap,r,i⟩:=h;have m:=h1.2.2.2.2.2.2;have c:=x.block 2 m (by rw[h2];exact f);have g:=x.block 0 h5 (by rw[n];exact f);refine⟨?_,(x.lab _ m).trans h2,λk q=>(GW (a:=⟨0,k,GE⟩) g).trans (s k q),⟨(x.lab _ h5).trans n,GQ h5 x.size⟩,ao,cap,r,?_⟩
 ·obtain⟨e0,l,e,d,e4,u,t⟩:=h1;exact⟨(GW (a:=⟨2,0,GE⟩) c).trans e0,(GW (a:=⟨2,1,GE⟩) c).trans l,(GW (a:=⟨2,2,GE⟩) c).trans e,(GW (a:=⟨2,3,GE⟩) c).trans d,(GW (a:=⟨2,4,GE⟩) c).trans e4,(GW (a:=⟨2,5,GE⟩) c).trans u,GQ t x.size⟩
 ·rcases i with i|⟨b,off,l,e,d,e4⟩
  ·exact .inl i
  ·exact .inr ⟨b,off,l,(x.lab b d).trans e,GQ d x.size,λj y p=>(GW (a:=⟨b,off+j,GE⟩) (x.block b d (by rw[e];exact f))).trans (e4 j y p)⟩
theorem EmX.below {w w':GI}{o:Nat->Nat}{lv:GN}{ls:List Int}(h:EmX w o lv ls)(b:GO w.heap.size w w'):EmX w' o lv ls:=h.step (dQ.ofBelow (I:=λ_=>False) o b) id
def mX (w:GI)(o:Nat->Nat)(rb:Nat)(lv:GN)(s:Em)(v:GN)(e:IL)(w':GI):Prop:=e=.returned v/\∃o',EmW w' o' rb lv s/\dQ I17 w o w' o'
abbrev SnO (w:GI)(o:Nat->Nat)(f:Fs)(ao:Option Ha):Prop:=SlN w (λb=>o b=0) f ao
theorem SlN.stepO {I:Nat->Prop}{w w':GI}{o o':Nat->Nat}{f:Fs}{ao:Option Ha}(h:SnO w o f ao)(x:dQ I w o w' o')(c:¬I 0):SnO w' o' f ao :=
 h.mono (λk b a=>x.block k a (by rw[b];exact c)) x.size (λk b a=>(x.lab k a).trans b)
theorem uq:(Tryz.prog.info? 54).map (λi=>(i.zero,i.size,i.bytes))=GF (GF (.int .u64 0),1,8):=by kernel_rfl
theorem rH:(Tryz.prog.info? 3).map (λi=>(i.zero,i.size,i.bytes))=GF (GF (.int .i64 0),1,8):=by kernel_rfl
theorem tR:(Tryz.prog.info? 9).map (λi=>(i.zero,i.size,i.bytes))=GF (GF (.string ⟨#[]⟩),1,16):=by kernel_rfl
theorem kf (v:GN)(h:v.oneCell'=true):∀ u ∈ [v],u.oneCell'=true:=by
 intro u a;simp at a;subst a;exact h
theorem noF:∀ k,I17 k->¬(λ_:Nat=>False) k:=λ_ _=>id
theorem fi (op a b:Nat)(w:GI)(o:Nat->Nat)(rb:Nat)(lv:GN)(ls:List Int)(s:Em)(n:op<=255)(N:a<=268435455)(M:b<=268435455)(D:s.mes<=100000000)(X:EmX w o lv ls)(h:EmW w o rb lv s) :
  GV GH 41 #[.pointer (GF ⟨rb,0,GE⟩),.int .i64 op,.int .i64 a,.int .i64 b] w (mX w o rb lv (s.lay op a b) (.int .i64 (s.ws.length:Nat))):=by
 obtain⟨h1,h2,O,vw,vc,vn,vk,mc,mn,j,z,q2,y,v,u,t⟩:=h;obtain⟨J,K,i2,i3,i4⟩:=ek uq;obtain⟨⟨c0,c1,c2,c3,c4,c5,T,S⟩,R⟩:=gX j.1;have r:=rX (op:Int) (a:Int) (b:Int) w X.tab (by omega) (by omega) (by omega) (by omega) (by omega) (by omega);have V:s.ws.length<=100000000:=by unfold Em.mes at D;omega
 have L:Hid ((⟨op,a,b⟩:Wo).ok):=⟨n,N,M⟩;have p:s.ws.length+1<=G5:=by unfold G5;omega
 have hn2:(s.ws.length+1)*8<=140737488355328:=by omega
 have E:(((op:Int)*268435456+(a:Int))*268435456+(b:Int))=iU ⟨op,a,b⟩:=rfl;rw[E] at r;have m:Hid (woV (s.lay op a b).ws=woV s.ws++[.int .u64 (iU ⟨op,a,b⟩)]):=by show _=_;simp[woV,Em.lay]
 generalize iU ⟨op,a,b⟩=F at *;have i:=z.step (dQ.ofBelow (I:=λ_=>False) o (b1 w (.cells #[.int .u64 F] 54))) id;clear E X D;go_enter Tryz.func41,Tryz.ntmps41;go_wp2_with (first|(go_at_call 86;refine r.mono ?_;rintro e w1 ⟨rfl,l⟩;subst l)|(at_builtin;refine eb rfl (.tmp 23) (.tmp 25) 39 rfl 54 J (.int .u64 0) 1 8 Tryz.underlying39 K i2 i3 i4 rfl (by decide) o 2 vw s.ws.length (woV s.ws) rfl i ⟨w1.heap.size,0,GE⟩ 1 1 [.int .u64 F] rfl rfl (fF _ _ _) (kf _ rfl) (by decide) p hn2 ?_)|go_in);intro g1 q w2 g H G;have f:dQ (λk=>k=2) w1 o w2 g:=(dQ.ofBelow o (b1 w1 _)).trans G;have p0:=j.step f (by decide);have p2:=q2.step f (by decide);have p3:=y.step f (by decide);have p4:=v.step f (by decide);have B:=u.step f (by decide);have A:=t.step f (by decide);obtain⟨⟨d0,d1,d2,d3,d4,Z,Y,W⟩,Q⟩:=gX p0.1;have P:=Q 0;have d:dQ (λk=>k=1) w2 g (w2.setCell ⟨rb,0,GE⟩ (.slice (GF ⟨g1,0,GE⟩) (s.ws.length+1) q)) g:=fj _ w2 g ⟨rb,0,GE⟩ _ p0.2;have U:Hid (EmW (w2.setCell ⟨rb,0,GE⟩ (.slice (GF ⟨g1,0,GE⟩) (s.ws.length+1) q)) g rb lv (s.lay op a b)/\dQ I17 w1 o (w2.setCell ⟨rb,0,GE⟩ (.slice (GF ⟨g1,0,GE⟩) (s.ws.length+1) q)) g):=by
  refine⟨⟨λx c=>?_,h2,O,_,vc,vn,vk,mc,mn,p0.set 0 _,?_,p2.step d (by decide),p3.step d (by decide),p4.step d (by decide),B.step d (by decide),A.step d (by decide)⟩,(f.mono (fw (by decide))).trans (d.mono (fw (by decide)))⟩
  ·rcases List.mem_append.1 c with c|c
   ·exact h1 x c
   ·simp at c;rw[c];exact L.out
  ·rw[m.out]
   have:=H.step d (by decide)
   have e:(s.lay op a b).ws.length=s.ws.length+1:=by simp[Em.lay]
   rw[e];exact this
 clear f d H G p0 p2 p3 p4 B A j z q2 y v u t i r c0 c1 c2 c3 c4 c5 T S R;go_wp2;go_ret;exact⟨by first|rfl|(simp;done)|(congr 1;simp),g,U.out⟩
theorem ui (w:GI)(o:Nat->Nat)(rb:Nat)(lv:GN)(s:Em)(h:EmW w o rb lv s) :
  GV GH 189 #[.pointer (GF ⟨rb,0,GE⟩)] w λe w'=>e=.returned (.int .i64 (s.ws.length:Nat))/\w'=w:=by
 obtain⟨h1,h2,c,vw,vc,vn,vk,mc,mn,b,a,-⟩:=h;obtain⟨⟨c0,c1,c2,c3,c4,c5,g,f⟩,d⟩:=gX b.1;obtain⟨ao,cap,rfl⟩:=a.form;clear b a;go_enter Tryz.func189,Tryz.ntmps189;go_wp2;go_ret;exact⟨rfl,rfl⟩
abbrev spV (ar u:Nat):GN:=.agg #[.int .i64 ar,.int .i64 u]
theorem kZ {w:GI}{b:Nat}{c a:GN}{t:Hp}(h:w.heap[b]?=GF (.cells #[c,a] t)):(w.cell? ⟨b,0,GE⟩=GF c/\w.cell? ⟨b,1,GE⟩=GF a)/\∀ j,w.frozen? ⟨b,j,GE⟩=false:=by
 refine⟨⟨?_,?_⟩,λj=>?_⟩<;>simp[JJ,JU,h]
theorem tU (op a b ar u:Nat)(w:GI)(o:Nat->Nat)(rb:Nat)(lv:GN)(ls:List Int)(s:Em)(l:op<=255)(L:a<=268435455)(K:b<=268435455)(R:u<=1000000000)(S:s.dp<=1000000001)(J:s.mes<=100000000)(X:EmX w o lv ls)(h:EmW w o rb lv s) :
  GV GH 76 #[.pointer (GF ⟨rb,0,GE⟩),.int .i64 op,.int .i64 a,.int .i64 b,spV ar u] w (mX w o rb lv (s.push op a b u) (.tuple #[])):=by
 obtain⟨w1,c⟩:=exq (w.alloc (.cells #[.int .i64 ar,.int .i64 u] 86));obtain⟨g,m⟩:=exq w.heap.size;have s0:∀ {I:Nat->Prop},dQ I w o w1 (dR w o 0):=λ{I}=>by rw[c];exact et I w o _
 have G:Blk w1 (dR w o 0) 0 g (.cells #[.int .i64 ar,.int .i64 u] 86):=by rw[c,m];exact⟨GL _ _,dY (GG _)⟩
 have E:=h.step (s0 (I:=λ_=>False)) noF;have B:=X.step (s0 (I:=λ_=>False)) id;have C:=s0 (I:=I17);generalize dR w o 0=H at *;have D:=fi op a b w1 H rb lv ls s l L K J B E;have O:=GP m;clear s0 h X m E B;go_enter Tryz.func76,Tryz.ntmps76;go_upto_region 1 with fail;rw[<-c,<-O.out];clear c;go_upto_region 2 with (first|(go_at_call 41;refine D.mono ?_;rintro e w2 ⟨rfl,d,Q,p⟩))
 have F:=G.step p (by decide);obtain⟨h1,h2,M,vw,vc,vn,vk,mc,mn,i,z,q2,y,x,v,t⟩:=Q;have t3:dQ (λk=>k=1) w2 d (w2.setCell ⟨rb,7,GE⟩ (.int .i64 (max s.dp (u+1):Nat))).drew d:=((dQ.refl _ w2 d).setCell ⟨rb,7,GE⟩ _ i.2).drew;have P:Hid (EmW (w2.setCell ⟨rb,7,GE⟩ (.int .i64 (max s.dp (u+1):Nat))).drew d rb lv (s.push op a b u)/\dQ I17 w o (w2.setCell ⟨rb,7,GE⟩ (.int .i64 (max s.dp (u+1):Nat))).drew d):=by
  have j:=(i.set 7 (.int .i64 (max s.dp (u+1):Nat))).step ((dQ.refl (λ_=>False) _ d).drew) id;exact⟨⟨h1,h2,M,vw,vc,vn,vk,mc,mn,j,z.step t3 (by decide),q2.step t3 (by decide),y.step t3 (by decide),x.step t3 (by decide),v.step t3 (by decide),t.step t3 (by decide)⟩,(C.trans p).trans (t3.mono (fw (by decide)))⟩
 obtain⟨⟨c0,c1,c2,c3,c4,c5,U,N⟩,A⟩:=gX i.1;obtain⟨⟨e0,T⟩,-⟩:=kZ F.1;have cf7:=A 7;have n:(s.lay op a b).dp=s.dp:=rfl;rw[n] at N;have f:(if (s.dp:Int)<(u:Int)+1 then (u:Int)+1 else (s.dp:Int))=((max s.dp (u+1):Nat):Int):=by split<;>omega
 have r:=GP f;have q:Hid (max (s.dp:Int) ((u:Int)+1)=((max s.dp (u+1):Nat):Int)):=by show _=_;omega
 clear t3 i z q2 y x v t G F D p C f A;go_region
 all_goals
  first|rw[r.out] | rw[q.out]
  go_end0
  exact⟨rfl,d,P.out⟩
theorem ku (ar u v:Nat)(w:GI)(m:u<=1000000000)(l:v<=1000000000) :
  GV GH 84 #[spV ar u,.int .i64 v] w λe w'=>e=.returned (spV ar (u+v))/\GO w.heap.size w w':=by
 obtain⟨w1,a⟩:=exq ((w.alloc (.cells #[.int .i64 ar,.int .i64 u] 86)).alloc (.cells #[.int .i64 0,.int .i64 0] 86));obtain⟨g,b⟩:=exq w.heap.size;have h:GO g w w1:=by rw[a,b];exact((GR _ w).alloc (GG _) _).alloc (by simp) _
 have e0:w1.heap[g]?=GF (.cells #[.int .i64 ar,.int .i64 u] 86):=by rw[a,b];exact(Ir _ _ (by simp)).trans (GL _ _)
 have c:w1.heap[g+1]?=GF (.cells #[.int .i64 0,.int .i64 0] 86):=by
  have:=GL (w.alloc (.cells #[.int .i64 ar,.int .i64 u] 86)) (.cells #[.int .i64 0,.int .i64 0] 86)
  rw[a,b];simpa using this
 obtain⟨⟨c0,c1⟩,q⟩:=kZ e0;obtain⟨⟨o,d1⟩,n⟩:=kZ c;have f:=GP b;clear b;go_enter Tryz.func84,Tryz.ntmps84;go_upto_region 1 with fail;rw[<-a,<-f.out];clear a;have d:=In _ (g+1) 1 #[.int .i64 ar,.int .i64 0] _ (.int .i64 ((u:Int)+(v:Int))) (In _ (g+1) 0 _ _ (.int .i64 ar) ((GT w1 ⟨g,1,GE⟩ (g+1) (.int .i64 ((u:Int)+(v:Int))) (by simp)).trans c));obtain⟨⟨j,i⟩,-⟩:=kZ d;have k:Hid (GO g w (((w1.setCell ⟨g,1,GE⟩ (.int .i64 ((u:Int)+(v:Int)))).setCell ⟨g+1,0,GE⟩ (.int .i64 ar)).setCell ⟨g+1,1,GE⟩ (.int .i64 ((u:Int)+(v:Int))))):=((h.setCell (p:=⟨g,1,GE⟩) (GG _) _).setCell (p:=⟨g+1,0,GE⟩) (by show g<=g+1;omega) _).setCell (p:=⟨g+1,1,GE⟩) (by show g<=g+1;omega) _;clear d h e0 c;go_wp2;exact GK (v:=spV ar (u+v)) (by simp[results,Tryz.results84,go_sem,j,i]) rfl ⟨rfl,by rw[<-f.out];exact k.out⟩
theorem wG (k:Int)(w:GI)(o:Nat->Nat)(rb:Nat)(lv:GN)(ls:List Int)(s:Em)(l:-9223372036854775808<=k/\k<=9223372036854775807)(K:s.mes<=100000000)(X:EmX w o lv ls)(h:EmW w o rb lv s) :
  GV GH 77 #[.pointer (GF ⟨rb,0,GE⟩),.int .i64 k] w (mX w o rb lv (s.kc k) (.int .i64 (s.cs.idxOf k:Nat))):=by
 have C:=h;obtain⟨h1,h2,L,vw,vc,vn,vk,mc,mn,j,q,q2,p,n,g,m⟩:=h;obtain⟨H,J,i2,i3,i4⟩:=ek rH;obtain⟨⟨c0,c1,c2,c3,c4,c5,W,V⟩,U⟩:=gX j.1;obtain⟨ao,cap,rfl⟩:=q2.form;have T:s.cs.length<=100000000:=by unfold Em.mes at K;omega
 by_cases a:k ∈ s.cs
 ·have B:=g.look k l a;have e:s.kc k=s:=by simp[Em.kc,a]
  rw[e];have z:=GP C;clear C j q q2 p n g m e;go_enter Tryz.func77,Tryz.ntmps77;go_wp2;go_ret;exact⟨rfl,o,z.out,dQ.refl _ _ _⟩
 ·obtain⟨x,B⟩:=g.miss k l a;obtain⟨w1,r,G,c⟩:=g.put k l a (by omega);have t:s.cs.length+1<=G5:=by unfold G5;omega
  have hn2:(s.cs.length+1)*8<=140737488355328:=by omega
  have p0:=j.step c (by decide);have A:=(q2.step c (by decide)).step (dQ.ofBelow (I:=λ_=>False) o (b1 w1 (.cells #[.int .i64 k] 3))) id;obtain⟨⟨R,d1,d2,d3,d4,Q,P,O⟩,D⟩:=gX p0.1;have v:Hid (s.kc k=⟨s.ws,s.cs++[k],s.ns,s.ks,s.dp⟩/\s.cs.idxOf k=s.cs.length):=⟨by simp[Em.kc,a],mC a⟩;clear X;go_enter Tryz.func77,Tryz.ntmps77;go_wp2_with (first|(at_builtin;refine eb rfl (.tmp 35) (.tmp 37) 35 rfl 3 H (.int .i64 0) 1 8 Hy J i2 i3 i4 rfl (by decide) o 3 (.slice ao s.cs.length cap) s.cs.length (eiV s.cs) rfl A ⟨w1.heap.size,0,GE⟩ 1 1 [.int .i64 k] rfl rfl (fF _ _ _) (kf _ rfl) (by decide) t hn2 ?_)|go_in);intro g1 u w2 d F E;have s2:dQ (λk=>k=3) w1 o w2 d:=(dQ.ofBelow o (b1 w1 _)).trans E;have i:=p0.step s2 (by decide);obtain⟨⟨R,d1,d2,d3,d4,Q,P,O⟩,D⟩:=gX i.1;have N:=D 1;have b:dQ (λk=>k=1) w2 d (w2.setCell ⟨rb,1,GE⟩ (.slice (GF ⟨g1,0,GE⟩) (s.cs.length+1) u)) d:=fj _ w2 d ⟨rb,1,GE⟩ _ i.2;have z:Hid (EmW (w2.setCell ⟨rb,1,GE⟩ (.slice (GF ⟨g1,0,GE⟩) (s.cs.length+1) u)) d rb lv (s.kc k)/\dQ I17 w o (w2.setCell ⟨rb,1,GE⟩ (.slice (GF ⟨g1,0,GE⟩) (s.cs.length+1) u)) d):=by
   rw[v.out.1];refine⟨⟨h1,?_,L,vw,_,vn,vk,mc,mn,i.set 1 _,((q.step c (by decide)).step s2 (by decide)).step b (by decide),?_,((p.step c (by decide)).step s2 (by decide)).step b (by decide),((n.step c (by decide)).step s2 (by decide)).step b (by decide),(G.step s2 (by decide)).step b (by decide),((m.step c (by decide)).step s2 (by decide)).step b (by decide)⟩,((c.mono (fw (by decide))).trans (s2.mono (fw (by decide)))).trans (b.mono (fw (by decide)))⟩
   ·intro y f;rcases List.mem_append.1 f with f|f
    ·exact h2 y f
    ·simp at f;rw[f];exact l
   ·have:=F.step b (by decide)
    have e:(s.cs++[k]).length=s.cs.length+1:=by simp
    have M:eiV (s.cs++[k])=eiV s.cs++[.int .i64 k]:=by simp[eiV]
    rw[e,M];exact this
  have S:Hid (s.cs.idxOf k=s.cs.length):=v.out.2;clear c s2 b F E p0 A i j q q2 p n g m B r G v;go_wp2;go_ret;exact⟨by rw[S.out];rfl,d,z.out⟩
theorem ze (k:List UInt8)(w:GI)(o:Nat->Nat)(rb:Nat)(lv:GN)(ls:List Int)(s:Em)(m:k.length<=G5)(K:s.mes<=100000000)(X:EmX w o lv ls)(h:EmW w o rb lv s) :
  GV GH 133 #[.pointer (GF ⟨rb,0,GE⟩),stv k] w (mX w o rb lv (s.kn k) (.int .i64 (s.ns.idxOf k:Nat))):=by
 have C:=h;obtain⟨h1,h2,L,vw,vc,vn,vk,mc,mn,l,q,q2,j,p,n,g⟩:=h;obtain⟨H,J,i2,i3,i4⟩:=ek tR;obtain⟨⟨c0,c1,c2,c3,c4,c5,W,V⟩,U⟩:=gX l.1;obtain⟨ao,cap,rfl⟩:=j.form;have T:s.ns.length<=100000000:=by unfold Em.mes at K;omega
 by_cases a:k ∈ s.ns
 ·have B:=g.look k m a;have e:s.kn k=s:=by simp[Em.kn,a]
  rw[e];have z:=GP C;clear C l q q2 j p n g e;go_enter Tryz.func133,Tryz.ntmps133;go_wp2;go_ret;exact⟨rfl,o,z.out,dQ.refl _ _ _⟩
 ·obtain⟨x,B⟩:=g.miss k m a;obtain⟨w1,r,G,c⟩:=g.put k m a (by omega);have t:s.ns.length+1<=G5:=by unfold G5;omega
  have hn2:(s.ns.length+1)*16<=140737488355328:=by omega
  have p0:=l.step c (by decide);have A:=(j.step c (by decide)).step (dQ.ofBelow (I:=λ_=>False) o (b1 w1 (.cells #[stv k] 9))) id;obtain⟨⟨R,d1,d2,d3,d4,Q,P,O⟩,D⟩:=gX p0.1;have v:Hid (s.kn k=⟨s.ws,s.cs,s.ns++[k],s.ks,s.dp⟩/\s.ns.idxOf k=s.ns.length):=⟨by simp[Em.kn,a],mC a⟩;clear X;go_enter Tryz.func133,Tryz.ntmps133;go_wp2_with (first|(at_builtin;refine eb rfl (.tmp 35) (.tmp 37) 40 rfl 9 H (.string ⟨#[]⟩) 1 16 I7 J i2 i3 i4 rfl (by decide) o 4 (.slice ao s.ns.length cap) s.ns.length (esV s.ns) rfl A ⟨w1.heap.size,0,GE⟩ 1 1 [stv k] rfl rfl (fF _ _ _) (kf _ rfl) (by decide) t hn2 ?_)|go_in);intro g1 u w2 d F E;have s2:dQ (λk=>k=4) w1 o w2 d:=(dQ.ofBelow o (b1 w1 _)).trans E;have i:=p0.step s2 (by decide);obtain⟨⟨R,d1,d2,d3,d4,Q,P,O⟩,D⟩:=gX i.1;have N:=D 2;have b:dQ (λk=>k=1) w2 d (w2.setCell ⟨rb,2,GE⟩ (.slice (GF ⟨g1,0,GE⟩) (s.ns.length+1) u)) d:=fj _ w2 d ⟨rb,2,GE⟩ _ i.2;have z:Hid (EmW (w2.setCell ⟨rb,2,GE⟩ (.slice (GF ⟨g1,0,GE⟩) (s.ns.length+1) u)) d rb lv (s.kn k)/\dQ I17 w o (w2.setCell ⟨rb,2,GE⟩ (.slice (GF ⟨g1,0,GE⟩) (s.ns.length+1) u)) d):=by
   rw[v.out.1];refine⟨⟨h1,h2,?_,vw,vc,_,vk,mc,mn,i.set 2 _,((q.step c (by decide)).step s2 (by decide)).step b (by decide),((q2.step c (by decide)).step s2 (by decide)).step b (by decide),?_,((p.step c (by decide)).step s2 (by decide)).step b (by decide),((n.step c (by decide)).step s2 (by decide)).step b (by decide),(G.step s2 (by decide)).step b (by decide)⟩,((c.mono (fw (by decide))).trans (s2.mono (fw (by decide)))).trans (b.mono (fw (by decide)))⟩
   ·intro y f;rcases List.mem_append.1 f with f|f
    ·exact L y f
    ·simp at f;rw[f];exact m
   ·have:=F.step b (by decide)
    have e:(s.ns++[k]).length=s.ns.length+1:=by simp
    have M:esV (s.ns++[k])=esV s.ns++[stv k]:=by simp[esV]
    rw[e,M];exact this
  have S:Hid (s.ns.idxOf k=s.ns.length):=v.out.2;clear c s2 b F E p0 A i l q q2 j p n g B r G v;go_wp2;go_ret;exact⟨by rw[S.out];rfl,d,z.out⟩
theorem eh {w:GI}{g:Nat}{ar u:Nat}(h:w.heap[g]?=GF (.cells #[.int .i64 ar,.int .i64 u] 86)):w.cell? ⟨g,0,GE⟩=GF (.int .i64 ar)/\w.cell? ⟨g,1,GE⟩=GF (.int .i64 u):=(kZ h).1
theorem fo (n:Int)(kd ar u:Nat)(w:GI)(o:Nat->Nat)(rb:Nat)(lv:GN)(ls:List Int)(s:Em)(B:-9223372036854775808<=n/\n<=9223372036854775807)(D:kd<=268435455)(A:u<=1000000000)(E:s.dp<=1000000001)(C:s.mes<=99999998)(X:EmX w o lv ls)(h:EmW w o rb lv s) :
  GV GH 74 #[.pointer (GF ⟨rb,0,GE⟩),.int .i64 n,.int .i64 kd,spV ar u] w (mX w o rb lv (s.con n kd u) (.tuple #[])):=by
 obtain⟨w1,b⟩:=exq (w.alloc (.cells #[.int .i64 ar,.int .i64 u] 86));obtain⟨g,k⟩:=exq w.heap.size;have s0:∀ {I:Nat->Prop},dQ I w o w1 (dR w o 0):=λ{I}=>by rw[b];exact et I w o _
 have r:Blk w1 (dR w o 0) 0 g (.cells #[.int .i64 ar,.int .i64 u] 86):=by rw[b,k];exact⟨GL _ _,dY (GG _)⟩
 have x:=h.step (s0 (I:=λ_=>False)) noF;have m:=X.step (s0 (I:=λ_=>False)) id;have v:=s0 (I:=I17);generalize dR w o 0=f at *;have K:=GP k;have z:=s.mes_kc n;have j:s.cs.idxOf n<=268435455:=by
  have:=List.idxOf_le_length (a:=n) (l:=s.cs)
  unfold Em.mes at C;omega
 clear s0 h X k;go_enter Tryz.func74,Tryz.ntmps74;go_upto_region 1 with fail;rw[<-b,<-K.out];clear b;have d1:dQ (λ_=>False) w1 f w1.drew f:=(dQ.refl _ w1 f).drew;have L:=wG n w1.drew f rb lv ls s B (by omega) (m.step d1 id) (x.step d1 noF);have d:=r.step d1 id;have H:=v.trans ((dQ.refl _ w1 f).drew);have J:∀ w2 c,EmW w2 c rb lv (s.kc n)->EmX w2 c lv ls->GV GH 76 #[.pointer (GF ⟨rb,0,GE⟩),.int .i64 1,.int .i64 (s.cs.idxOf n:Nat),.int .i64 kd,spV ar u] w2 (mX w2 c rb lv (s.con n kd u) (.tuple #[])):=λw2 c q G=>tU 1 (s.cs.idxOf n) kd ar u w2 c rb lv ls (s.kc n) (by omega) j D A E (by omega) G q;obtain⟨a0,a1⟩:=eh r.1;obtain⟨b0,b1⟩:=eh d.1;have F:=m.step d1 id;clear x m d1 v r;go_region_held3 (λwx=>wx.cell? ⟨g,0,GE⟩=GF (.int .i64 ar)/\wx.cell? ⟨g,1,GE⟩=GF (.int .i64 u)) (go_keep) (first|(go_at_call 77;refine L.mono ?_;rintro e w2 ⟨rfl,c,q,i⟩;obtain⟨b0,b1⟩:=eh (d.step i (by decide)).1;have p:=J w2 c q (F.step i (by decide)))|(go_at_call 76;refine p.mono ?_;rintro e w3 ⟨rfl,y,M,t⟩;obtain⟨b0,b1⟩:=eh ((d.step i (by decide)).step t (by decide)).1))
 all_goals
  go_end0
  exact⟨rfl,y,M,(H.trans i).trans t⟩
structure Grw (s s':Em)(n:Nat):Prop where
 mes:s'.mes<=s.mes+n
 ws:s.ws.length<=s'.ws.length
 ks:s'.ks.length=s.ks.length
 dp:s.dp<=1000000001->s'.dp<=1000000001
theorem Grw.trans {a b c:Em}{n m:Nat}(h:Grw a b n)(k:Grw b c m):Grw a c (n+m):=⟨by have:=h.mes;have:=k.mes;omega,Hr h.ws k.ws,k.ks.trans h.ks,λx=>k.dp (h.dp x)⟩
theorem Grw.le {a b:Em}{n m:Nat}(h:Grw a b n)(c:n<=m):Grw a b m:=⟨by have:=h.mes;omega,h.ws,h.ks,h.dp⟩
theorem eR (s:Em)(op a b:Nat):Grw s (s.lay op a b) 1:=⟨by rw[Em.mes_lay];omega,by simp[Em.lay],rfl,id⟩
theorem nQ (s:Em)(i:Nat):Grw s (s.land i) 0:=⟨by rw[Em.mes_land];omega,by simp[Em.land],rfl,id⟩
theorem Fx (s:Em)(i:Nat)(k:Int):Grw s (s.cel i k) 0:=⟨GG _,GG _,by simp[Em.cel],id⟩
theorem iJ (s:Em)(n:Int)(kd u:Nat)(a:u<=1000000000):Grw s (s.con n kd u) 2:=⟨s.mes_con n kd u,by simp[Em.con,Em.push,Em.kc],rfl,λh=>by show max s.dp (u+1)<=_;omega⟩
def py (w:GI)(o:Nat->Nat)(rb:Nat)(lv:GN)(s s':Em)(n:Nat)(e:IL)(w':GI):Prop:=e=.returned (.tuple #[])/\(∃o',EmW w' o' rb lv s'/\dQ I17 w o w' o')/\Grw s s' n
theorem FC {x:Wo}{n:Nat}(h:x.ok)(a:n<=268435455):(x.to n).ok:=by
 obtain⟨h1,h2,b⟩:=h;unfold Wo.to;split
 ·exact⟨h1,h2,a⟩
 ·exact⟨h1,a,b⟩
theorem qu {l:List Wo}{i:Nat}(h:i<l.length)(f:Wo->Wo):l.modify i f=l.set i (f (l[i])):=by
 apply Jo;intro j;rw[List.getElem?_modify,List.getElem?_set];by_cases e:i=j
 ·subst e;simp[h]
 ·simp[e]
theorem rh (i:Nat)(u:FrameMode)(w:GI)(o:Nat->Nat)(rb:Nat)(lv:GN)(ls:List Int)(s:Em)(M:i<s.ws.length)(Y:s.mes<=100000000)(X:EmX w o lv ls)(h:EmW w o rb lv s) :
  CallsD GH 126 #[.pointer (GF ⟨rb,0,GE⟩),.int .i64 i] u w λe u' w'=>u'=u/\mX w o rb lv (s.land i) (.tuple #[]) e w':=by
 have h':=h;obtain⟨h1,h2,h3,vw,vc,vn,vk,mc,mn,E,J,q2,U,S,R,Q⟩:=h;obtain⟨⟨c0,c1,c2,c3,c4,c5,c6,c7⟩,cf⟩:=gX E.1;obtain⟨g,cap,rfl,og,-,-,y,hc,Z⟩:=J.pos (by omega);have t:=h1 s.ws[i] (Ix M);have ci:w.cell? ⟨g,i,GE⟩=GF (.int .u64 (iU s.ws[i])):=by
  rw[hc i (by omega)];simp[woV,M]
 have N:=Dc t;have F:=uX t;have A:=wW (iU s.ws[i]) w X.tab N.1 N.2;rw[F.1,F.2.1,F.2.2] at A;have hl:s.ws.length<=100000000:=by unfold Em.mes at Y;omega
 have W:=FC t (n:=s.ws.length) (by omega);have j:Hid (∀ w',GO w.heap.size w w'->EmW (w'.setCell ⟨g,i,GE⟩ (.int .u64 (iU (s.ws[i].to s.ws.length)))).drew o rb lv (s.land i)/\dQ I17 w o (w'.setCell ⟨g,i,GE⟩ (.int .u64 (iU (s.ws[i].to s.ws.length)))).drew o):=λw' B=>by
  have x0:=dQ.ofBelow (I:=λ_=>False) o B;have r1:=((J.step x0 id).store i (.int .u64 (iU (s.ws[i].to s.ws.length)))).step ((dQ.refl (λ_=>False) _ o).drew) id;have l:dQ (λk=>k=2) w o (w'.setCell ⟨g,i,GE⟩ (.int .u64 (iU (s.ws[i].to s.ws.length)))).drew o:=((dQ.ofBelow o B).setCell ⟨g,i,GE⟩ _ og).drew;have e:(s.land i).ws=s.ws.set i (s.ws[i].to s.ws.length):=qu M _;refine⟨⟨λx c=>?_,h2,h3,_,vc,vn,vk,mc,mn,E.step l (by decide),?_,q2.step l (by decide),U.step l (by decide),S.step l (by decide),R.step l (by decide),Q.step l (by decide)⟩,l.mono (fw (by decide))⟩
  ·rw[e] at c;rcases List.mem_or_eq_of_mem_set c with c|c
   ·exact h1 x c
   ·rw[c];exact W
  ·have e2:woV (s.land i).ws=(woV s.ws).set i (.int .u64 (iU (s.ws[i].to s.ws.length))):=by rw[e];simp[woV]
   have G:(s.land i).ws.length=s.ws.length:=by rw[e];simp
   rw[e2,G];exact r1
 have z:∀ (a b:Nat) (wx:GI),Tab wx->a<=268435455->b<=268435455->GV GH 86 #[.int .i64 (s.ws[i].op:Nat),.int .i64 a,.int .i64 b] wx λe w'=>e=.returned (.tuple #[.int .u64 (iU ⟨s.ws[i].op,a,b⟩),.int .i64 0])/\w'=wx:=λa b wx T ha hb=>rX (s.ws[i].op:Int) (a:Int) (b:Int) wx T (by omega) (by have:=t.1;omega) (by omega) (by omega) (by omega) (by omega);have P:∀ w',GO w.heap.size w w'->GV GH 189 #[.pointer (GF ⟨rb,0,GE⟩)] w' λe H=>e=.returned (.int .i64 (s.ws.length:Nat))/\H=w':=λw' B=>ui w' o rb lv s (h'.below B);have aa:(i:Int)<(s.ws.length:Int):=by omega
 have f:Hid (∀ w',GO w.heap.size w w'->w'.cell? ⟨rb,0,GE⟩=GF (.slice (GF ⟨g,0,GE⟩) s.ws.length cap)/\w'.cell? ⟨g,i,GE⟩=GF (.int .u64 (iU s.ws[i]))/\w'.frozen? ⟨g,i,GE⟩=false/\Tab w'):=λw' B=>by
  refine⟨(B.cell (p:=⟨rb,0,GE⟩) E.lt).trans c0,(B.cell (p:=⟨g,i,GE⟩) y).trans ci,?_,(X.below B).tab⟩;have e:=B.block g y
  have:=Z i
  unfold JU at this ⊢;rw[e];exact this
 have v:∀ x:Wo,x.to s.ws.length=if x.op=17 then ⟨x.op,x.a,s.ws.length⟩ else ⟨x.op,s.ws.length,x.b⟩:=λx=>rfl;rw[v] at j;clear v W X E J q2 U S R Q h' c1 c2 c3 c4 c5 c6 c7 cf hc Z F N h1 h2 h3 Y;obtain⟨L,c,r⟩:=t;generalize K:s.ws[i]=x at *;clear K;obtain⟨op,a,b⟩:=x;simp only at A z j L c r
 go_enter_d Tryz.func126,Tryz.ntmps126
 go_upto_region 1 with (first|(go_at_call 146;refine A.mono ?_;rintro e w1 ⟨rfl,D⟩))
 have C:=P w1 D;obtain⟨d0,d1,d2,d3⟩:=f.out w1 D;obtain⟨e0,e1,e2,G⟩:=f.out w1.drew D.drew;by_cases m:op=17
 ·subst m;rw[if_pos rfl] at j;have O:=GP (j.out w1 D);have q:=z a s.ws.length w1.drew G c (by omega);generalize iU ⟨17,a,s.ws.length⟩=ev at *;clear j A P f z;go_upto_region 4 with (first|(go_at_call 189;refine C.mono ?_;rintro e w2 ⟨rfl,d⟩;subst d))
  go_region_with (first|(go_at_call 86;refine q.mono ?_;rintro e w3 ⟨rfl,d⟩;subst d))
  all_goals
   go_end0
   exact⟨rfl,o,O.out⟩
 ·rw[if_neg m] at j;have O:=GP (j.out w1 D);have q:=z s.ws.length b w1.drew G (by omega) r;have V:¬(op:Int)=17:=by omega
  generalize iU ⟨op,s.ws.length,b⟩=ev at *;clear j A P f z m;go_upto_region 4 with (first|(go_at_call 189;refine C.mono ?_;rintro e w2 ⟨rfl,d⟩;subst d))
  go_region_with (first|(go_at_call 86;refine q.mono ?_;rintro e w3 ⟨rfl,d⟩;subst d))
  all_goals
   go_end0
   exact⟨rfl,o,O.out⟩
def nF (rb:Nat)(lv:GN)(ls:List Int)(K:GI->(Nat->Nat)->Prop)(F:FuncId)(c:Array GN)(t:Em->Em)(n:Nat):Prop :=
 ∀ w o s,EmX w o lv ls->EmW w o rb lv s->K w o->s.mes+n<=100000000->s.dp<=1000000001->s.ks.length=ls.length->GV GH F c w (py w o rb lv s (t s) n)
abbrev om (K:GI->(Nat->Nat)->Prop):Prop:=∀ {w o w' o'},K w o->dQ I17 w o w' o'->K w' o'
abbrev Ent (F:FuncId):Prop:=∀ (args:Array GN) (w:GI),(callFunc F args).run GH w=.ok (.enter F args) w
theorem uS (op:Nat)(F:FuncId)(c:Array GN)(t:Em->Em)(n:Nat)(K:GI->(Nat->Nat)->Prop)(I:om K)(M:Ent F)(w:GI)(o:Nat->Nat)(rb:Nat)(lv:GN)(ls:List Int)(H:nF rb lv ls K F c t n)(s:Em)(i:op<=255)(R:s.mes+n+2<=100000000)(G:s.dp<=1000000001)(l:s.ks.length=ls.length)(X:EmX w o lv ls)(h:EmW w o rb lv s)(k:K w o) :
  GV GH 127 #[.pointer (GF ⟨rb,0,GE⟩),.int .i64 op,.func (.func F) #[] c] w λe w'=>e=.returned (.int .i64 ((t (s.lay op 0 0)).ws.length:Nat))/\(∃o',EmW w' o' rb lv (((t (s.lay op 0 0)).lay 13 0 0).land s.ws.length)/\dQ I17 w o w' o')/\Grw s (((t (s.lay op 0 0)).lay 13 0 0).land s.ws.length) (n+2)/\Grw (s.lay op 0 0) (t (s.lay op 0 0)) n:=by
 have z:=fi op 0 0 w o rb lv ls s i (by omega) (by omega) (by omega) X h;have g1:=eR s op 0 0
 go_enter_defers Tryz.func127,Tryz.ntmps127
 go_upto_region 2 with (first|(go_at_call 41;refine z.mono ?_;rintro e w1 ⟨rfl,D,P,p⟩))
 have v:=X.step p (by decide);have A:=H w1 D (s.lay op 0 0) v P (I k p) (by have:=g1.mes;omega) (g1.dp G) (g1.ks.trans l);clear z;go_wp2_with fail;refine A.mono ?_;rintro e w2 ⟨rfl,⟨C,B,y⟩,g2⟩;have E:(s.lay op 0 0).ws.length=s.ws.length+1:=by simp[Em.lay]
 have g3:=eR (t (s.lay op 0 0)) 13 0 0;have u:=v.step y (by decide);have b:=fi 13 0 0 w2 C rb lv ls (t (s.lay op 0 0)) (by omega) (by omega) (by omega) (by have:=g1.mes;have:=g2.mes;omega) u B;clear A M;obtain⟨s2,a⟩:=exq (t (s.lay op 0 0));rw[<-a] at B g2 g3 b;have g:=GP a;clear a;go_wp2_with fail;refine b.mono ?_;rintro e w3 ⟨rfl,r,O,x⟩;have J:=u.step x (by decide);have j:s.ws.length<(s2.lay 13 0 0).ws.length:=by have:=g2.ws;have:=g3.ws;omega
 have N:=rh s.ws.length .returning w3 r rb lv ls (s2.lay 13 0 0) j (by have:=g1.mes;have:=g2.mes;have:=g3.mes;omega) J O;have L:Hid (∀ w4 d,EmW w4 d rb lv ((s2.lay 13 0 0).land s.ws.length)->dQ I17 w3 r w4 d->(∃o',EmW w4 o' rb lv ((s2.lay 13 0 0).land s.ws.length)/\dQ I17 w o w4 o')/\Grw s ((s2.lay 13 0 0).land s.ws.length) (n+2)/\Grw (s.lay op 0 0) s2 n):=λw4 d q m =>
  ⟨⟨d,q,((p.trans y).trans x).trans m⟩,(((g1.trans g2).trans g3).trans (nQ _ _)).le (by omega),g2⟩
 clear b;go_wp2;refine leaves_cons (f:=126) (args:=#[.pointer (GF ⟨rb,0,GE⟩),.int .i64 (s.ws.length:Nat)]) (by simp) (by simp[go_sem]) ?_;refine N.mono ?_;rintro e Q w4 ⟨rfl,rfl,d,q,m⟩;exact⟨_,results_tmp rfl _ _ _,by rw[<-g.out];rfl,by rw[<-g.out];exact L.out w4 d q m⟩
theorem ue (op:Nat)(c p:FuncId)(c1 c2:Array GN)(t1 t2:Em->Em)(n1 n2:Nat)(K:GI->(Nat->Nat)->Prop)(v:om K)(n:Ent c)(m:Ent p)(w:GI)(o:Nat->Nat)(rb:Nat)(lv:GN)(ls:List Int)(J:nF rb lv ls K c c1 t1 n1)(I:nF rb lv ls K p c2 t2 n2)(s:Em)(d:op<=255)(O:s.mes+(n1+n2+2)<=100000000)(u:s.dp<=1000000001)(b:s.ks.length=ls.length)(X:EmX w o lv ls)(h:EmW w o rb lv s)(k:K w o) :
  GV GH 79 #[.pointer (GF ⟨rb,0,GE⟩),.int .i64 op,.func (.func c) #[] c1,.func (.func p) #[] c2] w (py w o rb lv s (s.fork op t1 t2) (n1+n2+2)):=by
 have z:=uS op c c1 t1 n1 K v n w o rb lv ls J s d (by omega) u b X h k;have g:Hid (s.fork op t1 t2=(t2 (((t1 (s.lay op 0 0)).lay 13 0 0).land s.ws.length)).land (t1 (s.lay op 0 0)).ws.length):=rfl;have D:(s.lay op 0 0).ws.length=s.ws.length+1:=by simp[Em.lay]
 have C:((((t1 (s.lay op 0 0)).lay 13 0 0).land s.ws.length)).ws.length=(t1 (s.lay op 0 0)).ws.length+1:=by simp[Em.lay,Em.land]
 go_enter_defers Tryz.func79,Tryz.ntmps79
 go_upto_region 1 with (first|(go_at_call 127;refine z.mono ?_;rintro e w1 ⟨rfl,⟨B,M,l⟩,g1,E⟩))
 clear z;generalize ((t1 (s.lay op 0 0)).lay 13 0 0).land s.ws.length=r at *;generalize (t1 (s.lay op 0 0)).ws.length=j at *;have x:=X.step l (by decide);have A:=I w1 B r x M (v k l) (by have:=g1.mes;omega) (g1.dp u) (g1.ks.trans b);go_wp2_with fail;refine A.mono ?_;rintro e w2 ⟨rfl,⟨t,L,y⟩,g2⟩;have F:=x.step y (by decide);clear A m;generalize t2 r=s2 at *;have H:=rh j .returning w2 t rb lv ls s2 (by have:=g2.ws;omega) (by have:=g1.mes;have:=g2.mes;omega) F L;have G:Hid (∀ w4 a,EmW w4 a rb lv (s2.land j)->dQ I17 w2 t w4 a->(∃o',EmW w4 o' rb lv (s.fork op t1 t2)/\dQ I17 w o w4 o')/\Grw s (s.fork op t1 t2) (n1+n2+2)):=λw4 a q i=>by
  rw[g.out];exact⟨⟨a,q,(l.trans y).trans i⟩,((g1.trans g2).trans (nQ _ _)).le (by omega)⟩
 go_wp2;refine leaves_cons (f:=126) (args:=#[.pointer (GF ⟨rb,0,GE⟩),.int .i64 j]) (by simp) (by simp[go_sem]) ?_;refine H.mono ?_;rintro e N w4 ⟨rfl,rfl,a,q,i⟩;exact⟨_,I3 rfl _ _ _,rfl,G.out w4 a q i⟩
theorem uJ (n:Int)(w:GI):GV GH 122 #[.int .i64 n] w λe w'=>e=.returned (.int .i64 (ss n))/\w'=w:=by
 by_cases h1:n=1
 ·subst h1;go_enter Tryz.func122,Tryz.ntmps122;go_wp2;go_ret;exact⟨rfl,rfl⟩
 ·by_cases h2:n=2
  ·subst h2;go_enter Tryz.func122,Tryz.ntmps122;go_wp2;go_ret;exact⟨rfl,rfl⟩
  ·by_cases a:n=10
   ·subst a;go_enter Tryz.func122,Tryz.ntmps122;go_wp2;go_ret;exact⟨rfl,rfl⟩
   ·have e:ss n=1:=by simp[ss,h1,h2,a]
    rw[e];go_enter Tryz.func122,Tryz.ntmps122;go_wp2;go_ret;exact⟨rfl,rfl⟩
theorem sW (n:Int)(w:GI):GV GH 123 #[.int .i64 n] w λe w'=>e=.returned (.int .i64 (tw n))/\w'=w:=by
 by_cases h1:n=1
 ·subst h1;go_enter Tryz.func123,Tryz.ntmps123;go_wp2;go_ret;exact⟨rfl,rfl⟩
 ·by_cases h2:n=2
  ·subst h2;go_enter Tryz.func123,Tryz.ntmps123;go_wp2;go_ret;exact⟨rfl,rfl⟩
  ·have e:tw n=1:=by simp[tw,h1,h2]
   rw[e];go_enter Tryz.func123,Tryz.ntmps123;go_wp2;go_ret;exact⟨rfl,rfl⟩
theorem mI {f:Fs}(h:f.len=1):∃x,f=Fs.ex x .nil:=by
 cases f using Fs.on with
 | nil=>simp[Fs.len] at h
 | cons k n nm a ks r =>
  cases r using Fs.on with
  | nil=>exact⟨⟨k,n,nm,a,ks⟩,rfl⟩
  | cons=>simp[Fs.len] at h
theorem iu {f:Fs}(h:f.len=2):∃x y,f=Fs.ex x (Fs.ex y .nil):=by
 cases f using Fs.on with
 | nil=>simp[Fs.len] at h
 | cons k n nm a ks r =>
  obtain⟨y,rfl⟩:=mI (f:=r) (by simp[Fs.len] at h;exact h);exact⟨⟨k,n,nm,a,ks⟩,y,rfl⟩
theorem kV {f:Fs}(h:f.len=3):∃x y z,f=Fs.ex x (Fs.ex y (Fs.ex z .nil)):=by
 cases f using Fs.on with
 | nil=>simp[Fs.len] at h
 | cons k n nm a ks r =>
  obtain⟨y,z,rfl⟩:=iu (f:=r) (by simp[Fs.len] at h;exact h);exact⟨⟨k,n,nm,a,ks⟩,y,z,rfl⟩
theorem kX {k n:Int}{nm:List UInt8}{len:Nat}(h:eg k n nm len=true):(k=19->len=3)/\(k=26->len=1)/\(8<=k->k<=18->len=2)/\(k=21->len=2/\1<=n/\n<=6)/\(k=20->1<=n/\n<=10)/\(k=5\/k=3->0<=n)/\(k=22\/k=23->len=0)/\(k=1\/k=2\/k=3\/k=5->len=0):=by
 unfold eg at h;refine⟨λe=>?_,λe=>?_,λb a=>?_,λe=>?_,λe=>?_,λe=>?_,λe=>?_,λe=>?_⟩
 ·subst e;simp at h;omega
 ·subst e;simp at h;omega
 ·rw[if_neg (by omega),if_neg (by omega),if_neg (by omega),if_neg (by omega),if_pos (by omega)] at h;simp at h;omega
 ·subst e;simp at h;omega
 ·subst e;simp at h;omega
 ·rcases e with rfl|rfl<;>simp at h<;>omega
 ·rcases e with rfl|rfl<;>simp at h<;>omega
 ·rcases e with rfl|rfl|rfl|rfl<;>simp at h<;>omega
theorem we {P:Nat->Prop}{w:GI}{y:Ex}{r:Fs}{ao:Option Ha}(h:SlN w P (Fs.ex y r) ao):∃b off ak ck,ao=GF ⟨b,off,GE⟩/\w.cell? ⟨b,off,GE⟩=GF (.int .i64 y.k)/\w.cell? ⟨b,off+1,GE⟩=GF (.int .i64 y.n)/\w.cell? ⟨b,off+2,GE⟩=GF (stv y.nm)/\w.cell? ⟨b,off+3,GE⟩=GF (.slice ak y.kids.len ck)/\SlN w P y.kids ak:=by
 obtain⟨b,off,ak,ck,h1,h2,d,c,h5,a⟩:=SlN.kidP (x:=.nil) (r:=r) (y:=y) h 0 rfl;exact⟨b,off,ak,ck,h1,h2,d,c,h5,a⟩
theorem DL {P:Nat->Prop}{w:GI}{x y:Ex}{r:Fs}{ao:Option Ha}(h:SlN w P (Fs.ex x (Fs.ex y r)) ao):∃b off ak ck,ao=GF ⟨b,off,GE⟩/\w.cell? ⟨b,off+4,GE⟩=GF (.int .i64 y.k)/\w.cell? ⟨b,off+5,GE⟩=GF (.int .i64 y.n)/\w.cell? ⟨b,off+6,GE⟩=GF (stv y.nm)/\w.cell? ⟨b,off+7,GE⟩=GF (.slice ak y.kids.len ck)/\SlN w P y.kids ak:=by
 obtain⟨b,off,ak,ck,h1,h2,d,c,h5,a⟩:=SlN.kidP (x:=one x) (r:=r) (y:=y) h 1 rfl;exact⟨b,off,ak,ck,h1,h2,d,c,h5,a⟩
theorem dW {w:GI}{b:Nat}{e d c a:GN}{t:Hp}(h:w.heap[b]?=GF (.cells #[e,d,c,a] t)):(w.cell? ⟨b,0,GE⟩=GF e/\w.cell? ⟨b,1,GE⟩=GF d/\w.cell? ⟨b,2,GE⟩=GF c/\w.cell? ⟨b,3,GE⟩=GF a)/\∀ j,w.frozen? ⟨b,j,GE⟩=false:=by
 refine⟨⟨?_,?_,?_,?_⟩,λj=>?_⟩<;>simp[JJ,JU,h]
theorem en {nc:Nat}{x:Ex}{r:Fs}(h:okF nc (Fs.ex x r)):okE nc x/\okF nc r:=⟨⟨h.1,h.2.1⟩,h.2.2⟩
theorem eC (x:Ex)(r:Fs):(Fs.ex x r).size=x.kids.size+r.size+1:=rfl
theorem lz (x:Ex)(r:Fs):kdF (Fs.ex x r)=kdE x::kdF r:=rfl
theorem kG (nc N:Nat):∀ (e:Ex) (ao:Option Ha) (cap:Nat) (w:GI),e.kids.size<N->okE nc e->SnA w e.kids ao ->
  GV GH 75 #[exN e ao cap] w λr w'=>r=.returned (.int .i64 (kdE e))/\GO w.heap.size w w':=by
 induction N with
 | zero=>intro e ao cap w o;omega
 | succ N F =>
  intro e ao cap w o M S;obtain⟨k,n,nm,a,ks⟩:=e;obtain⟨⟨u,-,-⟩,q⟩:=M;simp only at o u q S;rw[dS];simp only;have j:=kX u;by_cases E:k=19
  ·subst E;have f:=j.1 rfl;rw[f];obtain⟨x,y,z,i⟩:=kV f;have A:=S;rw[i] at A q o;obtain⟨w1,c⟩:=exq (w.alloc (zNv 19 n nm ao 3 cap));obtain⟨g,d⟩:=exq w.heap.size;have h:GO w.heap.size w w1:=by rw[c];exact b1 _ _
   have l:w1.heap[g]?=GF (zNv 19 n nm ao 3 cap):=by rw[c,d];exact GL _ _
   obtain⟨⟨c0,c1,c2,c3⟩,-⟩:=dW l;have s:=GP d;have p:=GP h;obtain⟨b,off,ak,ck,rfl,L,K,J,I,G⟩:=DL (A.below h);have m:kdE ⟨19,n,nm,a,ks⟩=kdE y:=by simp only[kdE,i,lz];simp[kdN]
   rw[m];have t:=F y ak ck w1 (by simp only[eC] at o;omega) (en (en q).2).1 G;rw[dS] at t;clear h S A i q o d l m j u;go_enter Tryz.func75,Tryz.ntmps75;go_upto_region 1 with fail;rw[<-c,<-s.out];clear c;go_wp2_with fail;refine t.mono ?_;rintro r w2 ⟨rfl,H⟩;go_wp2;go_ret;exact⟨rfl,p.out.trans (H.mono p.out.size)⟩
  by_cases B:k=26
  ·subst B;have f:=j.2.1 rfl;rw[f];obtain⟨x,i⟩:=mI f;have A:=S;rw[i] at A q o;obtain⟨w1,c⟩:=exq (w.alloc (zNv 26 n nm ao 1 cap));obtain⟨g,d⟩:=exq w.heap.size;have h:GO w.heap.size w w1:=by rw[c];exact b1 _ _
   have l:w1.heap[g]?=GF (zNv 26 n nm ao 1 cap):=by rw[c,d];exact GL _ _
   obtain⟨⟨c0,c1,c2,c3⟩,-⟩:=dW l;have s:=GP d;have p:=GP h;obtain⟨b,off,ak,ck,rfl,L,K,J,I,G⟩:=we (A.below h);have m:kdE ⟨26,n,nm,a,ks⟩=kdE x:=by simp only[kdE,i,lz];simp[kdN]
   rw[m];have t:=F x ak ck w1 (by simp only[eC] at o;omega) (en q).1 G;rw[dS] at t;clear h S A i q o d l m j u;go_enter Tryz.func75,Tryz.ntmps75;go_upto_region 1 with fail;rw[<-c,<-s.out];clear c;go_wp2_with fail;refine t.mono ?_;rintro r w2 ⟨rfl,H⟩;go_wp2;go_ret;exact⟨rfl,p.out.trans (H.mono p.out.size)⟩
  by_cases D:k=20
  ·subst D;have m:kdE ⟨20,n,nm,a,ks⟩=ss n:=by simp[kdE,kdN]
   rw[m];obtain⟨w1,c⟩:=exq (w.alloc (zNv 20 n nm ao ks.len cap));obtain⟨g,d⟩:=exq w.heap.size;have h:GO w.heap.size w w1:=by rw[c];exact b1 _ _
   have l:w1.heap[g]?=GF (zNv 20 n nm ao ks.len cap):=by rw[c,d];exact GL _ _
   obtain⟨⟨c0,c1,c2,c3⟩,-⟩:=dW l;have s:=GP d;have p:=GP h;have t:=uJ n w1;clear h S q o d l m j u;go_enter Tryz.func75,Tryz.ntmps75;go_upto_region 1 with fail;rw[<-c,<-s.out];clear c;go_wp2_with fail;refine t.mono ?_;rintro r w2 ⟨rfl,v⟩;subst v;go_wp2;go_ret;exact⟨rfl,p.out⟩
  by_cases C:k=21
  ·subst C;have m:kdE ⟨21,n,nm,a,ks⟩=tw n:=by simp[kdE,kdN]
   rw[m];obtain⟨w1,c⟩:=exq (w.alloc (zNv 21 n nm ao ks.len cap));obtain⟨g,d⟩:=exq w.heap.size;have h:GO w.heap.size w w1:=by rw[c];exact b1 _ _
   have l:w1.heap[g]?=GF (zNv 21 n nm ao ks.len cap):=by rw[c,d];exact GL _ _
   obtain⟨⟨c0,c1,c2,c3⟩,-⟩:=dW l;have s:=GP d;have p:=GP h;have t:=sW n w1;clear h S q o d l m j u;go_enter Tryz.func75,Tryz.ntmps75;go_upto_region 1 with fail;rw[<-c,<-s.out];clear c;go_wp2_with fail;refine t.mono ?_;rintro r w2 ⟨rfl,v⟩;subst v;go_wp2;go_ret;exact⟨rfl,p.out⟩
  have O:k=1\/k=2\/k=3\/k=5\/k=6\/k=7\/k=8\/k=9\/k=10\/k=11\/k=12\/k=13\/k=14\/k=15\/k=16\/k=17\/k=18\/k=22\/k=23\/k=24\/k=25:=by
   have:=gU u
   omega
  obtain⟨w1,c⟩:=exq (w.alloc (zNv k n nm ao ks.len cap));obtain⟨g,d⟩:=exq w.heap.size;have h:GO w.heap.size w w1:=by rw[c];exact b1 _ _
  have l:w1.heap[g]?=GF (zNv k n nm ao ks.len cap):=by rw[c,d];exact GL _ _
  obtain⟨⟨c0,c1,c2,c3⟩,-⟩:=dW l;have s:=GP d;have p:=GP h;clear h S q o d l u j F E B D C;rcases O with rfl|rfl|rfl|rfl|rfl|rfl|rfl|rfl|rfl|rfl|rfl|rfl|rfl|rfl|rfl|rfl|rfl|rfl|rfl|rfl|rfl
  all_goals
   go_enter Tryz.func75,Tryz.ntmps75;go_upto_region 1 with fail;rw[<-c,<-s.out];clear c;go_wp2;go_ret;exact⟨rfl,p.out⟩
theorem qN:∀ (f:Fs),(kdF f).length=f.len
 | ⟨GE⟩=>rfl
 | ⟨GF ⟨k,n,nm,a,ks,r⟩⟩=>by simp only[kdF,Fs.len,Hc];rw[qN r]
theorem uh {nc:Nat}:∀ {f:Fs},okF nc f->∀ v ∈ kdF f,1<=v/\v<=3
 | ⟨GE⟩,_=>λv c=>by simp[kdF] at c
 | ⟨GF ⟨k,n,nm,a,ks,r⟩⟩,h=>λv c=>by
  have h1:=uh h.2.1;have g:=qN ks;have d:=kX h.1.1;simp only[kdF,Iu] at c;rcases c with rfl|c
  ·unfold kdN;split
   ·omega
   ·split
    ·omega
    ·split
     ·rename_i e
      have:=d.1 e
      have b:1<(kdF ks).length:=by omega
      rw[Hf,GM b];exact h1 _ (Ix b)
     ·split
      ·rename_i e
       have:=d.2.1 e
       have b:0<(kdF ks).length:=by omega
       rw[Hf,GM b];exact h1 _ (Ix b)
      ·split
       ·unfold ss;split;omega;split<;>omega
       ·split
        ·unfold tw;split<;>omega
        ·omega
  ·exact uh h.2.2 v c
theorem lL {nc:Nat}{e:Ex}(h:okE nc e):1<=kdE e/\kdE e<=3:=uh (f:=one e) (show okF nc (one e) from ⟨h.1,h.2,trivial⟩) (kdE e) (by simp[kdF,one,kdE])
theorem Gm (s:Em)(x:List UInt8):Grw s (s.kn x) 1:=⟨s.mes_kn x,GG _,rfl,id⟩
def opK (k:Int):Prop:=k=6\/k=7\/k=8\/k=9\/k=10\/k=11\/k=12\/k=13\/k=14\/k=15\/k=16\/k=20\/k=22\/k=23\/k=24\/k=25
theorem tm (nc:Nat)(e:Ex)(ao:Option Ha)(cap:Nat)(w:GI)(o:Nat->Nat)(rb:Nat)(lv:GN)(ls:List Int)(s:Em)(hk:opK e.k)(ho:okE nc e)(S:SnO w o e.kids ao)(R:e.kids.len<=268435455)(Q:e.nm.length<=G5)(hm:s.mes+3<=100000000)(X:EmX w o lv ls)(h:EmW w o rb lv s) :
  GV GH 85 #[.pointer (GF ⟨rb,0,GE⟩),exN e ao cap] w (py w o rb lv s (opr e.k e.n e.nm (kdF e.kids) s) 3):=by
 obtain⟨k,n,nm,a,ks⟩:=e;obtain⟨⟨G,-,-⟩,M⟩:=ho;simp only at G M hk S R Q;rw[dS];simp only;have j:=kX G;by_cases h6:k=6
 ·subst h6;have f:opr 6 n nm (kdF ks) s=s.lay 4 0 0:=by simp[opr,jy]
  rw[f];obtain⟨w1,c⟩:=exq (w.alloc (zNv 6 n nm ao ks.len cap));obtain⟨g,d⟩:=exq w.heap.size;have s0:∀ {I:Nat->Prop},dQ I w o w1 (dR w o 0):=λ{I}=>by rw[c];exact et I w o _
  have D:w1.heap[g]?=GF (zNv 6 n nm ao ks.len cap):=by rw[c,d];exact GL _ _
  have C:dR w o 0 g=0:=by rw[d];exact dY (GG _)
  have B:=h.step (s0 (I:=λ_=>False)) noF;have i:=X.step (s0 (I:=λ_=>False)) id;have F:=S.stepO (s0 (I:=λ_=>False)) id;have v:=s0 (I:=I17);generalize dR w o 0=m at *;obtain⟨⟨c0,c1,c2,c3⟩,-⟩:=dW D;have z:=GP d;clear s0 d h X S j G;have t:=fi 4 0 0 w1 m rb lv ls s (by omega) (by omega) (by omega) (by omega) i B;have p:=i.bar 6 (by omega);simp only[IE,ID] at p;clear f;go_enter IG,Iz;go_upto_region 1 with fail;rw[<-c,<-z.out];clear c;go_wp2_with (first|(go_at_call 41;refine t.mono ?_;rintro e w2 ⟨rfl,u,A,q⟩))
  go_end0
  exact⟨rfl,⟨u,A,v.trans q⟩,(eR s _ _ _).le (by omega)⟩
 by_cases h7:k=7
 ·subst h7;have f:opr 7 n nm (kdF ks) s=s.lay 5 0 0:=by simp[opr,jy]
  rw[f];obtain⟨w1,c⟩:=exq (w.alloc (zNv 7 n nm ao ks.len cap));obtain⟨g,d⟩:=exq w.heap.size;have s0:∀ {I:Nat->Prop},dQ I w o w1 (dR w o 0):=λ{I}=>by rw[c];exact et I w o _
  have D:w1.heap[g]?=GF (zNv 7 n nm ao ks.len cap):=by rw[c,d];exact GL _ _
  have C:dR w o 0 g=0:=by rw[d];exact dY (GG _)
  have B:=h.step (s0 (I:=λ_=>False)) noF;have i:=X.step (s0 (I:=λ_=>False)) id;have F:=S.stepO (s0 (I:=λ_=>False)) id;have v:=s0 (I:=I17);generalize dR w o 0=m at *;obtain⟨⟨c0,c1,c2,c3⟩,-⟩:=dW D;have z:=GP d;clear s0 d h X S j G;have t:=fi 5 0 0 w1 m rb lv ls s (by omega) (by omega) (by omega) (by omega) i B;have p:=i.bar 7 (by omega);simp only[IE,ID] at p;clear f;go_enter IG,Iz;go_upto_region 1 with fail;rw[<-c,<-z.out];clear c;go_wp2_with (first|(go_at_call 41;refine t.mono ?_;rintro e w2 ⟨rfl,u,A,q⟩))
  go_end0
  exact⟨rfl,⟨u,A,v.trans q⟩,(eR s _ _ _).le (by omega)⟩
 by_cases h8:k=8
 ·subst h8;have f:opr 8 n nm (kdF ks) s=s.lay 6 0 0:=by simp[opr,jy]
  rw[f];obtain⟨w1,c⟩:=exq (w.alloc (zNv 8 n nm ao ks.len cap));obtain⟨g,d⟩:=exq w.heap.size;have s0:∀ {I:Nat->Prop},dQ I w o w1 (dR w o 0):=λ{I}=>by rw[c];exact et I w o _
  have D:w1.heap[g]?=GF (zNv 8 n nm ao ks.len cap):=by rw[c,d];exact GL _ _
  have C:dR w o 0 g=0:=by rw[d];exact dY (GG _)
  have B:=h.step (s0 (I:=λ_=>False)) noF;have i:=X.step (s0 (I:=λ_=>False)) id;have F:=S.stepO (s0 (I:=λ_=>False)) id;have v:=s0 (I:=I17);generalize dR w o 0=m at *;obtain⟨⟨c0,c1,c2,c3⟩,-⟩:=dW D;have z:=GP d;clear s0 d h X S j G;have t:=fi 6 0 0 w1 m rb lv ls s (by omega) (by omega) (by omega) (by omega) i B;have p:=i.bar 8 (by omega);simp only[IE,ID] at p;clear f;go_enter IG,Iz;go_upto_region 1 with fail;rw[<-c,<-z.out];clear c;go_wp2_with (first|(go_at_call 41;refine t.mono ?_;rintro e w2 ⟨rfl,u,A,q⟩))
  go_end0
  exact⟨rfl,⟨u,A,v.trans q⟩,(eR s _ _ _).le (by omega)⟩
 by_cases h9:k=9
 ·subst h9;have f:opr 9 n nm (kdF ks) s=s.lay 7 0 0:=by simp[opr,jy]
  rw[f];obtain⟨w1,c⟩:=exq (w.alloc (zNv 9 n nm ao ks.len cap));obtain⟨g,d⟩:=exq w.heap.size;have s0:∀ {I:Nat->Prop},dQ I w o w1 (dR w o 0):=λ{I}=>by rw[c];exact et I w o _
  have D:w1.heap[g]?=GF (zNv 9 n nm ao ks.len cap):=by rw[c,d];exact GL _ _
  have C:dR w o 0 g=0:=by rw[d];exact dY (GG _)
  have B:=h.step (s0 (I:=λ_=>False)) noF;have i:=X.step (s0 (I:=λ_=>False)) id;have F:=S.stepO (s0 (I:=λ_=>False)) id;have v:=s0 (I:=I17);generalize dR w o 0=m at *;obtain⟨⟨c0,c1,c2,c3⟩,-⟩:=dW D;have z:=GP d;clear s0 d h X S j G;have t:=fi 7 0 0 w1 m rb lv ls s (by omega) (by omega) (by omega) (by omega) i B;have p:=i.bar 9 (by omega);simp only[IE,ID] at p;clear f;go_enter IG,Iz;go_upto_region 1 with fail;rw[<-c,<-z.out];clear c;go_wp2_with (first|(go_at_call 41;refine t.mono ?_;rintro e w2 ⟨rfl,u,A,q⟩))
  go_end0
  exact⟨rfl,⟨u,A,v.trans q⟩,(eR s _ _ _).le (by omega)⟩
 by_cases am:k=10
 ·subst am;have f:opr 10 n nm (kdF ks) s=s.lay 8 0 0:=by simp[opr,jy]
  rw[f];obtain⟨w1,c⟩:=exq (w.alloc (zNv 10 n nm ao ks.len cap));obtain⟨g,d⟩:=exq w.heap.size;have s0:∀ {I:Nat->Prop},dQ I w o w1 (dR w o 0):=λ{I}=>by rw[c];exact et I w o _
  have D:w1.heap[g]?=GF (zNv 10 n nm ao ks.len cap):=by rw[c,d];exact GL _ _
  have C:dR w o 0 g=0:=by rw[d];exact dY (GG _)
  have B:=h.step (s0 (I:=λ_=>False)) noF;have i:=X.step (s0 (I:=λ_=>False)) id;have F:=S.stepO (s0 (I:=λ_=>False)) id;have v:=s0 (I:=I17);generalize dR w o 0=m at *;obtain⟨⟨c0,c1,c2,c3⟩,-⟩:=dW D;have z:=GP d;clear s0 d h X S j G;have t:=fi 8 0 0 w1 m rb lv ls s (by omega) (by omega) (by omega) (by omega) i B;have p:=i.bar 10 (by omega);simp only[IE,ID] at p;clear f;go_enter IG,Iz;go_upto_region 1 with fail;rw[<-c,<-z.out];clear c;go_wp2_with (first|(go_at_call 41;refine t.mono ?_;rintro e w2 ⟨rfl,u,A,q⟩))
  go_end0
  exact⟨rfl,⟨u,A,v.trans q⟩,(eR s _ _ _).le (by omega)⟩
 by_cases al:k=11
 ·subst al;have f:opr 11 n nm (kdF ks) s=s.lay 9 0 0:=by simp[opr,jy]
  rw[f];obtain⟨w1,c⟩:=exq (w.alloc (zNv 11 n nm ao ks.len cap));obtain⟨g,d⟩:=exq w.heap.size;have s0:∀ {I:Nat->Prop},dQ I w o w1 (dR w o 0):=λ{I}=>by rw[c];exact et I w o _
  have D:w1.heap[g]?=GF (zNv 11 n nm ao ks.len cap):=by rw[c,d];exact GL _ _
  have C:dR w o 0 g=0:=by rw[d];exact dY (GG _)
  have B:=h.step (s0 (I:=λ_=>False)) noF;have i:=X.step (s0 (I:=λ_=>False)) id;have F:=S.stepO (s0 (I:=λ_=>False)) id;have v:=s0 (I:=I17);generalize dR w o 0=m at *;obtain⟨⟨c0,c1,c2,c3⟩,-⟩:=dW D;have z:=GP d;clear s0 d h X S j G;have t:=fi 9 0 0 w1 m rb lv ls s (by omega) (by omega) (by omega) (by omega) i B;have p:=i.bar 11 (by omega);simp only[IE,ID] at p;clear f;go_enter IG,Iz;go_upto_region 1 with fail;rw[<-c,<-z.out];clear c;go_wp2_with (first|(go_at_call 41;refine t.mono ?_;rintro e w2 ⟨rfl,u,A,q⟩))
  go_end0
  exact⟨rfl,⟨u,A,v.trans q⟩,(eR s _ _ _).le (by omega)⟩
 by_cases aj:k=12
 ·subst aj;have f:opr 12 n nm (kdF ks) s=s.lay 10 0 0:=by simp[opr,jy]
  rw[f];obtain⟨w1,c⟩:=exq (w.alloc (zNv 12 n nm ao ks.len cap));obtain⟨g,d⟩:=exq w.heap.size;have s0:∀ {I:Nat->Prop},dQ I w o w1 (dR w o 0):=λ{I}=>by rw[c];exact et I w o _
  have D:w1.heap[g]?=GF (zNv 12 n nm ao ks.len cap):=by rw[c,d];exact GL _ _
  have C:dR w o 0 g=0:=by rw[d];exact dY (GG _)
  have B:=h.step (s0 (I:=λ_=>False)) noF;have i:=X.step (s0 (I:=λ_=>False)) id;have F:=S.stepO (s0 (I:=λ_=>False)) id;have v:=s0 (I:=I17);generalize dR w o 0=m at *;obtain⟨⟨c0,c1,c2,c3⟩,-⟩:=dW D;have z:=GP d;clear s0 d h X S j G;have t:=fi 10 0 0 w1 m rb lv ls s (by omega) (by omega) (by omega) (by omega) i B;have p:=i.bar 12 (by omega);simp only[IE,ID] at p;clear f;go_enter IG,Iz;go_upto_region 1 with fail;rw[<-c,<-z.out];clear c;go_wp2_with (first|(go_at_call 41;refine t.mono ?_;rintro e w2 ⟨rfl,u,A,q⟩))
  go_end0
  exact⟨rfl,⟨u,A,v.trans q⟩,(eR s _ _ _).le (by omega)⟩
 by_cases ai:k=13
 ·subst ai;have J:=j.2.2.1 (by omega) (by omega);rw[J];obtain⟨x,y,E⟩:=iu J;have P:okE nc x:=by rw[E] at M;exact(en M).1
  have Z:=lL P;obtain⟨L,K⟩:∃L:Nat,(L:Int)=kdE x:=⟨(kdE x).toNat,by omega⟩;have f:opr 13 n nm (kdF ks) s=s.lay 11 0 L:=by rw[E,lz];simp[opr,<-K]
  rw[f];rw[E] at S;obtain⟨w1,c⟩:=exq (w.alloc (zNv 13 n nm ao 2 cap));obtain⟨g,d⟩:=exq w.heap.size;have s0:∀ {I:Nat->Prop},dQ I w o w1 (dR w o 0):=λ{I}=>by rw[c];exact et I w o _
  have D:w1.heap[g]?=GF (zNv 13 n nm ao 2 cap):=by rw[c,d];exact GL _ _
  have C:dR w o 0 g=0:=by rw[d];exact dY (GG _)
  have B:=h.step (s0 (I:=λ_=>False)) noF;have i:=X.step (s0 (I:=λ_=>False)) id;have F:=S.stepO (s0 (I:=λ_=>False)) id;have v:=s0 (I:=I17);generalize dR w o 0=m at *;obtain⟨⟨c0,c1,c2,c3⟩,-⟩:=dW D;have z:=GP d;clear s0 d h X S j G;obtain⟨b,off,ak,ck,rfl,x0,x1,x2,x3,T⟩:=we F;have O:=kG nc (x.kids.size+1) x ak ck w1 (by omega) P T.all;rw[dS,<-K] at O;have Y:L<=3:=by omega
  clear f E F T K Z J;go_enter IG,Iz;go_upto_region 1 with fail;rw[<-c,<-z.out];clear c;go_wp2_with fail;refine O.mono ?_;rintro r H ⟨rfl,N⟩;have t:=fi 11 0 L H m rb lv ls s (by omega) (by omega) (by omega) (by omega) (i.below N) (B.below N);have SB:dQ I17 w1 m H m:=dQ.ofBelow m N;clear O;go_wp2_with (first|(go_at_call 41;refine t.mono ?_;rintro e w2 ⟨rfl,u,A,q⟩))
  go_end0
  exact⟨rfl,⟨u,A,(v.trans SB).trans q⟩,(eR s _ _ _).le (by omega)⟩
 by_cases ah:k=14
 ·subst ah;have J:=j.2.2.1 (by omega) (by omega);rw[J];obtain⟨x,y,E⟩:=iu J;have P:okE nc x:=by rw[E] at M;exact(en M).1
  have Z:=lL P;obtain⟨L,K⟩:∃L:Nat,(L:Int)=kdE x:=⟨(kdE x).toNat,by omega⟩;have f:opr 14 n nm (kdF ks) s=(s.lay 11 0 L).lay 5 0 0:=by rw[E,lz];simp[opr,<-K]
  rw[f];rw[E] at S;obtain⟨w1,c⟩:=exq (w.alloc (zNv 14 n nm ao 2 cap));obtain⟨g,d⟩:=exq w.heap.size;have s0:∀ {I:Nat->Prop},dQ I w o w1 (dR w o 0):=λ{I}=>by rw[c];exact et I w o _
  have D:w1.heap[g]?=GF (zNv 14 n nm ao 2 cap):=by rw[c,d];exact GL _ _
  have C:dR w o 0 g=0:=by rw[d];exact dY (GG _)
  have B:=h.step (s0 (I:=λ_=>False)) noF;have i:=X.step (s0 (I:=λ_=>False)) id;have F:=S.stepO (s0 (I:=λ_=>False)) id;have v:=s0 (I:=I17);generalize dR w o 0=m at *;obtain⟨⟨c0,c1,c2,c3⟩,-⟩:=dW D;have z:=GP d;clear s0 d h X S j G;obtain⟨b,off,ak,ck,rfl,x0,x1,x2,x3,T⟩:=we F;have O:=kG nc (x.kids.size+1) x ak ck w1 (by omega) P T.all;rw[dS,<-K] at O;have Y:L<=3:=by omega
  clear f E F T K Z J;go_enter IG,Iz;go_upto_region 1 with fail;rw[<-c,<-z.out];clear c;go_wp2_with fail;refine O.mono ?_;rintro r H ⟨rfl,N⟩;have t:=fi 11 0 L H m rb lv ls s (by omega) (by omega) (by omega) (by omega) (i.below N) (B.below N);have SB:dQ I17 w1 m H m:=dQ.ofBelow m N;clear O;go_upto_region 7 with (first|(go_at_call 41;refine t.mono ?_;rintro e w2 ⟨rfl,u,A,q⟩))
  have gl:=eR s 11 0 L;have an:=fi 5 0 0 w2 u rb lv ls (s.lay 11 0 L) (by omega) (by omega) (by omega) (by have:=gl.mes;omega) ((i.below N).step q (by decide)) A;clear t;go_wp2_with (first|(go_at_call 41;refine an.mono ?_;rintro e w3 ⟨rfl,o3,E3,S3⟩))
  go_end0
  exact⟨rfl,⟨o3,E3,((v.trans SB).trans q).trans S3⟩,(gl.trans (eR _ _ _ _)).le (by omega)⟩
 by_cases ag:k=15
 ·subst ag;have f:opr 15 n nm (kdF ks) s=s.lay 12 0 0:=by simp[opr]
  rw[f];obtain⟨w1,c⟩:=exq (w.alloc (zNv 15 n nm ao ks.len cap));obtain⟨g,d⟩:=exq w.heap.size;have s0:∀ {I:Nat->Prop},dQ I w o w1 (dR w o 0):=λ{I}=>by rw[c];exact et I w o _
  have D:w1.heap[g]?=GF (zNv 15 n nm ao ks.len cap):=by rw[c,d];exact GL _ _
  have C:dR w o 0 g=0:=by rw[d];exact dY (GG _)
  have B:=h.step (s0 (I:=λ_=>False)) noF;have i:=X.step (s0 (I:=λ_=>False)) id;have F:=S.stepO (s0 (I:=λ_=>False)) id;have v:=s0 (I:=I17);generalize dR w o 0=m at *;obtain⟨⟨c0,c1,c2,c3⟩,-⟩:=dW D;have z:=GP d;clear s0 d h X S j G;have t:=fi 12 0 0 w1 m rb lv ls s (by omega) (by omega) (by omega) (by omega) i B;clear f;go_enter IG,Iz;go_upto_region 1 with fail;rw[<-c,<-z.out];clear c;go_wp2_with (first|(go_at_call 41;refine t.mono ?_;rintro e w2 ⟨rfl,u,A,q⟩))
  go_end0
  exact⟨rfl,⟨u,A,v.trans q⟩,(eR s _ _ _).le (by omega)⟩
 by_cases af:k=16
 ·subst af;have f:opr 16 n nm (kdF ks) s=s.lay 12 0 1:=by simp[opr]
  rw[f];obtain⟨w1,c⟩:=exq (w.alloc (zNv 16 n nm ao ks.len cap));obtain⟨g,d⟩:=exq w.heap.size;have s0:∀ {I:Nat->Prop},dQ I w o w1 (dR w o 0):=λ{I}=>by rw[c];exact et I w o _
  have D:w1.heap[g]?=GF (zNv 16 n nm ao ks.len cap):=by rw[c,d];exact GL _ _
  have C:dR w o 0 g=0:=by rw[d];exact dY (GG _)
  have B:=h.step (s0 (I:=λ_=>False)) noF;have i:=X.step (s0 (I:=λ_=>False)) id;have F:=S.stepO (s0 (I:=λ_=>False)) id;have v:=s0 (I:=I17);generalize dR w o 0=m at *;obtain⟨⟨c0,c1,c2,c3⟩,-⟩:=dW D;have z:=GP d;clear s0 d h X S j G;have t:=fi 12 0 1 w1 m rb lv ls s (by omega) (by omega) (by omega) (by omega) i B;clear f;go_enter IG,Iz;go_upto_region 1 with fail;rw[<-c,<-z.out];clear c;go_wp2_with (first|(go_at_call 41;refine t.mono ?_;rintro e w2 ⟨rfl,u,A,q⟩))
  go_end0
  exact⟨rfl,⟨u,A,v.trans q⟩,(eR s _ _ _).le (by omega)⟩
 by_cases ae:k=20
 ·subst ae;have hn:=j.2.2.2.2.1 rfl;obtain⟨n0,W⟩:∃n0:Nat,(n0:Int)=n:=⟨n.toNat,by omega⟩;subst W;have f:opr 20 (n0:Int) nm (kdF ks) s=s.lay 16 n0 0:=by simp[opr]
  rw[f];obtain⟨w1,c⟩:=exq (w.alloc (zNv 20 (n0:Int) nm ao ks.len cap));obtain⟨g,d⟩:=exq w.heap.size;have s0:∀ {I:Nat->Prop},dQ I w o w1 (dR w o 0):=λ{I}=>by rw[c];exact et I w o _
  have D:w1.heap[g]?=GF (zNv 20 (n0:Int) nm ao ks.len cap):=by rw[c,d];exact GL _ _
  have C:dR w o 0 g=0:=by rw[d];exact dY (GG _)
  have B:=h.step (s0 (I:=λ_=>False)) noF;have i:=X.step (s0 (I:=λ_=>False)) id;have F:=S.stepO (s0 (I:=λ_=>False)) id;have v:=s0 (I:=I17);generalize dR w o 0=m at *;obtain⟨⟨c0,c1,c2,c3⟩,-⟩:=dW D;have z:=GP d;clear s0 d h X S j G;have t:=fi 16 n0 0 w1 m rb lv ls s (by omega) (by omega) (by omega) (by omega) i B;clear f;go_enter IG,Iz;go_upto_region 1 with fail;rw[<-c,<-z.out];clear c;go_wp2_with (first|(go_at_call 41;refine t.mono ?_;rintro e w2 ⟨rfl,u,A,q⟩))
  go_end0
  exact⟨rfl,⟨u,A,v.trans q⟩,(eR s _ _ _).le (by omega)⟩
 by_cases ad:k=22
 ·subst ad;have f:opr 22 n nm (kdF ks) s=s.lay 20 0 0:=by simp[opr,jy]
  rw[f];obtain⟨w1,c⟩:=exq (w.alloc (zNv 22 n nm ao ks.len cap));obtain⟨g,d⟩:=exq w.heap.size;have s0:∀ {I:Nat->Prop},dQ I w o w1 (dR w o 0):=λ{I}=>by rw[c];exact et I w o _
  have D:w1.heap[g]?=GF (zNv 22 n nm ao ks.len cap):=by rw[c,d];exact GL _ _
  have C:dR w o 0 g=0:=by rw[d];exact dY (GG _)
  have B:=h.step (s0 (I:=λ_=>False)) noF;have i:=X.step (s0 (I:=λ_=>False)) id;have F:=S.stepO (s0 (I:=λ_=>False)) id;have v:=s0 (I:=I17);generalize dR w o 0=m at *;obtain⟨⟨c0,c1,c2,c3⟩,-⟩:=dW D;have z:=GP d;clear s0 d h X S j G;have t:=fi 20 0 0 w1 m rb lv ls s (by omega) (by omega) (by omega) (by omega) i B;have p:=i.bar 22 (by omega);simp only[IE,ID] at p;clear f;go_enter IG,Iz;go_upto_region 1 with fail;rw[<-c,<-z.out];clear c;go_wp2_with (first|(go_at_call 41;refine t.mono ?_;rintro e w2 ⟨rfl,u,A,q⟩))
  go_end0
  exact⟨rfl,⟨u,A,v.trans q⟩,(eR s _ _ _).le (by omega)⟩
 by_cases ac:k=23
 ·subst ac;have f:opr 23 n nm (kdF ks) s=(s.kn nm).lay 21 (s.ns.idxOf nm) 0:=by simp[opr]
  rw[f];obtain⟨w1,c⟩:=exq (w.alloc (zNv 23 n nm ao ks.len cap));obtain⟨g,d⟩:=exq w.heap.size;have s0:∀ {I:Nat->Prop},dQ I w o w1 (dR w o 0):=λ{I}=>by rw[c];exact et I w o _
  have D:w1.heap[g]?=GF (zNv 23 n nm ao ks.len cap):=by rw[c,d];exact GL _ _
  have C:dR w o 0 g=0:=by rw[d];exact dY (GG _)
  have B:=h.step (s0 (I:=λ_=>False)) noF;have i:=X.step (s0 (I:=λ_=>False)) id;have F:=S.stepO (s0 (I:=λ_=>False)) id;have v:=s0 (I:=I17);generalize dR w o 0=m at *;obtain⟨⟨c0,c1,c2,c3⟩,-⟩:=dW D;have z:=GP d;clear s0 d h X S j G;have HN:=ze nm w1 m rb lv ls s Q (by omega) i B;have hi:s.ns.idxOf nm<=268435455:=by
   have:=List.idxOf_le_length (a:=nm) (l:=s.ns)
   unfold Em.mes at hm;omega
  have gk:=Gm s nm;clear f;go_enter IG,Iz;go_upto_region 1 with fail;rw[<-c,<-z.out];clear c;go_wp2_with fail;refine HN.mono ?_;rintro e H ⟨rfl,V,ap,U⟩;have t:=fi 21 (s.ns.idxOf nm) 0 H V rb lv ls (s.kn nm) (by omega) hi (by omega) (by have:=gk.mes;omega) (i.step U (by decide)) ap;clear HN;go_wp2_with (first|(go_at_call 41;refine t.mono ?_;rintro e w2 ⟨rfl,u,A,q⟩))
  go_end0
  exact⟨rfl,⟨u,A,(v.trans U).trans q⟩,(gk.trans (eR _ _ _ _)).le (by omega)⟩
 by_cases ab:k=24
 ·subst ab;have f:opr 24 n nm (kdF ks) s=s.lay 22 0 0:=by simp[opr,jy]
  rw[f];obtain⟨w1,c⟩:=exq (w.alloc (zNv 24 n nm ao ks.len cap));obtain⟨g,d⟩:=exq w.heap.size;have s0:∀ {I:Nat->Prop},dQ I w o w1 (dR w o 0):=λ{I}=>by rw[c];exact et I w o _
  have D:w1.heap[g]?=GF (zNv 24 n nm ao ks.len cap):=by rw[c,d];exact GL _ _
  have C:dR w o 0 g=0:=by rw[d];exact dY (GG _)
  have B:=h.step (s0 (I:=λ_=>False)) noF;have i:=X.step (s0 (I:=λ_=>False)) id;have F:=S.stepO (s0 (I:=λ_=>False)) id;have v:=s0 (I:=I17);generalize dR w o 0=m at *;obtain⟨⟨c0,c1,c2,c3⟩,-⟩:=dW D;have z:=GP d;clear s0 d h X S j G;have t:=fi 22 0 0 w1 m rb lv ls s (by omega) (by omega) (by omega) (by omega) i B;have p:=i.bar 24 (by omega);simp only[IE,ID] at p;clear f;go_enter IG,Iz;go_upto_region 1 with fail;rw[<-c,<-z.out];clear c;go_wp2_with (first|(go_at_call 41;refine t.mono ?_;rintro e w2 ⟨rfl,u,A,q⟩))
  go_end0
  exact⟨rfl,⟨u,A,v.trans q⟩,(eR s _ _ _).le (by omega)⟩
 by_cases aa:k=25
 ·subst aa;have f:opr 25 n nm (kdF ks) s=s.lay 23 ks.len 0:=by simp[opr,qN]
  rw[f];obtain⟨w1,c⟩:=exq (w.alloc (zNv 25 n nm ao ks.len cap));obtain⟨g,d⟩:=exq w.heap.size;have s0:∀ {I:Nat->Prop},dQ I w o w1 (dR w o 0):=λ{I}=>by rw[c];exact et I w o _
  have D:w1.heap[g]?=GF (zNv 25 n nm ao ks.len cap):=by rw[c,d];exact GL _ _
  have C:dR w o 0 g=0:=by rw[d];exact dY (GG _)
  have B:=h.step (s0 (I:=λ_=>False)) noF;have i:=X.step (s0 (I:=λ_=>False)) id;have F:=S.stepO (s0 (I:=λ_=>False)) id;have v:=s0 (I:=I17);generalize dR w o 0=m at *;obtain⟨⟨c0,c1,c2,c3⟩,-⟩:=dW D;have z:=GP d;clear s0 d h X S j G;have t:=fi 23 ks.len 0 w1 m rb lv ls s (by omega) (by omega) (by omega) (by omega) i B;clear f;go_enter IG,Iz;go_upto_region 1 with fail;rw[<-c,<-z.out];clear c;go_wp2_with (first|(go_at_call 41;refine t.mono ?_;rintro e w2 ⟨rfl,u,A,q⟩))
  go_end0
  exact⟨rfl,⟨u,A,v.trans q⟩,(eR s _ _ _).le (by omega)⟩
 exfalso;rcases hk with h|h|h|h|h|h|h|h|h|h|h|h|h|h|h|h<;>contradiction
theorem gS {I:Nat->Prop}{w w':GI}(o:Nat->Nat)(b:GO w.heap.size w w'):dQ I w o w' (dR w o 0):=⟨b.os,b.tape,b.output,b.size,λk a=>ed a,λk a _=>b.block k a⟩
theorem al2 (w:GI)(a b:Obj):((w.alloc a).alloc b).heap[w.heap.size]?=GF a/\((w.alloc a).alloc b).heap[w.heap.size+1]?=GF b/\((w.alloc a).alloc b).heap.size=w.heap.size+2/\GO w.heap.size w ((w.alloc a).alloc b):=by
 refine⟨(Ir _ _ (by simp)).trans (GL _ _),?_,by simp,((GR _ w).alloc (GG _) _).alloc (by simp) _⟩
 have:=GL (w.alloc a) b
 rw[World.size_alloc] at this;exact this
theorem al3 (w:GI)(a b c:Obj):(((w.alloc a).alloc b).alloc c).heap[w.heap.size]?=GF a/\(((w.alloc a).alloc b).alloc c).heap[w.heap.size+1]?=GF b/\(((w.alloc a).alloc b).alloc c).heap[w.heap.size+2]?=GF c/\(((w.alloc a).alloc b).alloc c).heap.size=w.heap.size+3/\GO w.heap.size w (((w.alloc a).alloc b).alloc c):=by
 obtain⟨h1,h2,e,d⟩:=al2 w a b;refine⟨(Ir _ _ (by omega)).trans h1,(Ir _ _ (by omega)).trans h2,?_,by simp,d.alloc (by omega) _⟩
 have:=GL ((w.alloc a).alloc b) c
 rw[e] at this;exact this
theorem al4 (w:GI)(a b c d:Obj):((((w.alloc a).alloc b).alloc c).alloc d).heap[w.heap.size]?=GF a/\((((w.alloc a).alloc b).alloc c).alloc d).heap[w.heap.size+1]?=GF b/\((((w.alloc a).alloc b).alloc c).alloc d).heap[w.heap.size+2]?=GF c/\((((w.alloc a).alloc b).alloc c).alloc d).heap[w.heap.size+3]?=GF d/\((((w.alloc a).alloc b).alloc c).alloc d).heap.size=w.heap.size+4/\GO w.heap.size w ((((w.alloc a).alloc b).alloc c).alloc d):=by
 obtain⟨h1,h2,f,e,h5⟩:=al3 w a b c;refine⟨(Ir _ _ (by omega)).trans h1,(Ir _ _ (by omega)).trans h2,(Ir _ _ (by omega)).trans f,?_,by simp,h5.alloc (by omega) _⟩
 have:=GL (((w.alloc a).alloc b).alloc c) d
 rw[e] at this;exact this
theorem al5 (w:GI)(a b c d e:Obj):(((((w.alloc a).alloc b).alloc c).alloc d).alloc e).heap[w.heap.size]?=GF a/\(((((w.alloc a).alloc b).alloc c).alloc d).alloc e).heap[w.heap.size+1]?=GF b/\(((((w.alloc a).alloc b).alloc c).alloc d).alloc e).heap[w.heap.size+2]?=GF c/\(((((w.alloc a).alloc b).alloc c).alloc d).alloc e).heap[w.heap.size+3]?=GF d/\(((((w.alloc a).alloc b).alloc c).alloc d).alloc e).heap[w.heap.size+4]?=GF e/\(((((w.alloc a).alloc b).alloc c).alloc d).alloc e).heap.size=w.heap.size+5/\GO w.heap.size w (((((w.alloc a).alloc b).alloc c).alloc d).alloc e):=by
 obtain⟨h1,h2,h,g,h5,f⟩:=al4 w a b c d;refine⟨(Ir _ _ (by omega)).trans h1,(Ir _ _ (by omega)).trans h2,(Ir _ _ (by omega)).trans h,(Ir _ _ (by omega)).trans g,?_,by simp,f.alloc (by omega) _⟩
 have:=GL ((((w.alloc a).alloc b).alloc c).alloc d) e
 rw[h5] at this;exact this
abbrev pt0 (b:Nat):GN:=.pointer (GF ⟨b,0,GE⟩)
theorem dZ:¬I17 0:=by decide
def jx (nc N:Nat):Prop:=∀ (e:Ex) (ao:Option Ha) (cap ar u:Nat) (w:GI) (o:Nat->Nat) (rb:Nat) (lv:GN) (ls:List Int) (s:Em),e.kids.size<N->okE nc e->ls.length=nc->nc<=256->SnO w o e.kids ao->s.ks.length=ls.length ->
 s.mes+300*(e.kids.size+1)<=100000000->u+3*(e.kids.size+1)<=1000000000->ar+(e.kids.size+1)<=1000000000->s.dp<=1000000001->EmX w o lv ls->EmW w o rb lv s ->
 GV GH 40 #[pt0 rb,exN e ao cap,spV ar u] w (py w o rb lv s (emE ls e ar u s) (300*(e.kids.size+1)))
structure Cx (rb gw gn ga:Nat)(k n:Int)(nm:List UInt8)(f:Fs)(ao:Option Ha)(cap ar u:Nat)(w:GI)(o:Nat->Nat):Prop where
 bw:Blk w o 0 gw (.cells #[pt0 rb] 82)
 bn:Blk w o 0 gn (zNv k n nm ao f.len cap)
 ba:Blk w o 0 ga (.cells #[.int .i64 ar,.int .i64 u] 86)
 sn:SnO w o f ao
theorem Cx.step {I:Nat->Prop}{rb gw gn ga:Nat}{k n:Int}{nm:List UInt8}{f:Fs}{ao:Option Ha}{cap ar u:Nat}{w w':GI}{o o':Nat->Nat}(h:Cx rb gw gn ga k n nm f ao cap ar u w o)(x:dQ I w o w' o')(a:¬I 0):Cx rb gw gn ga k n nm f ao cap ar u w' o' :=
 ⟨h.bw.step x a,h.bn.step x a,h.ba.step x a,h.sn.stepO x a⟩
theorem Cx.keeps (rb gw gn ga:Nat)(k n:Int)(nm:List UInt8)(f:Fs)(ao:Option Ha)(cap ar u:Nat):om (Cx rb gw gn ga k n nm f ao cap ar u):=λh x=>h.step x dZ
theorem eP {w:GI}{b:Nat}{x:GN}{t:Hp}(h:w.heap[b]?=GF (.cells #[x] t)):w.cell? ⟨b,0,GE⟩=GF x:=by simp[JJ,h]
abbrev Nd4 (w:GI)(b j:Nat)(y:Ex)(ak:Option Ha)(ck:Nat):Prop:=w.cell? ⟨b,j,GE⟩=GF (.int .i64 y.k)/\w.cell? ⟨b,j+1,GE⟩=GF (.int .i64 y.n)/\w.cell? ⟨b,j+2,GE⟩=GF (stv y.nm)/\w.cell? ⟨b,j+3,GE⟩=GF (.slice ak y.kids.len ck)
theorem Nd4.block {w w':GI}{b j:Nat}{y:Ex}{ak:Option Ha}{ck:Nat}(h:Nd4 w b j y ak ck)(e:w'.heap[b]?=w.heap[b]?):Nd4 w' b j y ak ck :=
 ⟨(GW (a:=⟨b,j,GE⟩) e).trans h.1,(GW (a:=⟨b,j+1,GE⟩) e).trans h.2.1,(GW (a:=⟨b,j+2,GE⟩) e).trans h.2.2.1,(GW (a:=⟨b,j+3,GE⟩) e).trans h.2.2.2⟩
theorem ia {w:GI}{o:Nat->Nat}{x r:Fs}{y:Ex}{ao:Option Ha}(h:SnO w o (x.app (Fs.ex y r)) ao)(i:Nat)(c:x.len=i):∃b off ak ck,ao=GF ⟨b,off,GE⟩/\Nd4 w b (off+i*4) y ak ck/\SnO w o y.kids ak/\∀ {I:Nat->Prop}{w':GI}{o':Nat->Nat},dQ I w o w' o'->¬I 0->Nd4 w' b (off+i*4) y ak ck:=by
 subst c;obtain⟨b,off,ak,ck,rfl,a,j,g,f,e,d,S⟩:=SlN.kidQ h;have N:Nd4 w b (off+x.len*4) y ak ck:=⟨g,f,e,d⟩;exact⟨b,off,ak,ck,rfl,N,S,λx c=>N.block (x.block b a (by rw[j];exact c))⟩
theorem At (nc N:Nat)(Q:jx nc N)(rb gw gn ga:Nat)(k n:Int)(nm:List UInt8)(x y z:Ex)(ao:Option Ha)(cap ar u:Nat)(lv:GN)(ls:List Int)(f:okF nc (Fs.ex x (Fs.ex y (Fs.ex z .nil))))(O:y.kids.size<N)(h:ls.length=nc)(g:nc<=256)(J:u+3*(y.kids.size+1)<=1000000000)(j:ar+(y.kids.size+1)<=1000000000) :
  nF rb lv ls (Cx rb gw gn ga k n nm (Fs.ex x (Fs.ex y (Fs.ex z .nil))) ao cap ar u) 80 #[pt0 gw,pt0 gn,pt0 ga] (emE ls y ar u) (300*(y.kids.size+1)):=by
 intro w o s X E K L M i;obtain⟨bw,bn,ba,sn⟩:=K;have d1:dQ (λ_=>False) w o w.drew o:=(dQ.refl _ w o).drew;obtain⟨b,off,ak,ck,rfl,P,r,A⟩:=ia (x:=one x) sn 1 rfl;have a:(Fs.ex x (Fs.ex y (Fs.ex z .nil))).len=3:=rfl;rw[a] at bn;have cw:=eP bw.1;obtain⟨⟨n0,n1,n2,Y⟩,-⟩:=dW bn.1;obtain⟨a0,a1⟩:=eh ba.1;have C:=Q y ak ck ar u w.drew o rb lv ls s O (en (en f).2).1 h g (r.stepO d1 id) i L J j M (X.step d1 id) (E.step d1 noF);rw[dS] at C;have t:dQ I17 w o w.drew o:=(dQ.refl _ w o).drew;have B:Hid (∀ w' o',dQ I17 w.drew o w' o'->w'.cell? ⟨gw,0,GE⟩=GF (pt0 rb)/\w'.cell? ⟨gn,3,GE⟩=GF (.slice (GF ⟨b,off,GE⟩) 3 cap)/\Nd4 w' b (off+4) y ak ck/\w'.cell? ⟨ga,0,GE⟩=GF (.int .i64 ar)/\w'.cell? ⟨ga,1,GE⟩=GF (.int .i64 u)):=λw' o' S=>by
  have c:=t.trans S;exact⟨eP (bw.step c dZ).1,(dW (bn.step c dZ).1).1.2.2.2,A c dZ,(eh (ba.step c dZ).1).1,(eh (ba.step c dZ).1).2⟩
 obtain⟨l,d,q,p,m⟩:=B.out _ _ (dQ.refl I17 w.drew o);obtain⟨W,V,U,T⟩:=P;obtain⟨H,G,F,D⟩:=q;clear bw bn ba sn r a d1 A;go_enter Tryz.func80,Tryz.ntmps80;go_wp2_with fail;go_region_held3 (λwx=>wx.cell? ⟨gw,0,GE⟩=GF (pt0 rb)/\wx.cell? ⟨gn,3,GE⟩=GF (.slice (GF ⟨b,off,GE⟩) 3 cap)/\(wx.cell? ⟨b,off+4,GE⟩=GF (.int .i64 y.k)/\wx.cell? ⟨b,off+4+1,GE⟩=GF (.int .i64 y.n)/\wx.cell? ⟨b,off+4+2,GE⟩=GF (stv y.nm)/\wx.cell? ⟨b,off+4+3,GE⟩=GF (.slice ak y.kids.len ck))/\wx.cell? ⟨ga,0,GE⟩=GF (.int .i64 ar)/\wx.cell? ⟨ga,1,GE⟩=GF (.int .i64 u)) (go_keep) (first|(go_at_call 40;refine C.mono ?_;rintro e w2 ⟨rfl,⟨I,R,v⟩,g2⟩;obtain⟨l,d,⟨H,G,F,D⟩,p,m⟩:=B.out _ _ v))
 all_goals
  go_end0
  exact⟨rfl,⟨I,R,t.trans v⟩,g2⟩
theorem yM (nc N:Nat)(Q:jx nc N)(rb gw gn ga:Nat)(k n:Int)(nm:List UInt8)(x y z:Ex)(ao:Option Ha)(cap ar u:Nat)(lv:GN)(ls:List Int)(f:okF nc (Fs.ex x (Fs.ex y (Fs.ex z .nil))))(O:z.kids.size<N)(h:ls.length=nc)(g:nc<=256)(J:u+3*(z.kids.size+1)<=1000000000)(j:ar+(z.kids.size+1)<=1000000000) :
  nF rb lv ls (Cx rb gw gn ga k n nm (Fs.ex x (Fs.ex y (Fs.ex z .nil))) ao cap ar u) 81 #[pt0 gw,pt0 gn,pt0 ga] (emE ls z ar u) (300*(z.kids.size+1)):=by
 intro w o s X E K L M i;obtain⟨bw,bn,ba,sn⟩:=K;have d1:dQ (λ_=>False) w o w.drew o:=(dQ.refl _ w o).drew;obtain⟨b,off,ak,ck,rfl,P,r,A⟩:=ia (x:=Fs.ex x (one y)) sn 2 rfl;have a:(Fs.ex x (Fs.ex y (Fs.ex z .nil))).len=3:=rfl;rw[a] at bn;have cw:=eP bw.1;obtain⟨⟨n0,n1,n2,Y⟩,-⟩:=dW bn.1;obtain⟨a0,a1⟩:=eh ba.1;have C:=Q z ak ck ar u w.drew o rb lv ls s O (en (en (en f).2).2).1 h g (r.stepO d1 id) i L J j M (X.step d1 id) (E.step d1 noF);rw[dS] at C;have t:dQ I17 w o w.drew o:=(dQ.refl _ w o).drew;have B:Hid (∀ w' o',dQ I17 w.drew o w' o'->w'.cell? ⟨gw,0,GE⟩=GF (pt0 rb)/\w'.cell? ⟨gn,3,GE⟩=GF (.slice (GF ⟨b,off,GE⟩) 3 cap)/\Nd4 w' b (off+8) z ak ck/\w'.cell? ⟨ga,0,GE⟩=GF (.int .i64 ar)/\w'.cell? ⟨ga,1,GE⟩=GF (.int .i64 u)):=λw' o' S=>by
  have c:=t.trans S;exact⟨eP (bw.step c dZ).1,(dW (bn.step c dZ).1).1.2.2.2,A c dZ,(eh (ba.step c dZ).1).1,(eh (ba.step c dZ).1).2⟩
 obtain⟨l,d,q,p,m⟩:=B.out _ _ (dQ.refl I17 w.drew o);obtain⟨W,V,U,T⟩:=P;obtain⟨H,G,F,D⟩:=q;clear bw bn ba sn r a d1 A;go_enter Tryz.func81,Tryz.ntmps81;go_wp2_with fail;go_region_held3 (λwx=>wx.cell? ⟨gw,0,GE⟩=GF (pt0 rb)/\wx.cell? ⟨gn,3,GE⟩=GF (.slice (GF ⟨b,off,GE⟩) 3 cap)/\(wx.cell? ⟨b,off+8,GE⟩=GF (.int .i64 z.k)/\wx.cell? ⟨b,off+8+1,GE⟩=GF (.int .i64 z.n)/\wx.cell? ⟨b,off+8+2,GE⟩=GF (stv z.nm)/\wx.cell? ⟨b,off+8+3,GE⟩=GF (.slice ak z.kids.len ck))/\wx.cell? ⟨ga,0,GE⟩=GF (.int .i64 ar)/\wx.cell? ⟨ga,1,GE⟩=GF (.int .i64 u)) (go_keep) (first|(go_at_call 40;refine C.mono ?_;rintro e w2 ⟨rfl,⟨I,R,v⟩,g2⟩;obtain⟨l,d,⟨H,G,F,D⟩,p,m⟩:=B.out _ _ v))
 all_goals
  go_end0
  exact⟨rfl,⟨I,R,t.trans v⟩,g2⟩
theorem CI (nc N:Nat)(P:jx nc N)(rb gw gn ga:Nat)(k n:Int)(nm:List UInt8)(x y:Ex)(ao:Option Ha)(cap ar u:Nat)(lv:GN)(ls:List Int)(f:okF nc (Fs.ex x (Fs.ex y .nil)))(M:y.kids.size<N)(h:ls.length=nc)(g:nc<=256)(I:u+3*(y.kids.size+1)<=1000000000)(j:ar+(y.kids.size+1)<=1000000000) :
  nF rb lv ls (Cx rb gw gn ga k n nm (Fs.ex x (Fs.ex y .nil)) ao cap ar u) 124 #[pt0 gw,pt0 gn,pt0 ga] (emE ls y ar u) (300*(y.kids.size+1)):=by
 intro w o s X E K J L i;obtain⟨bw,bn,ba,sn⟩:=K;have d1:dQ (λ_=>False) w o w.drew o:=(dQ.refl _ w o).drew;obtain⟨b,off,ak,ck,rfl,O,r,z⟩:=ia (x:=one x) sn 1 rfl;have a:(Fs.ex x (Fs.ex y .nil)).len=2:=rfl;rw[a] at bn;have cw:=eP bw.1;obtain⟨⟨n0,n1,n2,W⟩,-⟩:=dW bn.1;obtain⟨a0,a1⟩:=eh ba.1;have B:=P y ak ck ar u w.drew o rb lv ls s M (en (en f).2).1 h g (r.stepO d1 id) i J I j L (X.step d1 id) (E.step d1 noF);rw[dS] at B;have t:dQ I17 w o w.drew o:=(dQ.refl _ w o).drew;have A:Hid (∀ w' o',dQ I17 w.drew o w' o'->w'.cell? ⟨gw,0,GE⟩=GF (pt0 rb)/\w'.cell? ⟨gn,3,GE⟩=GF (.slice (GF ⟨b,off,GE⟩) 2 cap)/\Nd4 w' b (off+4) y ak ck/\w'.cell? ⟨ga,0,GE⟩=GF (.int .i64 ar)/\w'.cell? ⟨ga,1,GE⟩=GF (.int .i64 u)):=λw' o' S=>by
  have c:=t.trans S;exact⟨eP (bw.step c dZ).1,(dW (bn.step c dZ).1).1.2.2.2,z c dZ,(eh (ba.step c dZ).1).1,(eh (ba.step c dZ).1).2⟩
 obtain⟨l,d,q,p,m⟩:=A.out _ _ (dQ.refl I17 w.drew o);obtain⟨V,U,T,R⟩:=O;obtain⟨G,F,D,C⟩:=q;clear bw bn ba sn r a d1 z;go_enter Tryz.func124,Tryz.ntmps124;go_wp2_with fail;go_region_held3 (λwx=>wx.cell? ⟨gw,0,GE⟩=GF (pt0 rb)/\wx.cell? ⟨gn,3,GE⟩=GF (.slice (GF ⟨b,off,GE⟩) 2 cap)/\(wx.cell? ⟨b,off+4,GE⟩=GF (.int .i64 y.k)/\wx.cell? ⟨b,off+4+1,GE⟩=GF (.int .i64 y.n)/\wx.cell? ⟨b,off+4+2,GE⟩=GF (stv y.nm)/\wx.cell? ⟨b,off+4+3,GE⟩=GF (.slice ak y.kids.len ck))/\wx.cell? ⟨ga,0,GE⟩=GF (.int .i64 ar)/\wx.cell? ⟨ga,1,GE⟩=GF (.int .i64 u)) (go_keep) (first|(go_at_call 40;refine B.mono ?_;rintro e w2 ⟨rfl,⟨H,Q,v⟩,g2⟩;obtain⟨l,d,⟨G,F,D,C⟩,p,m⟩:=A.out _ _ v))
 all_goals
  go_end0
  exact⟨rfl,⟨H,Q,t.trans v⟩,g2⟩
theorem nF.mono {rb:Nat}{lv:GN}{ls:List Int}{K a:GI->(Nat->Nat)->Prop}{F:FuncId}{c:Array GN}{t:Em->Em}{n:Nat}(h:nF rb lv ls K F c t n)(b:∀ w o,a w o->K w o):nF rb lv ls a F c t n:=λw o s X E k=>h w o s X E (b w o k)
theorem Cr (rb gw gs ga ar u v:Nat)(lv:GN)(ls:List Int)(i:v<=1)(a:u<=1000000000) :
  nF rb lv ls (λw o=>Blk w o 0 gw (.cells #[pt0 rb] 82)/\Blk w o 0 gs (.cells #[.int .i64 v] 3)/\Blk w o 0 ga (.cells #[.int .i64 ar,.int .i64 u] 86)) 125 #[pt0 gw,pt0 gs,pt0 ga] (λt=>t.con (v:Nat) 2 u) 2:=by
 intro w o s X E ⟨bw,bs,ba⟩ j d c;have cw:=eP bw.1;have cs:=eP bs.1;obtain⟨a0,a1⟩:=eh ba.1;have g:=fo (v:Nat) 2 ar u w o rb lv ls s (by omega) (by omega) a d (by omega) X E;clear bw bs ba;go_enter Tryz.func125,Tryz.ntmps125;go_wp2_with (first|(go_at_call 74;refine g.mono ?_;rintro e w2 ⟨rfl,b,h,f⟩))
 go_end0
 exact⟨rfl,⟨b,h,f⟩,iJ s _ _ _ a⟩
theorem AX:Ent 124:=λ_ _=>by kernel_rfl
theorem zl:Ent 125:=λ_ _=>by kernel_rfl
def CxI (rb gw gn gs ga:Nat)(k n:Int)(nm:List UInt8)(f:Fs)(ao:Option Ha)(cap ar u v:Nat)(w:GI)(o:Nat->Nat):Prop:=Cx rb gw gn ga k n nm f ao cap ar u w o/\Blk w o 0 gs (.cells #[.int .i64 v] 3)
theorem CxI.keeps (rb gw gn gs ga:Nat)(k n:Int)(nm:List UInt8)(f:Fs)(ao:Option Ha)(cap ar u v:Nat):om (CxI rb gw gn gs ga k n nm f ao cap ar u v):=λh x=>⟨h.1.step x dZ,h.2.step x dZ⟩
theorem AE (nc N:Nat)(HP:jx nc N)(k n:Int)(nm:List UInt8)(a:Int)(x y:Ex)(ao:Option Ha)(cap op v ar u:Nat)(w:GI)(o:Nat->Nat)(rb:Nat)(lv:GN)(ls:List Int)(s:Em)(J:op<=255)(hv:v<=1)(p:okF nc (Fs.ex x (Fs.ex y .nil)))(C:x.kids.size<N)(B:y.kids.size<N)(z:ls.length=nc)(r:nc<=256)(hu:u+3*(x.kids.size+y.kids.size+2)<=1000000000)(ab:ar+(x.kids.size+y.kids.size+2)<=1000000000)(S:SnO w o (Fs.ex x (Fs.ex y .nil)) ao)(A:s.ks.length=ls.length)
  (hm:s.mes+(300*(x.kids.size+1)+(300*(y.kids.size+1)+4))<=100000000) (W:s.dp<=1000000001) (X:EmX w o lv ls) (h:EmW w o rb lv s) :
  GV GH 78 #[pt0 rb,exN ⟨k,n,nm,a,Fs.ex x (Fs.ex y .nil)⟩ ao cap,.int .i64 op,.int .i64 v,spV ar u] w (py w o rb lv s ((emE ls x ar u s).fork op (emE ls y ar u) (λt=>t.con (v:Nat) 2 u)) (300*(x.kids.size+1)+(300*(y.kids.size+1)+4))):=by
 have d:(Fs.ex x (Fs.ex y .nil)).len=2:=rfl;rw[dS];simp only;obtain⟨g,D⟩:=exq w.heap.size;obtain⟨w1,i⟩:=exq ((((w.alloc (.cells #[pt0 rb] 82)).alloc (.cells #[.int .i64 k,.int .i64 n,stv nm,.slice ao (Fs.ex x (Fs.ex y .nil)).len cap] 34)).alloc (.cells #[.int .i64 v] 3)).alloc (.cells #[.int .i64 ar,.int .i64 u] 86));obtain⟨G,z2,z3,z4,z5,F⟩:=al4 w (.cells #[pt0 rb] 82) (.cells #[.int .i64 k,.int .i64 n,stv nm,.slice ao (Fs.ex x (Fs.ex y .nil)).len cap] 34) (.cells #[.int .i64 v] 3) (.cells #[.int .i64 ar,.int .i64 u] 86);rw[<-i,<-D] at G z2 z3 z4 z5 F;have s0:∀ {I:Nat->Prop},dQ I w o w1 (dR w o 0):=λ{I}=>gS o (by rw[<-D];exact F);have c:∀ j,dR w o 0 (g+j)=0:=λj=>dY (by omega);have l:CxI rb g (g+1) (g+2) (g+3) k n nm (Fs.ex x (Fs.ex y .nil)) ao cap ar u v w1 (dR w o 0):=⟨⟨⟨G,c 0⟩,⟨z2,c 1⟩,⟨z4,c 3⟩,S.stepO (s0 (I:=λ_=>False)) id⟩,⟨z3,c 2⟩⟩;have E1:=h.step (s0 (I:=λ_=>False)) noF;have Z:=X.step (s0 (I:=λ_=>False)) id;have S0:=s0 (I:=I17);generalize dR w o 0=f at *;have HG:=GP D;clear s0 c G z2 z3 z4 z5 F h X S D;have d1:dQ (λ_=>False) w1 f w1.drew f:=(dQ.refl _ w1 f).drew;have SD:dQ I17 w1 f w1.drew f:=(dQ.refl _ w1 f).drew;have KD:=l.1.step d1 id;obtain⟨b,off,ak,ck,rfl,NN,Sy,NK⟩:=ia (x:=.nil) l.1.sn 0 rfl;have U:=HP x ak ck ar u w1.drew f rb lv ls s C (en p).1 z r (Sy.stepO d1 id) A (by omega) (by omega) (by omega) W (Z.step d1 id) (E1.step d1 noF);rw[dS] at U;rw[d] at i ⊢;have T:Hid (∀ w' o',dQ I17 w1.drew f w' o'->w'.cell? ⟨g,0,GE⟩=GF (pt0 rb)/\w'.cell? ⟨g+1,3,GE⟩=GF (.slice (GF ⟨b,off,GE⟩) 2 cap)/\Nd4 w' b off x ak ck/\w'.cell? ⟨g+3,0,GE⟩=GF (.int .i64 ar)/\w'.cell? ⟨g+3,1,GE⟩=GF (.int .i64 u)):=λw' o' S=>by
  have S':=SD.trans S;have q:=l.1.step S' dZ;exact⟨eP q.bw.1,(dW q.bn.1).1.2.2.2,NK S' dZ,(eh q.ba.1).1,(eh q.ba.1).2⟩
 obtain⟨O,H,R,Q,P⟩:=T.out _ _ (dQ.refl I17 w1.drew f);have cw:=eP l.1.bw.1;have n3:=(dW l.1.bn.1).1.2.2.2;rw[d] at n3;obtain⟨a0,a1⟩:=eh l.1.ba.1;obtain⟨x0,x1,x2,x3⟩:=NN;obtain⟨y0,y1,y2,y3⟩:=R;have FK:∀ w2 m s2,CxI rb g (g+1) (g+2) (g+3) k n nm (Fs.ex x (Fs.ex y .nil)) (GF ⟨b,off,GE⟩) cap ar u v w2 m->EmX w2 m lv ls->EmW w2 m rb lv s2->s2.mes+(300*(y.kids.size+1)+2+2)<=100000000->s2.dp<=1000000001->s2.ks.length=ls.length->_:=λw2 m s2 q X2 V K M L =>
  ue op 124 125 #[pt0 g,pt0 (g+1),pt0 (g+3)] #[pt0 g,pt0 (g+2),pt0 (g+3)] (emE ls y ar u) (λt=>t.con (v:Nat) 2 u) (300*(y.kids.size+1)) 2 _ (CxI.keeps _ _ _ _ _ _ _ _ _ _ _ _ _ _) AX zl w2 m rb lv ls ((CI nc N HP rb g (g+1) (g+3) k n nm x y (GF ⟨b,off,GE⟩) cap ar u lv ls p B z r (by omega) (by omega)).mono (λ_ _ h=>h.1)) ((Cr rb g (g+2) (g+3) ar u v lv ls hv (by omega)).mono (λ_ _ h=>⟨h.1.bw,h.2,h.1.ba⟩)) s2 J K M L X2 V q
 clear d d1 NK Sy KD E1 p C B;go_enter Tryz.func78,Tryz.ntmps78;go_upto_region 1 with fail;rw[<-i,<-HG.out];clear i;go_region_held3 (λwx=>wx.cell? ⟨g,0,GE⟩=GF (pt0 rb)/\wx.cell? ⟨g+1,3,GE⟩=GF (.slice (GF ⟨b,off,GE⟩) 2 cap)/\(wx.cell? ⟨b,off,GE⟩=GF (.int .i64 x.k)/\wx.cell? ⟨b,off+1,GE⟩=GF (.int .i64 x.n)/\wx.cell? ⟨b,off+2,GE⟩=GF (stv x.nm)/\wx.cell? ⟨b,off+3,GE⟩=GF (.slice ak x.kids.len ck))/\wx.cell? ⟨g+3,0,GE⟩=GF (.int .i64 ar)/\wx.cell? ⟨g+3,1,GE⟩=GF (.int .i64 u)) (go_keep) (first|(go_at_call 40;refine U.mono ?_;rintro e w2 ⟨rfl,⟨m,V,S2⟩,g2⟩;obtain⟨O,H,⟨y0,y1,y2,y3⟩,Q,P⟩:=T.out _ _ S2))
 all_goals
  have E:=SD.trans S2;have HF:=FK w2 m _ ⟨l.1.step E dZ,l.2.step E dZ⟩ (Z.step E dZ) V (by have:=g2.mes;omega) (g2.dp W) (g2.ks.trans A);clear FK U T l;go_wp2_with (first|(go_at_call 79;refine HF.mono ?_;rintro e w4 ⟨rfl,⟨o4,E4,S4⟩,g4⟩))
  go_end0
  exact⟨rfl,⟨o4,E4,(S0.trans E).trans S4⟩,(g2.trans g4).le (by omega)⟩
theorem EX (nc N:Nat)(HP:jx nc N)(n:Int)(nm:List UInt8)(a:Int)(x:Ex)(ao:Option Ha)(cap ar u:Nat)(w:GI)(o:Nat->Nat)(rb:Nat)(lv:GN)(ls:List Int)(s:Em)(H:okE nc ⟨26,n,nm,a,Fs.ex x .nil⟩)(ah:x.kids.size<N)(L:ls.length=nc)(ag:nc<=256)(hu:u+3*(x.kids.size+1)<=1000000000)(au:ar+(x.kids.size+1)<=1000000000)(S:SnO w o (Fs.ex x .nil) ao)(M:s.ks.length=ls.length)
  (hm:s.mes+(300*(x.kids.size+1)+2)<=100000000) (hd:s.dp<=1000000001) (X:EmX w o lv ls) (h:EmW w o rb lv s) :
  GV GH 82 #[pt0 rb,exN ⟨26,n,nm,a,Fs.ex x .nil⟩ ao cap,spV ar u] w (py w o rb lv s (((emE ls x ar u ((s.cel n.toNat (kdE x)).lay 17 n.toNat 0)).lay 18 n.toNat 0).land s.ws.length) (300*(x.kids.size+1)+2)):=by
 have V:=H.2;have hn:0<=n/\n<(nc:Int):=H.1.2.2.1 rfl;obtain⟨n0,K⟩:∃n0:Nat,(n0:Int)=n:=⟨n.toNat,by omega⟩;subst K;rw[Ij];have ap:=lL (en V).1;have t:(Fs.ex x .nil).len=1:=rfl;have l:=λw2 (S2:SnA w2 (Fs.ex x .nil) ao)=>kG nc ((Fs.ex x .nil).size+1) ⟨26,(n0:Int),nm,a,Fs.ex x .nil⟩ ao cap w2 (by show (Fs.ex x .nil).size < _;omega) H S2;have Y:kdE ⟨26,(n0:Int),nm,a,Fs.ex x .nil⟩=kdE x:=by simp only[kdE,lz];simp[kdN]
 rw[dS,Y] at l;rw[dS];simp only at l ⊢;obtain⟨g,hg⟩:=exq w.heap.size;obtain⟨w1,m⟩:=exq ((w.alloc (.cells #[.int .i64 26,.int .i64 n0,stv nm,.slice ao (Fs.ex x .nil).len cap] 34)).alloc (.cells #[.int .i64 ar,.int .i64 u] 86));obtain⟨z1,z2,z5,z6⟩:=al2 w (.cells #[.int .i64 26,.int .i64 n0,stv nm,.slice ao (Fs.ex x .nil).len cap] 34) (.cells #[.int .i64 ar,.int .i64 u] 86);rw[<-m,<-hg] at z1 z2 z5 z6;have s0:∀ {I:Nat->Prop},dQ I w o w1 (dR w o 0):=λ{I}=>gS o (by rw[<-hg];exact z6);have J:∀ j,dR w o 0 (g+j)=0:=λj=>dY (by omega);have K1:Blk w1 (dR w o 0) 0 g (.cells #[.int .i64 26,.int .i64 n0,stv nm,.slice ao (Fs.ex x .nil).len cap] 34)/\Blk w1 (dR w o 0) 0 (g+1) (.cells #[.int .i64 ar,.int .i64 u] 86):=⟨⟨z1,J 0⟩,⟨z2,J 1⟩⟩;have Q:=S.stepO (s0 (I:=λ_=>False)) id;have E1:=h.step (s0 (I:=λ_=>False)) noF;have X1:=X.step (s0 (I:=λ_=>False)) id;have S0:=s0 (I:=I17);generalize dR w o 0=c at *;have HG:=GP hg;clear s0 J z1 z2 z5 z6 h X S hg;rw[t] at m K1 l ⊢;have d1:dQ (λ_=>False) w1 c w1.drew c:=(dQ.refl _ w1 c).drew;have HK:=l w1.drew (Q.all.below (GR _ w1).drew);obtain⟨b,off,ak,ck,rfl,NN,Sy,NK⟩:=ia (x:=.nil) Q 0 rfl;obtain⟨h1,h2,h3,vw,vc,vn,vk,mc,mn,U,q1,q2,q3,q4,q5,q6⟩:=E1;obtain⟨gk,y,rfl,D,-,-,Z,ab,aa⟩:=q4.pos (by rw[M,L];omega);have W:rb≠gk:=λe=>by have:=U.2;rw[e,D] at this;cases this
 have al:g≠gk:=λe=>by have:=K1.1.2;rw[e,D] at this;cases this
 have K:n0<s.ks.length:=by rw[M,L];omega
 have HS:Hid (∀ w2,GO w1.heap.size w1 w2->EmW (w2.setCell ⟨gk,n0,GE⟩ (.int .i64 (kdE x))) c rb lv (s.cel n0 (kdE x))/\dQ I17 w1 c (w2.setCell ⟨gk,n0,GE⟩ (.int .i64 (kdE x))) c):=λw2 B=>by
  have A:=dQ.ofBelow (I:=λ_=>False) c B;have d:dQ (λk=>k=5) w1 c (w2.setCell ⟨gk,n0,GE⟩ (.int .i64 (kdE x))) c:=(dQ.ofBelow c B).setCell ⟨gk,n0,GE⟩ _ D;refine⟨⟨h1,h2,h3,_,_,_,_,mc,mn,U.step d (by decide),q1.step d (by decide),q2.step d (by decide),q3.step d (by decide),?_,q5.step d (by decide),q6.step d (by decide)⟩,d.mono (fw (by decide))⟩;have r:=(q4.step A id).store n0 (.int .i64 (kdE x));have P:eiV (s.cel n0 (kdE x)).ks=(eiV s.ks).set n0 (.int .i64 (kdE x)):=by simp[eiV,Em.cel]
  have O:(s.cel n0 (kdE x)).ks.length=s.ks.length:=by simp[Em.cel]
  rw[P,O];exact r
 have z:Hid (∀ w' o',dQ I17 w1 c w' o'->w'.cell? ⟨g,0,GE⟩=GF (.int .i64 26)/\w'.cell? ⟨g,1,GE⟩=GF (.int .i64 n0)/\w'.cell? ⟨g,2,GE⟩=GF (stv nm)/\w'.cell? ⟨g,3,GE⟩=GF (.slice (GF ⟨b,off,GE⟩) 1 cap)/\Nd4 w' b off x ak ck/\w'.cell? ⟨g+1,0,GE⟩=GF (.int .i64 ar)/\w'.cell? ⟨g+1,1,GE⟩=GF (.int .i64 u)):=λw' o' S=>by
  obtain⟨⟨e0,e1,P,O⟩,-⟩:=dW (K1.1.step S dZ).1;obtain⟨f0,f1⟩:=eh (K1.2.step S dZ).1;exact⟨e0,e1,P,O,NK S dZ,f0,f1⟩
 have FZ:Hid (∀ w2,GO w1.heap.size w1 w2->w2.cell? ⟨rb,3,GE⟩=GF (.slice (GF ⟨gk,0,GE⟩) s.ks.length y)/\(∃v,w2.cell? ⟨gk,n0,GE⟩=GF v)/\w2.frozen? ⟨gk,n0,GE⟩=false):=λw2 B=>by
  refine⟨(B.cell (p:=⟨rb,3,GE⟩) U.lt).trans (gX U.1).1.2.2.2.1,⟨.int .i64 (s.ks[n0]),?_⟩,?_⟩
  ·rw[B.cell (p:=⟨gk,n0,GE⟩) Z,ab n0 (by omega)];simp[eiV,K]
  ·have e:=B.block gk Z
   have:=aa n0
   unfold JU at this ⊢;rw[e];exact this
 obtain⟨r3,⟨vz,rz⟩,rf⟩:=FZ.out w1 (GR _ _);obtain⟨ae,⟨am,ac⟩,ad⟩:=FZ.out w1.drew (GR _ w1).drew;obtain⟨c0,c1,c2,c3,⟨A,d,T,R⟩,a0,a1⟩:=z.out _ _ (dQ.refl I17 w1 c);obtain⟨d0,ai,d2,d3,⟨y0,y1,y2,y3⟩,b0,b1⟩:=z.out _ _ ((dQ.refl I17 w1 c).drew);have an:(n0:Int)<(s.ks.length:Int):=by omega
 have av:=Sy;have gc:=Fx s n0 (kdE x);have gl:=eR (s.cel n0 (kdE x)) 17 n0 0;clear U q1 q2 q3 q4 q5 q6 h1 h2 h3 ab aa NK Q l Y t NN;generalize aq:kdE x=F at *
 go_enter_defers Tryz.func82,Tryz.ntmps82
 go_upto_region 1 with fail;rw[<-m,<-HG.out];clear m;go_region_held3 (λwx=>wx.cell? ⟨g,0,GE⟩=GF (.int .i64 26)/\wx.cell? ⟨g,1,GE⟩=GF (.int .i64 n0)/\wx.cell? ⟨g,2,GE⟩=GF (stv nm)/\wx.cell? ⟨g,3,GE⟩=GF (.slice (GF ⟨b,off,GE⟩) 1 cap)/\wx.cell? ⟨rb,3,GE⟩=GF (.slice (GF ⟨gk,0,GE⟩) s.ks.length y)) (go_keep) (first|(go_at_call 75;refine HK.mono ?_;rintro e w2 ⟨rfl,B2⟩;have q:=((GR _ w1).drew).trans B2;obtain⟨e0,e1,P,O,-,-,-⟩:=z.out _ _ (dQ.ofBelow c q);obtain⟨t3,⟨tz,tr⟩,tf⟩:=FZ.out w2 q;obtain⟨m0,m1,m2,m3,-,-,-⟩:=z.out _ _ (HS.out w2 q).2;have mr:=(GW (a:=⟨rb,3,GE⟩) (GT w2 ⟨gk,n0,GE⟩ rb (.int .i64 F) W)).trans t3))
 all_goals
  obtain⟨ES,SS⟩:=HS.out w2 q;clear HS FZ HK m0 m1 m2 m3 mr t3 tz tr tf e0 e1 P O r3 ae rz ac rf ad c0 c1 c2 c3 d0 ai d2 d3 A d T R y0 y1 y2 y3 a0 a1 b0 b1;generalize w2.setCell ⟨gk,n0,GE⟩ (.int .i64 F)=w3 at *;have XS:=X1.step SS dZ;have HL:=fi 17 n0 0 w3 c rb lv ls (s.cel n0 F) (by omega) (by omega) (by omega) (by have:=gc.mes;omega) XS ES;obtain⟨c0,c1,c2,c3,⟨A,d,T,R⟩,a0,a1⟩:=z.out _ _ SS;go_upto_region 3 with (first|(go_at_call 41;refine HL.mono ?_;rintro e w4 ⟨rfl,E,E4,S4⟩))
  have ST:=SS.trans S4;have d4:dQ (λ_=>False) w4 E w4.drew E:=(dQ.refl _ w4 E).drew;have D4:dQ I17 w4 E w4.drew E:=(dQ.refl _ w4 E).drew;have i:=ST.trans D4;have HC:=HP x ak ck ar u w4.drew E rb lv ls ((s.cel n0 F).lay 17 n0 0) ah (en V).1 L ag (Sy.stepO i dZ) ((gc.trans gl).ks.trans M) (by have:=(gc.trans gl).mes;omega) (by omega) (by omega) ((gc.trans gl).dp hd) (X1.step i dZ) (E4.step d4 noF);rw[dS] at HC;clear c0 c1 c2 c3 A d T R a0 a1 HL;obtain⟨c0,c1,c2,c3,⟨A,d,T,R⟩,a0,a1⟩:=z.out _ _ ST;obtain⟨e0,e1,P,O,⟨y0,y1,y2,y3⟩,b0,b1⟩:=z.out _ _ i;go_region_held3 (λwx=>wx.cell? ⟨g,3,GE⟩=GF (.slice (GF ⟨b,off,GE⟩) 1 cap)/\(wx.cell? ⟨b,off,GE⟩=GF (.int .i64 x.k)/\wx.cell? ⟨b,off+1,GE⟩=GF (.int .i64 x.n)/\wx.cell? ⟨b,off+2,GE⟩=GF (stv x.nm)/\wx.cell? ⟨b,off+3,GE⟩=GF (.slice ak x.kids.len ck))/\wx.cell? ⟨g+1,0,GE⟩=GF (.int .i64 ar)/\wx.cell? ⟨g+1,1,GE⟩=GF (.int .i64 u)) (go_keep) (first|(go_at_call 40;refine HC.mono ?_;rintro e w5 ⟨rfl,⟨o5,E5,S5⟩,g5⟩;obtain⟨m0,m1,m2,m3,⟨z0,z1,z2,z3⟩,h0,h1⟩:=z.out _ _ (i.trans S5)))
  all_goals
   have SU:=i.trans S5;have g15:=(gc.trans gl).trans g5;have HL:=fi 18 n0 0 w5 o5 rb lv ls (emE ls x ar u ((s.cel n0 F).lay 17 n0 0)) (by omega) (by omega) (by omega) (by have:=g15.mes;omega) (X1.step SU dZ) E5;clear HC c0 c1 c2 c3 A d T R a0 a1 e0 e1 P O y0 y1 y2 y3 b0 b1;obtain⟨C,G⟩:=exq (emE ls x ar u ((s.cel n0 F).lay 17 n0 0));rw[<-G] at E5 g5 g15 HL;have aj:=GP G;clear G;go_wp2_with (first|(go_at_call 41;refine HL.mono ?_;rintro e w6 ⟨rfl,o6,E6,S6⟩));have af:s.ws.length<(C.lay 18 n0 0).ws.length:=by
    have h1:=g5.ws;have h2:((s.cel n0 F).lay 17 n0 0).ws.length=s.ws.length+1:=by simp[Em.lay,Em.cel]
    have h3:(C.lay 18 n0 0).ws.length=C.ws.length+1:=by simp[Em.lay]
    omega
   have g6:=g15.trans (eR C 18 n0 0);have HD:=rh s.ws.length .returning w6 o6 rb lv ls (C.lay 18 n0 0) af (by have:=g6.mes;omega) (X1.step (SU.trans S6) dZ) E6;refine leaves_cons (f:=126) (args:=#[.pointer (GF ⟨rb,0,GE⟩),.int .i64 (s.ws.length:Nat)]) (by simp) (by simp[go_sem,Em.cel]) ?_;refine HD.mono ?_;rintro e u' w7 ⟨rfl,rfl,o7,E7,S7⟩;exact⟨_,I3 rfl _ _ _,rfl,by rw[<-aj.out];exact⟨⟨o7,E7,((S0.trans SU).trans S6).trans S7⟩,(g6.trans (nQ _ _)).le (by omega)⟩⟩
abbrev ik (e:Ex)(ao:Option Ha)(cap:Nat):Array GN:=#[.int .i64 e.k,.int .i64 e.n,stv e.nm,.slice ao e.kids.len cap]
theorem xP (h:Nat):∀ (l:List Int) (k:Nat) (s:Em) (x:Int) (r:List Int),l=x::r->iH h l k s=iH h r (k+1) (if x=(h:Int) then s.lay 19 k 0 else s)
 | _,k,s,x,r,rfl=>rfl
theorem zw (nc N:Nat)(HP:jx nc N)(e:Ex)(ao:Option Ha)(cap ar u:Nat)(w:GI)(o:Nat->Nat)(rb:Nat)(lv:GN)(ls:List Int)(s:Em)(M:okE nc e)(hN:e.kids.size<N)(P:ls.length=nc)(O:nc<=256)(hu:u+3*(e.kids.size+1)<=1000000000)(ad:ar+1+(e.kids.size+1)<=1000000000)(S:SnO w o e.kids ao)(C:s.ks.length=ls.length)
  (hm:s.mes+(256+300*(e.kids.size+1))<=100000000) (hd:s.dp<=1000000001) (X:EmX w o lv ls) (h:EmW w o rb lv s) :
  GV GH 191 #[pt0 rb,exN e ao cap,spV ar u] w (py w o rb lv s (bdy ls (emE ls e) ar u s) (256+300*(e.kids.size+1))):=by
 subst P;have aa:=GP C;clear C;obtain⟨g,F⟩:=exq w.heap.size;obtain⟨w1,r⟩:=exq ((w.alloc (.cells (ik e ao cap) 34)).alloc (.cells #[.int .i64 ar,.int .i64 u] 86));obtain⟨J,z2,z5,H⟩:=al2 w (.cells (ik e ao cap) 34) (.cells #[.int .i64 ar,.int .i64 u] 86);rw[<-r,<-F] at J z2 z5 H;obtain⟨A,D⟩:=exq (ar+1);have U:(ar:Int)+1=(A:Int):=by omega
 obtain⟨w2,d⟩:=exq (w1.setCell ⟨g+1,0,GE⟩ (.int .i64 A));have B2:GO g w w2:=by rw[d];exact H.setCell (p:=⟨g+1,0,GE⟩) (by show g<=g+1;omega) _
 have y1:w2.heap[g]?=GF (.cells (ik e ao cap) 34):=by rw[d];exact(GT w1 ⟨g+1,0,GE⟩ g _ (by show g≠g+1;omega)).trans J
 have y2:w2.heap[g+1]?=GF (.cells #[.int .i64 A,.int .i64 u] 86):=by
  rw[d]
  have:=In w1 (g+1) 0 _ _ (.int .i64 A) z2
  simpa using this
 have s0:∀ {I:Nat->Prop},dQ I w o w2 (dR w o 0):=λ{I}=>gS o (by rw[<-F];exact B2);have t:∀ j,dR w o 0 (g+j)=0:=λj=>dY (by omega);have K1:Blk w2 (dR w o 0) 0 g (.cells (ik e ao cap) 34)/\Blk w2 (dR w o 0) 0 (g+1) (.cells #[.int .i64 A,.int .i64 u] 86):=⟨⟨y1,t 0⟩,⟨y2,t 1⟩⟩;have Z:=S.stepO (s0 (I:=λ_=>False)) id;have E1:=h.step (s0 (I:=λ_=>False)) noF;have Y:=X.step (s0 (I:=λ_=>False)) id;have S0:=s0 (I:=I17);generalize dR w o 0=z at *;have HG:=GP F;obtain⟨⟨c0,c1⟩,cf⟩:=kZ z2;have V:=cf 0;clear s0 t J z2 z5 H h X S F y1 y2 B2 cf;rw[dS];have KK:Hid (∀ w' o',dQ I17 w2 z w' o'->w'.cell? ⟨g,0,GE⟩=GF (.int .i64 e.k)/\w'.cell? ⟨g,1,GE⟩=GF (.int .i64 e.n)/\w'.cell? ⟨g,2,GE⟩=GF (stv e.nm)/\w'.cell? ⟨g,3,GE⟩=GF (.slice ao e.kids.len cap)/\w'.cell? ⟨g+1,0,GE⟩=GF (.int .i64 A)/\w'.cell? ⟨g+1,1,GE⟩=GF (.int .i64 u)):=λw' o' S=>by
  obtain⟨⟨e0,e1,e2,e3⟩,-⟩:=dW (K1.1.step S dZ).1;obtain⟨f0,f1⟩:=eh (K1.2.step S dZ).1;exact⟨e0,e1,e2,e3,f0,f1⟩
 obtain⟨G,cl,rfl,B⟩:=Y.lvs;have LV:Hid (∀ w' o',dQ I17 w2 z w' o'->∀ j x,ls[j]?=GF x->∃b off,G=GF ⟨b,off,GE⟩/\w'.cell? ⟨b,off+j,GE⟩=GF (.int .i64 x)):=λw' o' S j x q=>by
  rcases B with h|⟨b,off,h1,h2,h3,h4⟩
  ·rw[h] at q;simp at q
  ·exact⟨b,off,h1,(GW (a:=⟨b,off+j,GE⟩) (S.block b h3 (by rw[h2];exact dZ))).trans (h4 j x q)⟩
 have RB:Hid (∀ w' o' s',EmW w' o' rb (.slice G ls.length cl) s'->w'.cell? ⟨rb,6,GE⟩=GF (.slice G ls.length cl)):=λw' o' s' E=>by
  obtain⟨-,-,-,vw,vc,vn,vk,mc,mn,q0,-⟩:=E;exact(gX q0.1).1.2.2.2.2.2.2.1
 obtain⟨W,T⟩:=exq (iH A ls 0 s);have l:Hid (W=iH A (ls.drop 0) 0 s):=by show _=_;rw[T];rfl
 have HB:Hid (bdy ls (emE ls e) ar u s=emE ls e A u W):=by show _=_;rw[T,D];rfl
 have r6:=RB.out _ _ _ E1;obtain⟨k0,k1,k2,k3,a0,a1⟩:=KK.out _ _ (dQ.refl I17 w2 z);have HA:=GP D;clear T B D;go_enter Tryz.func191,Tryz.ntmps191;go_upto_region 1 with fail;rw[<-r,<-HG.out];clear r;go_upto_region 2 with fail;rw[<-d];clear d;clear U;go_wp2_with fail;go_loopw [17] (λK wr=>∃(k:Nat) (s':Em) (o':Nat->Nat),K=.int .i64 k/\k<=ls.length/\EmW wr o' rb (.slice G ls.length cl) s'/\dQ I17 w2 z wr o'/\Grw s s' k/\Hid (W=iH A (ls.drop k) k s')) (λK _=>ls.length-(Hl K).toNat)
 case atStart=>exact⟨0,s,z,by go_num,by omega,E1,dQ.refl _ _ _,⟨by omega,GG _,rfl,id⟩,l⟩
 case round =>
  clear l E1 r6 k0 k1 k2 k3 a0 a1 c0 c1 V;obtain⟨k,s',o',rfl,hk,E2,i,g2,l⟩:=hrel;obtain⟨k0,k1,k2,k3,a0,a1⟩:=KK.out _ _ i;by_cases v:k<ls.length
  ·have Q:(k:Int)<(ls.length:Int):=by omega
   have q:=GM v;have y:=IQ v;have c:=l.out;rw[xP A _ k s' _ _ y] at c;obtain⟨b,off,rfl,cx⟩:=LV.out _ _ i k _ q;generalize ls[k]=lx at *;by_cases R:lx=(A:Int)
   ·rw[if_pos R] at c;have f:=GP c;have HL:=fi 19 k 0 wr o' rb _ ls s' (by omega) (by omega) (by omega) (by have:=g2.mes;omega) (Y.step i dZ) E2;have g3:=g2.trans (eR s' 19 k 0);subst R;clear c l q y;go_wp2_with (first|(go_at_call 41;refine HL.mono ?_;rintro e w3 ⟨rfl,L,E3,S3⟩));go_roundw
    case rel=>(try ((repeat apply G9);refine⟨?_,rfl⟩));exact⟨k+1,s'.lay 19 k 0,L,by go_num,by omega,E3,i.trans S3,g3,f.out⟩
    case measure=>simp[Hl];omega
   ·rw[if_neg R] at c;have f:=GP c;have g3:=g2.le (m:=k+1) (by omega);clear c l q y;go_wp2;go_roundw
    case rel=>(try ((repeat apply G9);refine⟨?_,rfl⟩));exact⟨k+1,s',o',by go_num,by omega,E2,i,g3,f.out⟩
    case measure=>simp[Hl];omega
  ·have Q:¬(k:Int)<(ls.length:Int):=by omega
   obtain rfl:k=ls.length:=by omega
   have c:=l.out;rw[List.drop_length] at c;have f:=c;subst f;have D:=HA.out;have HC:=HP e ao cap A u wr o' rb _ ls W hN M rfl O (Z.stepO i dZ) (g2.ks.trans aa.out) (by have:=g2.mes;omega) hu (by omega) (g2.dp hd) (Y.step i dZ) E2;rw[dS] at HC;have ab:=HB;clear l c D HP v;go_wp2_with (first|(go_at_call 40;refine HC.mono ?_;rintro e w3 ⟨rfl,⟨L,E3,S3⟩,g3⟩))
   go_end0
   exact⟨rfl,by rw[ab.out];exact⟨⟨L,E3,(S0.trans i).trans S3⟩,(g2.trans g3).le (by omega)⟩⟩
structure CxS (rb gw gn gl gs ga gg:Nat)(e:Ex)(ao:Option Ha)(cap ar u op v ag:Nat)(w:GI)(o:Nat->Nat):Prop where
 bw:Blk w o 0 gw (.cells #[pt0 rb] 82)
 bn:Blk w o 0 gn (.cells (ik e ao cap) 34)
 bl:Blk w o 0 gl (.cells #[.int .i64 op] 3)
 bs:Blk w o 0 gs (.cells #[.int .i64 v] 3)
 ba:Blk w o 0 ga (.cells #[.int .i64 ar,.int .i64 u] 86)
 bg:Blk w o 0 gg (.cells #[.int .i64 ag] 3)
 sn:SnO w o e.kids ao
theorem CxS.step {I:Nat->Prop}{rb gw gn gl gs ga gg:Nat}{e:Ex}{ao:Option Ha}{cap ar u op v ag:Nat}{w w':GI}{o o':Nat->Nat}(h:CxS rb gw gn gl gs ga gg e ao cap ar u op v ag w o)(x:dQ I w o w' o')(a:¬I 0):CxS rb gw gn gl gs ga gg e ao cap ar u op v ag w' o' :=
 ⟨h.bw.step x a,h.bn.step x a,h.bl.step x a,h.bs.step x a,h.ba.step x a,h.bg.step x a,h.sn.stepO x a⟩
theorem CxS.keeps (rb gw gn gl gs ga gg:Nat)(e:Ex)(ao:Option Ha)(cap ar u op v ag:Nat):om (CxS rb gw gn gl gs ga gg e ao cap ar u op v ag):=λh x=>h.step x dZ
theorem FE (nc N:Nat)(C:jx nc N)(rb gw gn gl gs ga gg:Nat)(e:Ex)(ao:Option Ha)(cap ar u op v ag:Nat)(lv:GN)(ls:List Int)(m:okE nc e)(M:e.kids.size<N)(i:ls.length=nc)(p:nc<=256)(l:op<=255)(Y:v<=1)(L:ag<=100000000)(J:u+3*(e.kids.size+1)<=1000000000)(q:ar+1+(e.kids.size+1)<=1000000000) :
  nF rb lv ls (CxS rb gw gn gl gs ga gg e ao cap ar u op v ag) 190 #[pt0 gw,pt0 gn,pt0 ga,pt0 gl,pt0 gg,pt0 gs] (λx=>(((bdy ls (emE ls e) ar u x).lay op ag 0).lay 25 0 0).con (v:Nat) 2 u) (256+300*(e.kids.size+1)+4):=by
 intro w o s X E K Z B b;have A:=zw nc N C e ao cap ar u w o rb lv ls s m M i p J q K.sn b (by omega) B X E;rw[dS] at A;have j:Hid (∀ w' o',dQ I17 w o w' o'->w'.cell? ⟨gw,0,GE⟩=GF (pt0 rb)/\(w'.cell? ⟨gn,0,GE⟩=GF (.int .i64 e.k)/\w'.cell? ⟨gn,1,GE⟩=GF (.int .i64 e.n)/\w'.cell? ⟨gn,2,GE⟩=GF (stv e.nm)/\w'.cell? ⟨gn,3,GE⟩=GF (.slice ao e.kids.len cap))/\w'.cell? ⟨gl,0,GE⟩=GF (.int .i64 op)/\w'.cell? ⟨gs,0,GE⟩=GF (.int .i64 v)/\w'.cell? ⟨gg,0,GE⟩=GF (.int .i64 ag)/\w'.cell? ⟨ga,0,GE⟩=GF (.int .i64 ar)/\w'.cell? ⟨ga,1,GE⟩=GF (.int .i64 u)):=λw' o' S=>by
  have f:=K.step S dZ;exact⟨eP f.bw.1,(dW f.bn.1).1,eP f.bl.1,eP f.bs.1,eP f.bg.1,(eh f.ba.1).1,(eh f.ba.1).2⟩
 obtain⟨c0,⟨n0,n1,n2,h⟩,c2,c3,c4,a0,a1⟩:=j.out _ _ (dQ.refl I17 w o);have R:=GP b;clear b i K C;go_enter Tryz.func190,Tryz.ntmps190;go_upto_region 1 with (first|(go_at_call 191;refine A.mono ?_;rintro z w2 ⟨rfl,⟨I,D,t⟩,g2⟩))
 obtain⟨s2,a⟩:=exq (bdy ls (emE ls e) ar u s);rw[<-a] at D g2;have y:=GP a;clear a A c0 n0 n1 n2 h c2 c3 c4 a0 a1;obtain⟨c0,⟨n0,n1,n2,h⟩,c2,c3,c4,a0,a1⟩:=j.out _ _ t;have g:=fi op ag 0 w2 I rb lv ls s2 l (by omega) (by omega) (by have:=g2.mes;omega) (X.step t dZ) D;go_upto_region 2 with (first|(go_at_call 41;refine g.mono ?_;rintro z w3 ⟨rfl,H,V,Q⟩))
 have d:=t.trans Q;have g3:=g2.trans (eR s2 op ag 0);clear g c0 n0 n1 n2 h c2 c3 c4 a0 a1;obtain⟨c0,⟨n0,n1,n2,h⟩,c2,c3,c4,a0,a1⟩:=j.out _ _ d;have g:=fi 25 0 0 w3 H rb lv ls (s2.lay op ag 0) (by omega) (by omega) (by omega) (by have:=g3.mes;omega) (X.step d dZ) V;go_upto_region 3 with (first|(go_at_call 41;refine g.mono ?_;rintro z w4 ⟨rfl,G,U,P⟩))
 have c:=d.trans P;have r:=g3.trans (eR (s2.lay op ag 0) 25 0 0);clear g c0 n0 n1 n2 h c2 c3 c4 a0 a1;obtain⟨c0,⟨n0,n1,n2,h⟩,c2,c3,c4,a0,a1⟩:=j.out _ _ c;have g:=fo (v:Nat) 2 ar u w4 G rb lv ls ((s2.lay op ag 0).lay 25 0 0) (by omega) (by omega) (by omega) (r.dp B) (by have:=r.mes;omega) (X.step c dZ) U;go_wp2_with (first|(go_at_call 74;refine g.mono ?_;rintro z W ⟨rfl,F,T,O⟩))
 go_end0
 exact⟨rfl,by rw[<-y.out];exact⟨⟨F,T,c.trans O⟩,(r.trans (iJ _ _ _ _ (by omega))).le (by omega)⟩⟩
theorem FO (rb gw gs ga ar u v:Nat)(lv:GN)(ls:List Int)(i:v<=1)(b:u<=1000000000) :
  nF rb lv ls (λw o=>Blk w o 0 gw (.cells #[pt0 rb] 82)/\Blk w o 0 gs (.cells #[.int .i64 v] 3)/\Blk w o 0 ga (.cells #[.int .i64 ar,.int .i64 u] 86)) 192 #[pt0 gw,pt0 gs,pt0 ga] (λt=>t.con (1-(v:Int)) 2 u) 2:=by
 intro w o s X E ⟨bw,bs,ba⟩ j d a;have cw:=eP bw.1;have cs:=eP bs.1;obtain⟨a0,a1⟩:=eh ba.1;have g:=fo (1-(v:Int)) 2 ar u w o rb lv ls s (by omega) (by omega) b d (by omega) X E;clear bw bs ba a;go_enter Tryz.func192,Tryz.ntmps192;go_wp2_with (first|(go_at_call 74;refine g.mono ?_;rintro e w2 ⟨rfl,c,h,f⟩))
 go_end0
 exact⟨rfl,⟨c,h,f⟩,iJ s _ _ _ b⟩
theorem Fq:Ent 190:=λ_ _=>by kernel_rfl
theorem Eh:Ent 192:=λ_ _=>by kernel_rfl
theorem tA (nc N:Nat)(J:jx nc N)(e:Ex)(ao:Option Ha)(cap op v ar u:Nat)(w:GI)(o:Nat->Nat)(rb:Nat)(lv:GN)(ls:List Int)(s:Em)(A:okE nc e)(V:e.kids.size<N)(f:ls.length=nc)(B:nc<=256)(y:op<=255)(F:v<=1)(Q:u+3*(e.kids.size+1)<=1000000000)(C:ar+1+(e.kids.size+1)<=1000000000)(S:SnO w o e.kids ao)(i:s.ks.length=ls.length)
  (T:s.mes+(256+300*(e.kids.size+1)+8)<=100000000) (U:s.dp<=1000000001) (X:EmX w o lv ls) (h:EmW w o rb lv s) :
  GV GH 128 #[pt0 rb,exN e ao cap,.int .i64 op,.int .i64 v,spV ar u] w (py w o rb lv s (xV ls (emE ls e) op (v:Int) ar u s) (256+300*(e.kids.size+1)+8)):=by
 rw[dS];obtain⟨g,l⟩:=exq w.heap.size;obtain⟨w1,d⟩:=exq (((((w.alloc (.cells #[pt0 rb] 82)).alloc (.cells (ik e ao cap) 34)).alloc (.cells #[.int .i64 op] 3)).alloc (.cells #[.int .i64 v] 3)).alloc (.cells #[.int .i64 ar,.int .i64 u] 86));obtain⟨p,z2,z3,z4,z5,n,m⟩:=al5 w (.cells #[pt0 rb] 82) (.cells (ik e ao cap) 34) (.cells #[.int .i64 op] 3) (.cells #[.int .i64 v] 3) (.cells #[.int .i64 ar,.int .i64 u] 86);rw[<-d,<-l] at p z2 z3 z4 z5 n m;obtain⟨w2,c⟩:=exq (w1.alloc (.cells #[.int .i64 (s.ws.length:Nat)] 3));have E:w2.heap[g+5]?=GF (.cells #[.int .i64 (s.ws.length:Nat)] 3):=by rw[c,<-n];exact GL _ _
 have a:∀ k,k<g+5->w2.heap[k]?=w1.heap[k]?:=λk hk=>by rw[c];exact Ir _ _ (by omega)
 have L:GO g w w2:=by rw[c];exact m.alloc (by omega) _
 have s0:∀ {I:Nat->Prop},dQ I w o w2 (dR w o 0):=λ{I}=>gS o (by rw[<-l];exact L);have b:∀ j,dR w o 0 (g+j)=0:=λj=>dY (by omega);have D:CxS rb g (g+1) (g+2) (g+3) (g+4) (g+5) e ao cap ar u op v s.ws.length w2 (dR w o 0) :=
  ⟨⟨(a _ (by omega)).trans p,b 0⟩,⟨(a _ (by omega)).trans z2,b 1⟩,⟨(a _ (by omega)).trans z3,b 2⟩,⟨(a _ (by omega)).trans z4,b 3⟩,⟨(a _ (by omega)).trans z5,b 4⟩,⟨E,b 5⟩,S.stepO (s0 (I:=λ_=>False)) id⟩
 have K:=h.step (s0 (I:=λ_=>False)) noF;have H:=X.step (s0 (I:=λ_=>False)) id;have S0:=s0 (I:=I17);have HN:=ui w1 o rb lv s (h.below (by rw[<-l];exact m));have Y:=eP p;generalize dR w o 0=P at *;have r:s.ws.length<=100000000:=by unfold Em.mes at T;omega
 have HF:=ue 24 190 192 #[pt0 g,pt0 (g+1),pt0 (g+4),pt0 (g+2),pt0 (g+5),pt0 (g+3)] #[pt0 g,pt0 (g+3),pt0 (g+4)] (λx=>(((bdy ls (emE ls e) ar u x).lay op s.ws.length 0).lay 25 0 0).con (v:Nat) 2 u) (λt=>t.con (1-(v:Int)) 2 u) (256+300*(e.kids.size+1)+4) 2 _ (CxS.keeps _ _ _ _ _ _ _ _ _ _ _ _ _ _ _) Fq Eh w2 P rb lv ls (FE nc N J rb g (g+1) (g+2) (g+3) (g+4) (g+5) e ao cap ar u op v s.ws.length lv ls A V f B y F r Q C) ((FO rb g (g+3) (g+4) ar u v lv ls F (by omega)).mono (λ_ _ h=>⟨h.bw,h.bs,h.ba⟩)) s (by omega) (by omega) U i H K D;have HG:=GP l;have HZ:=GP n;have c2:=eP D.bw.1;clear s0 b p z2 z3 z4 z5 n m E a L h X S l i f J H K D;go_enter Tryz.func128,Tryz.ntmps128;go_upto_region 1 with fail;rw[<-d,<-HG.out];clear d;go_upto_region 2 with (first|(go_at_call 189;refine HN.mono ?_;rintro z M ⟨rfl,q⟩;subst q))
 rw[<-c,HZ.out];clear c;go_wp2_with (first|(go_at_call 79;refine HF.mono ?_;rintro z w4 ⟨rfl,⟨O,E4,Z⟩,W⟩))
 go_end0
 exact⟨rfl,⟨O,E4,S0.trans Z⟩,W.le (by omega)⟩
def oQ (rb:Nat)(lv:GN)(ls:List Int)(K:GI->(Nat->Nat)->Prop)(F:FuncId)(c:Array GN)(t:Nat->Em->Em)(n:Nat):Prop :=
 ∀ ag:Nat,ag<=100000000->∀ w o s,EmX w o lv ls->EmW w o rb lv s->K w o->s.mes+n<=100000000->s.dp<=1000000001->s.ks.length=ls.length->GV GH F (#[.int .i64 ag]++c) w (py w o rb lv s (t ag s) n)
theorem mo (nc N:Nat)(HP:jx nc N)(F:FuncId)(c:Array GN)(t:Nat->Em->Em)(n:Nat)(K:GI->(Nat->Nat)->Prop)(hK:om K)(HE:Ent F)(e:Ex)(ao:Option Ha)(cap ar u:Nat)(w:GI)(o:Nat->Nat)(rb:Nat)(lv:GN)(ls:List Int)(H:oQ rb lv ls K F c t n)(s:Em)(R:okE nc e)(hN:e.kids.size<N)(v:ls.length=nc)(T:nc<=256)(hu:u+3*(e.kids.size+1)<=1000000000)(V:ar+1+(e.kids.size+1)<=1000000000)(S:SnO w o e.kids ao)(m:s.ks.length=ls.length)
  (hm:s.mes+(256+300*(e.kids.size+1)+n+2)<=100000000) (hd:s.dp<=1000000001) (X:EmX w o lv ls) (h:EmW w o rb lv s) (k:K w o) :
  GV GH 129 #[pt0 rb,exN e ao cap,spV ar u,.func (.func F) #[] c] w (py w o rb lv s (pK ls (emE ls e) t ar u s) (256+300*(e.kids.size+1)+n+2)):=by
 rw[dS];obtain⟨g,D⟩:=exq w.heap.size;obtain⟨w1,i⟩:=exq ((w.alloc (.cells (ik e ao cap) 34)).alloc (.cells #[.int .i64 ar,.int .i64 u] 86));obtain⟨M,z2,z5,L⟩:=al2 w (.cells (ik e ao cap) 34) (.cells #[.int .i64 ar,.int .i64 u] 86);rw[<-i,<-D] at M z2 z5 L;have s0:∀ {I:Nat->Prop},dQ I w o w1 (dR w o 0):=λ{I}=>gS o (by rw[<-D];exact L);have l:∀ j,dR w o 0 (g+j)=0:=λj=>dY (by omega);have G:Blk w1 (dR w o 0) 0 g (.cells (ik e ao cap) 34)/\Blk w1 (dR w o 0) 0 (g+1) (.cells #[.int .i64 ar,.int .i64 u] 86):=⟨⟨M,l 0⟩,⟨z2,l 1⟩⟩;have Z:=S.stepO (s0 (I:=λ_=>False)) id;have E1:=h.step (s0 (I:=λ_=>False)) noF;have y:=X.step (s0 (I:=λ_=>False)) id;have S0:=s0 (I:=I17);have k1:=hK k S0;generalize dR w o 0=O at *;have KK:Hid (∀ w' o',dQ I17 w1 O w' o'->(w'.cell? ⟨g,0,GE⟩=GF (.int .i64 e.k)/\w'.cell? ⟨g,1,GE⟩=GF (.int .i64 e.n)/\w'.cell? ⟨g,2,GE⟩=GF (stv e.nm)/\w'.cell? ⟨g,3,GE⟩=GF (.slice ao e.kids.len cap))/\w'.cell? ⟨g+1,0,GE⟩=GF (.int .i64 ar)/\w'.cell? ⟨g+1,1,GE⟩=GF (.int .i64 u)):=λw' o' S=>⟨(dW (G.1.step S dZ).1).1,(eh (G.2.step S dZ).1).1,(eh (G.2.step S dZ).1).2⟩;have HN:=ui w1 O rb lv s E1;have J:=fi 24 0 0 w1 O rb lv ls s (by omega) (by omega) (by omega) (by omega) y E1;have aa:=GP m;have HG:=GP D;have Q:s.ws.length<=100000000:=by unfold Em.mes at hm;omega
 have g1:=eR s 24 0 0;have HT:Hid (pK ls (emE ls e) t ar u s=((t s.ws.length (bdy ls (emE ls e) ar u (s.lay 24 0 0))).lay 13 s.ws.length 0).land s.ws.length):=rfl;have HB:∀ w2 d,EmX w2 d lv ls->EmW w2 d rb lv (s.lay 24 0 0)->SnO w2 d e.kids ao->_:=λw2 d X2 E2 Y=>zw nc N HP e ao cap ar u w2 d rb lv ls (s.lay 24 0 0) R hN v T hu V Y (g1.ks.trans m) (by have:=g1.mes;omega) (g1.dp hd) X2 E2;clear s0 l M z2 z5 L h X S D m v HP G k E1
 go_enter_defers Tryz.func129,Tryz.ntmps129
 go_upto_region 1 with fail;rw[<-i,<-HG.out];clear i;go_upto_region 2 with (first|(go_at_call 189;refine HN.mono ?_;rintro z ab ⟨rfl,P⟩;subst P))
 go_upto_region 3 with (first|(go_at_call 41;refine J.mono ?_;rintro z w2 ⟨rfl,d,E2,E⟩))
 clear HN J;have HC:=HB w2 d (y.step E dZ) E2 (Z.stepO E dZ);rw[dS] at HC;obtain⟨⟨n0,n1,n2,n3⟩,a0,a1⟩:=KK.out _ _ E;go_upto_region 4 with (first|(go_at_call 191;refine HC.mono ?_;rintro z w3 ⟨rfl,⟨o3,E3,S3⟩,g3⟩))
 obtain⟨C,r⟩:=exq (bdy ls (emE ls e) ar u (s.lay 24 0 0));rw[<-r] at E3 g3 HT;clear r HB HC n0 n1 n2 n3 a0 a1;have p:=E.trans S3;have a:=g1.trans g3;have HF:=H s.ws.length Q w3 o3 C (y.step p dZ) E3 (hK k1 p) (by have:=a.mes;omega) (a.dp hd) (a.ks.trans aa.out);go_wp2_with fail;refine HF.mono ?_;rintro z w4 ⟨rfl,⟨o4,E4,S4⟩,W⟩;obtain⟨b,q⟩:=exq (t s.ws.length C);rw[<-q] at E4 W HT;clear q HF HE;have B:=p.trans S4;have x:=a.trans W;have J:=fi 13 s.ws.length 0 w4 o4 rb lv ls b (by omega) (by omega) (by omega) (by have:=x.mes;omega) (y.step B dZ) E4;go_wp2_with (first|(go_at_call 41;refine J.mono ?_;rintro z w5 ⟨rfl,o5,E5,S5⟩));have A:=B.trans S5;have g15:=x.trans (eR b 13 s.ws.length 0);have U:s.ws.length<(b.lay 13 s.ws.length 0).ws.length:=by
  have h1:=W.ws;have h2:=g3.ws;have h3:(s.lay 24 0 0).ws.length=s.ws.length+1:=by simp[Em.lay]
  have h4:(b.lay 13 s.ws.length 0).ws.length=b.ws.length+1:=by simp[Em.lay]
  omega
 have HD:=rh s.ws.length .returning w5 o5 rb lv ls (b.lay 13 s.ws.length 0) U (by have:=g15.mes;omega) (y.step A dZ) E5;refine leaves_cons (f:=126) (args:=#[.pointer (GF ⟨rb,0,GE⟩),.int .i64 (s.ws.length:Nat)]) (by simp) (by simp[go_sem]) ?_;refine HD.mono ?_;rintro z u' w6 ⟨rfl,rfl,o6,E6,S6⟩;exact⟨_,I3 rfl _ _ _,rfl,by rw[HT.out];exact⟨⟨o6,E6,(S0.trans A).trans S6⟩,(g15.trans (nQ _ _)).le (by omega)⟩⟩
theorem GB (rb gw ga ar u:Nat)(lv:GN)(ls:List Int)(y:u+1<=1000000000) :
  oQ rb lv ls (λw o=>Blk w o 0 gw (.cells #[pt0 rb] 82)/\Blk w o 0 ga (.cells #[.int .i64 ar,.int .i64 u] 86)) 130 #[pt0 gw,pt0 ga] (λg x=>((x.lay 14 g 0).con 1 1 (u+1)).lay 6 0 0) 4:=by
 intro ag C w o s X E ⟨bw,ba⟩ M A h;have f:=fi 14 ag 0 w o rb lv ls s (by omega) (by omega) (by omega) (by omega) X E;have d:Hid (∀ w' o',dQ I17 w o w' o'->w'.cell? ⟨gw,0,GE⟩=GF (pt0 rb)/\w'.cell? ⟨ga,0,GE⟩=GF (.int .i64 ar)/\w'.cell? ⟨ga,1,GE⟩=GF (.int .i64 u)):=λw' o' S=>⟨eP (bw.step S dZ).1,(eh (ba.step S dZ).1).1,(eh (ba.step S dZ).1).2⟩;obtain⟨c0,a0,a1⟩:=d.out _ _ (dQ.refl I17 w o);have g1:=eR s 14 ag 0;have p:=λw'=>ku ar u 1 w' (by omega) (by omega);clear bw ba h;go_enter Tryz.func130,Tryz.ntmps130;go_upto_region 1 with (first|(go_at_call 41;refine f.mono ?_;rintro z w2 ⟨rfl,a,K,n⟩))
 clear f c0 a0 a1;have d2:dQ I17 w2 a w2.drew a:=(dQ.refl _ w2 a).drew;have b:=n.trans d2;obtain⟨c0,a0,a1⟩:=d.out _ _ n;obtain⟨e0,l,k⟩:=d.out _ _ b;have D:=X.step b dZ;have G:=K.step ((dQ.refl (λ_=>False) w2 a).drew) noF;have q:∀ w3,GO w2.drew.heap.size w2.drew w3->GV GH 74 #[.pointer (GF ⟨rb,0,GE⟩),.int .i64 1,.int .i64 1,spV ar (u+1)] w3 (mX w3 a rb lv ((s.lay 14 ag 0).con 1 1 (u+1)) (.tuple #[])):=λw3 B=>fo 1 1 ar (u+1) w3 a rb lv ls (s.lay 14 ag 0) (by omega) (by omega) (by omega) (g1.dp A) (by have:=g1.mes;omega) (D.below B) (G.below B);go_region_held3 (λwx=>wx.cell? ⟨gw,0,GE⟩=GF (pt0 rb)/\wx.cell? ⟨ga,0,GE⟩=GF (.int .i64 ar)/\wx.cell? ⟨ga,1,GE⟩=GF (.int .i64 u)) (go_keep) (first|(go_at_call 84;refine(p _).mono ?_;rintro z w3 ⟨rfl,r⟩;have i:=b.trans (dQ.ofBelow (I:=I17) a r);obtain⟨e0,l,k⟩:=d.out _ _ i;have e:=q w3 r)|(go_at_call 74;refine e.mono ?_;rintro z w4 ⟨rfl,v,J,m⟩;obtain⟨e0,l,k⟩:=d.out _ _ (i.trans m)))
 all_goals
  have c:=i.trans m;have j:=g1.trans (iJ (s.lay 14 ag 0) 1 1 (u+1) y);have f:=fi 6 0 0 w4 v rb lv ls ((s.lay 14 ag 0).con 1 1 (u+1)) (by omega) (by omega) (by omega) (by have:=j.mes;omega) (X.step c dZ) J;clear q p e;go_wp2_with (first|(go_at_call 41;refine f.mono ?_;rintro z L ⟨rfl,t,H,F⟩))
  go_end0
  exact⟨rfl,⟨t,H,c.trans F⟩,(j.trans (eR _ _ _ _)).le (by omega)⟩
theorem FL (rb gw:Nat)(lv:GN)(ls:List Int) :
  oQ rb lv ls (λw o=>Blk w o 0 gw (.cells #[pt0 rb] 82)) 131 #[pt0 gw] (λ_ x=>x.lay 6 0 0) 4:=by
 intro ag c w o s X E bw h i a;have e:=fi 6 0 0 w o rb lv ls s (by omega) (by omega) (by omega) (by omega) X E;have c0:=eP bw.1;clear bw a;go_enter Tryz.func131,Tryz.ntmps131;go_wp2_with (first|(go_at_call 41;refine e.mono ?_;rintro z g ⟨rfl,b,f,d⟩))
 go_end0
 exact⟨rfl,⟨b,f,d⟩,(eR _ _ _ _).le (by omega)⟩
theorem DO (rb gw gn:Nat)(e:Ex)(ao:Option Ha)(cap:Nat)(lv:GN)(ls:List Int)(r:e.n=5\/e.n=6) :
  oQ rb lv ls (λw o=>Blk w o 0 gw (.cells #[pt0 rb] 82)/\Blk w o 0 gn (.cells (ik e ao cap) 34)) 132 #[pt0 gw,pt0 gn] (λ_ x=>x.lay 26 (e.n-5).toNat 0) 4:=by
 intro ag i w o s X E ⟨bw,bn⟩ t u b;obtain⟨j,c⟩:∃j:Nat,(j:Int)=e.n-5:=⟨(e.n-5).toNat,by omega⟩;have a:(e.n-5).toNat=j:=by omega
 have g:j<=1:=by omega
 rw[a];have l:=fi 26 j 0 w o rb lv ls s (by omega) (by omega) (by omega) (by omega) X E;have c0:=eP bw.1;obtain⟨⟨n0,n1,n2,q⟩,-⟩:=dW bn.1;have h:-9223372036854775808<=e.n-5/\e.n-5<=9223372036854775807:=by omega
 have f:e.n-5=(j:Int):=c.symm;generalize e.n=v at *;clear bw bn b c a;go_enter Tryz.func132,Tryz.ntmps132;go_wp2_with (first|(go_at_call 41;refine l.mono ?_;rintro z p ⟨rfl,d,m,k⟩))
 go_end0
 exact⟨rfl,⟨d,m,k⟩,(eR _ _ _ _).le (by omega)⟩
theorem D0:Ent 130:=λ_ _=>by kernel_rfl
theorem Fj:Ent 131:=λ_ _=>by kernel_rfl
theorem yP:Ent 132:=λ_ _=>by kernel_rfl
structure CxQ (rb gw gn ga gt gb:Nat)(q t b:Ex)(ao:Option Ha)(cap:Nat)(at1:Option Ha)(ct:Nat)(ab:Option Ha)(cb ar u:Nat)(w:GI)(o:Nat->Nat):Prop where
 bw:Blk w o 0 gw (.cells #[pt0 rb] 82)
 bn:Blk w o 0 gn (.cells (ik q ao cap) 34)
 ba:Blk w o 0 ga (.cells #[.int .i64 ar,.int .i64 u] 86)
 bt:Blk w o 0 gt (.cells (ik t at1 ct) 34)
 bb:Blk w o 0 gb (.cells (ik b ab cb) 34)
 st:SnO w o t.kids at1
 sb:SnO w o b.kids ab
theorem CxQ.step {I:Nat->Prop}{rb gw gn ga gt gb:Nat}{q t b:Ex}{ao:Option Ha}{cap:Nat}{at1:Option Ha}{ct:Nat}{ab:Option Ha}{cb ar u:Nat}{w w':GI}{o o':Nat->Nat}(h:CxQ rb gw gn ga gt gb q t b ao cap at1 ct ab cb ar u w o)(x:dQ I w o w' o')(a:¬I 0):CxQ rb gw gn ga gt gb q t b ao cap at1 ct ab cb ar u w' o' :=
 ⟨h.bw.step x a,h.bn.step x a,h.ba.step x a,h.bt.step x a,h.bb.step x a,h.st.stepO x a,h.sb.stepO x a⟩
theorem CxQ.keeps (rb gw gn ga gt gb:Nat)(q t b:Ex)(ao:Option Ha)(cap:Nat)(at1:Option Ha)(ct:Nat)(ab:Option Ha)(cb ar u:Nat):om (CxQ rb gw gn ga gt gb q t b ao cap at1 ct ab cb ar u):=λh x=>h.step x dZ
theorem oQ.mono {rb:Nat}{lv:GN}{ls:List Int}{K b:GI->(Nat->Nat)->Prop}{F:FuncId}{c:Array GN}{t:Nat->Em->Em}{n:Nat}(h:oQ rb lv ls K F c t n)(d:∀ w o,b w o->K w o):oQ rb lv ls b F c t n:=λag a w o s X E k=>h ag a w o s X E (d w o k)
theorem Cu (nc N:Nat)(HP:jx nc N)(n:Int)(nm:List UInt8)(a:Int)(t b:Ex)(ao:Option Ha)(cap ar u:Nat)(w:GI)(o:Nat->Nat)(rb:Nat)(lv:GN)(ls:List Int)(s:Em)(hn:1<=n/\n<=6)(an:okF nc (Fs.ex t (Fs.ex b .nil)))(aK:t.kids.size<N)(aa:b.kids.size<N)(aq:ls.length=nc)(M:nc<=256)(hu:u+3*(t.kids.size+b.kids.size+3)<=1000000000)(aN:ar+(t.kids.size+b.kids.size+3)<=1000000000)(S:SnO w o (Fs.ex t (Fs.ex b .nil)) ao)(av:s.ks.length=ls.length)
  (hm:s.mes+300*(t.kids.size+b.kids.size+3)<=100000000) (Z:s.dp<=1000000001) (X:EmX w o lv ls) (h:EmW w o rb lv s) :
  GV GH 83 #[pt0 rb,exN ⟨21,n,nm,a,Fs.ex t (Fs.ex b .nil)⟩ ao cap,spV ar u] w (py w o rb lv s (qua ls n (emE ls t) (emE ls b) ar u s) (300*(t.kids.size+b.kids.size+3))):=by
 have aM:∀ (fn:Fn) (first cap:Array GN) (w:GI),(Instr.makeFunc fn first cap).run GH w=.ok (.func fn first cap) w:=λ_ _ _ _=>rfl;rw[dS];simp only;obtain⟨g,hg⟩:=exq w.heap.size;obtain⟨w1,af⟩:=exq (((w.alloc (.cells #[pt0 rb] 82)).alloc (.cells #[.int .i64 21,.int .i64 n,stv nm,.slice ao (Fs.ex t (Fs.ex b .nil)).len cap] 34)).alloc (.cells #[.int .i64 ar,.int .i64 u] 86));obtain⟨z1,z2,z3,z4,z5⟩:=al3 w (.cells #[pt0 rb] 82) (.cells #[.int .i64 21,.int .i64 n,stv nm,.slice ao (Fs.ex t (Fs.ex b .nil)).len cap] 34) (.cells #[.int .i64 ar,.int .i64 u] 86);rw[<-af,<-hg] at z1 z2 z3 z4 z5;have s0:∀ {I:Nat->Prop},dQ I w o w1 (dR w o 0):=λ{I}=>gS o (by rw[<-hg];exact z5);have ag:∀ j,dR w o 0 (g+j)=0:=λj=>dY (by omega);have al:=S.stepO (s0 (I:=λ_=>False)) id;have E1:=h.step (s0 (I:=λ_=>False)) noF;have X1:=X.step (s0 (I:=λ_=>False)) id;have S0:=s0 (I:=I17);have ah:Blk w1 (dR w o 0) 0 g (.cells #[pt0 rb] 82):=⟨z1,ag 0⟩;have ab:Blk w1 (dR w o 0) 0 (g+1) (.cells #[.int .i64 21,.int .i64 n,stv nm,.slice ao (Fs.ex t (Fs.ex b .nil)).len cap] 34):=⟨z2,ag 1⟩;have ai:Blk w1 (dR w o 0) 0 (g+2) (.cells #[.int .i64 ar,.int .i64 u] 86):=⟨z3,ag 2⟩;generalize dR w o 0=o1 at *;have HG:=GP hg;have au:(Fs.ex t (Fs.ex b .nil)).len=2:=rfl;obtain⟨b0,off,ak,ck,rfl,-,Sy,NK⟩:=ia (x:=.nil) al 0 rfl;obtain⟨aO,aL,f,e,aJ,-,aj,am⟩:=ia (x:=one t) al 1 rfl;cases aJ;rw[au] at af ab ⊢;obtain⟨⟨n0,n1,n2,n3⟩,-⟩:=dW ab.1;have CC:∀ wx ox,dQ (λ_=>False) w1 o1 wx ox->wx.cell? ⟨g+1,3,GE⟩=GF (.slice (GF ⟨b0,off,GE⟩) 2 cap)/\wx.cell? ⟨b0,off,GE⟩=GF (.int .i64 t.k)/\wx.cell? ⟨b0,off+1,GE⟩=GF (.int .i64 t.n)/\wx.cell? ⟨b0,off+2,GE⟩=GF (stv t.nm)/\wx.cell? ⟨b0,off+3,GE⟩=GF (.slice ak t.kids.len ck)/\wx.cell? ⟨b0,off+4,GE⟩=GF (.int .i64 b.k)/\wx.cell? ⟨b0,off+5,GE⟩=GF (.int .i64 b.n)/\wx.cell? ⟨b0,off+6,GE⟩=GF (stv b.nm)/\wx.cell? ⟨b0,off+7,GE⟩=GF (.slice f b.kids.len e):=λwx ox x=>by
  obtain⟨p0,p1,p2,p3⟩:=NK x id;obtain⟨q0,q1,q2,q3⟩:=am x id;exact⟨(dW (ab.step x id).1).1.2.2.2,p0,p1,p2,p3,q0,q1,q2,q3⟩
 obtain⟨m3,x0,x1,x2,x3,y0,y1,y2,y3⟩:=CC w1 o1 (dQ.refl _ _ _);obtain⟨aF,aD,aC,aB,aA,az,ay,ax,aw⟩:=CC w1.drew o1 ((dQ.refl _ _ _).drew);have aG:=z4;clear s0 ag z1 z2 z3 z4 z5 h X S hg;have T:=GP aq;have V:=GP av;clear aG av aq;go_enter Tryz.func83,Tryz.ntmps83;go_upto_region 1 with fail;rw[<-af,<-HG.out];clear af;go_cut [6,7] (λv6 v7 wx=>∃gt gb L,v6=pt0 gt/\v7=pt0 gb/\CxQ rb g (g+1) (g+2) gt gb ⟨21,n,nm,a,Fs.ex t (Fs.ex b .nil)⟩ t b (GF ⟨b0,off,GE⟩) cap ak ck f e ar u wx L/\EmW wx L rb lv s/\dQ I17 w1 o1 wx L)
 case first =>
  have HX:Hid (∀ (p q:Obj) (gt gb:Nat),((w1.alloc p).alloc q).drew.heap[gt]?=GF (.cells (ik t ak ck) 34)->((w1.alloc p).alloc q).drew.heap[gb]?=GF (.cells (ik b f e) 34)->w1.heap.size<=gt->w1.heap.size<=gb->∃L,CxQ rb g (g+1) (g+2) gt gb ⟨21,n,nm,a,Fs.ex t (Fs.ex b .nil)⟩ t b (GF ⟨b0,off,GE⟩) cap ak ck f e ar u ((w1.alloc p).alloc q).drew L/\EmW ((w1.alloc p).alloc q).drew L rb lv s/\dQ I17 w1 o1 ((w1.alloc p).alloc q).drew L):=λp q gt gb h1 h2 h3 h4=>by
   have B:=(al2 w1 p q).2.2.2.drew;have x:dQ (λ_=>False) w1 o1 ((w1.alloc p).alloc q).drew (dR w1 o1 0):=gS o1 B;exact⟨dR w1 o1 0,⟨ah.step x id,ab.step x id,ai.step x id,⟨h1,dY h3⟩,⟨h2,dY h4⟩,Sy.stepO x id,aj.stepO x id⟩,E1.step x noF,gS o1 B⟩
  have A1:=λp q=>al2 w1 p q;clear ah ab ai Sy aj NK am CC al E1 X1 HP;go_region_held3 (λwx=>wx.cell? ⟨g+1,3,GE⟩=GF (.slice (GF ⟨b0,off,GE⟩) 2 cap)/\wx.cell? ⟨b0,off,GE⟩=GF (.int .i64 t.k)/\wx.cell? ⟨b0,off+1,GE⟩=GF (.int .i64 t.n)/\wx.cell? ⟨b0,off+2,GE⟩=GF (stv t.nm)/\wx.cell? ⟨b0,off+3,GE⟩=GF (.slice ak t.kids.len ck)/\wx.cell? ⟨b0,off+4,GE⟩=GF (.int .i64 b.k)/\wx.cell? ⟨b0,off+5,GE⟩=GF (.int .i64 b.n)/\wx.cell? ⟨b0,off+6,GE⟩=GF (stv b.nm)/\wx.cell? ⟨b0,off+7,GE⟩=GF (.slice f b.kids.len e)) (go_keep) (fail)
  ·go_wp2;go_meet;obtain⟨L,h1,h2,h3⟩:=HX.out _ _ w1.heap.size (w1.heap.size+1) (A1 _ _).1 (A1 _ _).2.1 (by omega) (by omega);exact⟨_,_,L,rfl,rfl,h1,h2,h3⟩
  ·go_wp2;go_meet;obtain⟨L,h1,h2,h3⟩:=HX.out _ _ (w1.heap.size+1) w1.heap.size (A1 _ _).2.1 (A1 _ _).1 (by omega) (by omega);exact⟨_,_,L,rfl,rfl,h1,h2,h3⟩
 case rest =>
  obtain⟨gt,gb,L,rfl,rfl,Q2,E2,S2⟩:=hcut;clear m3 aF x0 x1 x2 x3 y0 y1 y2 y3 aD aC aB aA az ay ax aw CC NK am Sy aj ab ah ai n0 n1 n2 n3;have O:=X1.step S2 dZ;have aE:=(en an).1;have Y:=(en (en an).2).1;have HC:=HP t ak ck ar u wc L rb lv ls s aK aE T.out M Q2.st V.out (by omega) (by omega) (by omega) Z O E2;rw[dS] at HC;have v:Hid (∀ w' o',dQ I17 wc L w' o'->w'.cell? ⟨g,0,GE⟩=GF (pt0 rb)/\(w'.cell? ⟨gb,0,GE⟩=GF (.int .i64 b.k)/\w'.cell? ⟨gb,1,GE⟩=GF (.int .i64 b.n)/\w'.cell? ⟨gb,2,GE⟩=GF (stv b.nm)/\w'.cell? ⟨gb,3,GE⟩=GF (.slice f b.kids.len e))/\w'.cell? ⟨g+2,0,GE⟩=GF (.int .i64 ar)/\w'.cell? ⟨g+2,1,GE⟩=GF (.int .i64 u)/\w'.cell? ⟨g+1,1,GE⟩=GF (.int .i64 n)):=λw' o' S=>by
   have Q:=Q2.step S dZ;exact⟨eP Q.bw.1,(dW Q.bb.1).1,(eh Q.ba.1).1,(eh Q.ba.1).2,(dW Q.bn.1).1.2.1⟩
  obtain⟨c0,⟨t0,t1,t2,t3⟩,a0,a1,n1⟩:=v.out _ _ (dQ.refl I17 wc L);obtain⟨⟨s0,s1,s2,s3⟩,-⟩:=dW Q2.bt.1;go_upto_region 3 with (first|(go_at_call 40;refine HC.mono ?_;rintro z w3 ⟨rfl,⟨o3,E3,P⟩,g3⟩))
  clear c0 t0 t1 t2 t3 a0 a1 n1 s0 s1 s2 s3;obtain⟨c0,⟨t0,t1,t2,t3⟩,a0,a1,n1⟩:=v.out _ _ P;by_cases aI:n=1
  ·subst aI;have y:=tA nc N HP b f e 15 0 ar u w3 o3 rb lv ls (emE ls t ar u s) Y aa T.out M (by omega) (by omega) (by omega) (by omega) (Q2.step P dZ).sb (g3.ks.trans V.out) (by have:=g3.mes;omega) (g3.dp Z) (O.step P dZ) E3;rw[dS] at y;clear HC HP;go_wp2_with (first|(go_at_call 128;refine y.mono ?_;rintro z w4 ⟨rfl,⟨l,E4,S4⟩,C⟩))
   go_end0
   exact⟨rfl,⟨l,by simpa [qua] using E4,((S0.trans S2).trans P).trans S4⟩,by simpa [qua] using (g3.trans C).le (by omega)⟩
  by_cases hn2:n=2
  ·subst hn2;have y:=tA nc N HP b f e 14 1 ar u w3 o3 rb lv ls (emE ls t ar u s) Y aa T.out M (by omega) (by omega) (by omega) (by omega) (Q2.step P dZ).sb (g3.ks.trans V.out) (by have:=g3.mes;omega) (g3.dp Z) (O.step P dZ) E3;rw[dS] at y;clear HC HP;go_wp2_with (first|(go_at_call 128;refine y.mono ?_;rintro z w4 ⟨rfl,⟨l,E4,S4⟩,C⟩))
   go_end0
   exact⟨rfl,⟨l,by simpa [qua] using E4,((S0.trans S2).trans P).trans S4⟩,by simpa [qua] using (g3.trans C).le (by omega)⟩
  by_cases aH:n=3
  ·subst aH;have U:=fo 0 1 ar u w3 o3 rb lv ls (emE ls t ar u s) (by omega) (by omega) (by omega) (g3.dp Z) (by have:=g3.mes;omega) (O.step P dZ) E3;go_upto_region 10 with (first|(go_at_call 74;refine U.mono ?_;rintro z w4 ⟨rfl,l,E4,S4⟩))
   have C:=g3.trans (iJ (emE ls t ar u s) 0 1 u (by omega));have A:=P.trans S4;have c:=A.trans ((dQ.refl I17 w4 l).drew);have HO:=λw'=>ku ar u 1 w' (by omega) (by omega);have J:∀ m,GO w4.drew.heap.size w4.drew m->_:=λm r=>mo nc N HP 130 #[pt0 g,pt0 (g+2)] (λg x=>((x.lay 14 g 0).con 1 1 (u+1)).lay 6 0 0) 4 _ (CxQ.keeps _ _ _ _ _ _ _ _ _ _ _ _ _ _ _ _ _) D0 b f e ar (u+1) m l rb lv ls ((GB rb g (g+2) ar u lv ls (by omega)).mono (λ_ _ h=>⟨h.bw,h.ba⟩)) ((emE ls t ar u s).con 0 1 u) Y aa T.out M (by omega) (by omega) ((Q2.step c dZ).step (dQ.ofBelow (I:=λ_=>False) l r) id).sb (C.ks.trans V.out) (by have:=C.mes;omega) (C.dp Z) ((O.step c dZ).below r) ((E4.step ((dQ.refl (λ_=>False) w4 l).drew) noF).below r) ((Q2.step c dZ).step (dQ.ofBelow (I:=λ_=>False) l r) id);clear HC HP U c0 t0 t1 t2 t3 a0 a1 n1;obtain⟨c0,⟨t0,t1,t2,t3⟩,a0,a1,n1⟩:=v.out _ _ A;obtain⟨e0,⟨H,G,F,E⟩,D,h1,h2⟩:=v.out _ _ c;go_region_held3 (λwx=>wx.cell? ⟨g,0,GE⟩=GF (pt0 rb)/\(wx.cell? ⟨gb,0,GE⟩=GF (.int .i64 b.k)/\wx.cell? ⟨gb,1,GE⟩=GF (.int .i64 b.n)/\wx.cell? ⟨gb,2,GE⟩=GF (stv b.nm)/\wx.cell? ⟨gb,3,GE⟩=GF (.slice f b.kids.len e))/\wx.cell? ⟨g+2,0,GE⟩=GF (.int .i64 ar)/\wx.cell? ⟨g+2,1,GE⟩=GF (.int .i64 u)) (go_keep) (first|(go_at_call 84;refine(HO _).mono ?_;rintro z m ⟨rfl,r⟩;have i:=c.trans (dQ.ofBelow (I:=I17) l r);obtain⟨e0,⟨H,G,F,E⟩,D,h1,h2⟩:=v.out _ _ i;have y:=J m r;rw[dS] at y)|(go_at_call 129;refine y.mono ?_;rintro z w6 ⟨rfl,⟨K,E6,S6⟩,g6⟩;obtain⟨e0,⟨H,G,F,E⟩,D,h1,h2⟩:=v.out _ _ (i.trans S6)))
   all_goals
    go_wp2
    go_end0
    exact⟨rfl,⟨K,by simpa [qua] using E6,((S0.trans S2).trans i).trans S6⟩,by simpa [qua] using (C.trans g6).le (by omega)⟩
  by_cases hn4:n=4
  ·subst hn4;have U:=fo 0 1 ar u w3 o3 rb lv ls (emE ls t ar u s) (by omega) (by omega) (by omega) (g3.dp Z) (by have:=g3.mes;omega) (O.step P dZ) E3;go_upto_region 13 with (first|(go_at_call 74;refine U.mono ?_;rintro z w4 ⟨rfl,l,E4,S4⟩))
   have C:=g3.trans (iJ (emE ls t ar u s) 0 1 u (by omega));have A:=P.trans S4;have c:=A.trans ((dQ.refl I17 w4 l).drew);have HO:=λw'=>ku ar u 1 w' (by omega) (by omega);have J:∀ m,GO w4.drew.heap.size w4.drew m->_:=λm r=>mo nc N HP 131 #[pt0 g] (λ_ x=>x.lay 6 0 0) 4 _ (CxQ.keeps _ _ _ _ _ _ _ _ _ _ _ _ _ _ _ _ _) Fj b f e ar (u+1) m l rb lv ls ((FL rb g lv ls).mono (λ_ _ h=>h.bw)) ((emE ls t ar u s).con 0 1 u) Y aa T.out M (by omega) (by omega) ((Q2.step c dZ).step (dQ.ofBelow (I:=λ_=>False) l r) id).sb (C.ks.trans V.out) (by have:=C.mes;omega) (C.dp Z) ((O.step c dZ).below r) ((E4.step ((dQ.refl (λ_=>False) w4 l).drew) noF).below r) ((Q2.step c dZ).step (dQ.ofBelow (I:=λ_=>False) l r) id);clear HC HP U c0 t0 t1 t2 t3 a0 a1 n1;obtain⟨c0,⟨t0,t1,t2,t3⟩,a0,a1,n1⟩:=v.out _ _ A;obtain⟨e0,⟨H,G,F,E⟩,D,h1,h2⟩:=v.out _ _ c;go_region_held3 (λwx=>wx.cell? ⟨g,0,GE⟩=GF (pt0 rb)/\(wx.cell? ⟨gb,0,GE⟩=GF (.int .i64 b.k)/\wx.cell? ⟨gb,1,GE⟩=GF (.int .i64 b.n)/\wx.cell? ⟨gb,2,GE⟩=GF (stv b.nm)/\wx.cell? ⟨gb,3,GE⟩=GF (.slice f b.kids.len e))/\wx.cell? ⟨g+2,0,GE⟩=GF (.int .i64 ar)/\wx.cell? ⟨g+2,1,GE⟩=GF (.int .i64 u)) (go_keep) (first|(go_at_call 84;refine(HO _).mono ?_;rintro z m ⟨rfl,r⟩;have i:=c.trans (dQ.ofBelow (I:=I17) l r);obtain⟨e0,⟨H,G,F,E⟩,D,h1,h2⟩:=v.out _ _ i;have y:=J m r;rw[dS] at y)|(go_at_call 129;refine y.mono ?_;rintro z w6 ⟨rfl,⟨K,E6,S6⟩,g6⟩;obtain⟨e0,⟨H,G,F,E⟩,D,h1,h2⟩:=v.out _ _ (i.trans S6)))
   all_goals
    go_wp2
    go_end0
    exact⟨rfl,⟨K,by simpa [qua] using E6,((S0.trans S2).trans i).trans S6⟩,by simpa [qua] using (C.trans g6).le (by omega)⟩
  have ap:n=5\/n=6:=by omega
  rcases ap with hn5|hn5
  ·subst hn5;have U:=fo 0 1 ar u w3 o3 rb lv ls (emE ls t ar u s) (by omega) (by omega) (by omega) (g3.dp Z) (by have:=g3.mes;omega) (O.step P dZ) E3;go_upto_region 17 with (first|(go_at_call 74;refine U.mono ?_;rintro z w4 ⟨rfl,l,E4,S4⟩))
   have C:=g3.trans (iJ (emE ls t ar u s) 0 1 u (by omega));have A:=P.trans S4;have c:=A.trans ((dQ.refl I17 w4 l).drew);have HO:=λw'=>ku ar u 1 w' (by omega) (by omega);have ae:=λw'=>ku ar u 2 w' (by omega) (by omega);have HK:∀ m,GO w4.drew.heap.size w4.drew m->GV GH 74 #[.pointer (GF ⟨rb,0,GE⟩),.int .i64 0,.int .i64 2,spV ar (u+1)] m (mX m l rb lv (((emE ls t ar u s).con 0 1 u).con 0 2 (u+1)) (.tuple #[])):=λm r=>fo 0 2 ar (u+1) m l rb lv ls ((emE ls t ar u s).con 0 1 u) (by omega) (by omega) (by omega) (C.dp Z) (by have:=C.mes;omega) ((O.step c dZ).below r) ((E4.step ((dQ.refl (λ_=>False) w4 l).drew) noF).below r);clear U c0 t0 t1 t2 t3 a0 a1 n1;obtain⟨c0,⟨t0,t1,t2,t3⟩,a0,a1,n1⟩:=v.out _ _ A;obtain⟨e0,⟨H,G,F,E⟩,D,h1,h2⟩:=v.out _ _ c;go_region_held3 (λwx=>wx.cell? ⟨g,0,GE⟩=GF (pt0 rb)/\wx.cell? ⟨g+2,0,GE⟩=GF (.int .i64 ar)/\wx.cell? ⟨g+2,1,GE⟩=GF (.int .i64 u)) (go_keep) (first|(go_at_call 84;refine(HO _).mono ?_;rintro z m ⟨rfl,r⟩;have i:=c.trans (dQ.ofBelow (I:=I17) l r);obtain⟨e0,⟨H,G,F,E⟩,D,h1,h2⟩:=v.out _ _ i;have y:=HK m r)|(go_at_call 74;refine y.mono ?_;rintro z w6 ⟨rfl,K,E6,S6⟩;obtain⟨e0,⟨H,G,F,E⟩,D,h1,h2⟩:=v.out _ _ (i.trans S6)))
   all_goals
    have ad:=i.trans S6;have d:=ad.trans ((dQ.refl I17 w6 K).drew);have g6:=C.trans (iJ ((emE ls t ar u s).con 0 1 u) 0 2 (u+1) (by omega));have J:∀ w7,GO w6.drew.heap.size w6.drew w7->_:=λw7 W=>mo nc N HP 132 #[pt0 g,pt0 (g+1)] (λ_ x=>x.lay 26 (5-5:Int).toNat 0) 4 _ (CxQ.keeps _ _ _ _ _ _ _ _ _ _ _ _ _ _ _ _ _) yP b f e ar (u+2) w7 K rb lv ls ((DO rb g (g+1) ⟨21,5,nm,a,Fs.ex t (Fs.ex b .nil)⟩ (GF ⟨b0,off,GE⟩) cap lv ls (by simp)).mono (λ_ _ h=>⟨h.bw,h.bn⟩)) (((emE ls t ar u s).con 0 1 u).con 0 2 (u+1)) Y aa T.out M (by omega) (by omega) ((Q2.step d dZ).step (dQ.ofBelow (I:=λ_=>False) K W) id).sb (g6.ks.trans V.out) (by have:=g6.mes;omega) (g6.dp Z) ((O.step d dZ).below W) ((E6.step ((dQ.refl (λ_=>False) w6 K).drew) noF).below W) ((Q2.step d dZ).step (dQ.ofBelow (I:=λ_=>False) K W) id);clear HK y HO c0 t0 t1 t2 t3 a0 a1 n1 e0 H G F E D h1 h2;obtain⟨c0,⟨t0,t1,t2,t3⟩,a0,a1,n1⟩:=v.out _ _ ad;obtain⟨e0,⟨H,G,F,E⟩,D,h1,h2⟩:=v.out _ _ d;go_upto_region 18 with fail;go_region_held3 (λwx=>wx.cell? ⟨g,0,GE⟩=GF (pt0 rb)/\(wx.cell? ⟨gb,0,GE⟩=GF (.int .i64 b.k)/\wx.cell? ⟨gb,1,GE⟩=GF (.int .i64 b.n)/\wx.cell? ⟨gb,2,GE⟩=GF (stv b.nm)/\wx.cell? ⟨gb,3,GE⟩=GF (.slice f b.kids.len e))/\wx.cell? ⟨g+2,0,GE⟩=GF (.int .i64 ar)/\wx.cell? ⟨g+2,1,GE⟩=GF (.int .i64 u)) (go_keep) (first|(go_at_call 84;refine(ae _).mono ?_;rintro z w7 ⟨rfl,W⟩;have R:=d.trans (dQ.ofBelow (I:=I17) K W);obtain⟨e0,⟨H,G,F,E⟩,D,h1,h2⟩:=v.out _ _ R;have y:=J w7 W;rw[dS] at y)|(go_at_call 129;refine y.mono ?_;rintro z w8 ⟨rfl,⟨o8,E8,S8⟩,g8⟩;obtain⟨e0,⟨H,G,F,E⟩,D,h1,h2⟩:=v.out _ _ (R.trans S8)))
    all_goals
     have ac:=R.trans S8;have g18:=g6.trans g8;have U:=fi 27 0 0 w8 o8 rb lv ls (pK ls (emE ls b) (λ_ x=>x.lay 26 (5-5:Int).toNat 0) ar (u+2) (((emE ls t ar u s).con 0 1 u).con 0 2 (u+1))) (by omega) (by omega) (by omega) (by have:=g18.mes;omega) (O.step ac dZ) E8;clear J y ae;go_wp2_with (first|(go_at_call 41;refine U.mono ?_;rintro z w9 ⟨rfl,o9,E9,S9⟩))
     go_end0
     exact⟨rfl,⟨o9,by simpa [qua] using E9,((S0.trans S2).trans ac).trans S9⟩,by simpa [qua] using (g18.trans (eR _ 27 0 0)).le (by omega)⟩
  ·subst hn5;have U:=fo 0 1 ar u w3 o3 rb lv ls (emE ls t ar u s) (by omega) (by omega) (by omega) (g3.dp Z) (by have:=g3.mes;omega) (O.step P dZ) E3;go_upto_region 17 with (first|(go_at_call 74;refine U.mono ?_;rintro z w4 ⟨rfl,l,E4,S4⟩))
   have C:=g3.trans (iJ (emE ls t ar u s) 0 1 u (by omega));have A:=P.trans S4;have c:=A.trans ((dQ.refl I17 w4 l).drew);have HO:=λw'=>ku ar u 1 w' (by omega) (by omega);have ae:=λw'=>ku ar u 2 w' (by omega) (by omega);have HK:∀ m,GO w4.drew.heap.size w4.drew m->GV GH 74 #[.pointer (GF ⟨rb,0,GE⟩),.int .i64 0,.int .i64 2,spV ar (u+1)] m (mX m l rb lv (((emE ls t ar u s).con 0 1 u).con 0 2 (u+1)) (.tuple #[])):=λm r=>fo 0 2 ar (u+1) m l rb lv ls ((emE ls t ar u s).con 0 1 u) (by omega) (by omega) (by omega) (C.dp Z) (by have:=C.mes;omega) ((O.step c dZ).below r) ((E4.step ((dQ.refl (λ_=>False) w4 l).drew) noF).below r);clear U c0 t0 t1 t2 t3 a0 a1 n1;obtain⟨c0,⟨t0,t1,t2,t3⟩,a0,a1,n1⟩:=v.out _ _ A;obtain⟨e0,⟨H,G,F,E⟩,D,h1,h2⟩:=v.out _ _ c;go_region_held3 (λwx=>wx.cell? ⟨g,0,GE⟩=GF (pt0 rb)/\wx.cell? ⟨g+2,0,GE⟩=GF (.int .i64 ar)/\wx.cell? ⟨g+2,1,GE⟩=GF (.int .i64 u)) (go_keep) (first|(go_at_call 84;refine(HO _).mono ?_;rintro z m ⟨rfl,r⟩;have i:=c.trans (dQ.ofBelow (I:=I17) l r);obtain⟨e0,⟨H,G,F,E⟩,D,h1,h2⟩:=v.out _ _ i;have y:=HK m r)|(go_at_call 74;refine y.mono ?_;rintro z w6 ⟨rfl,K,E6,S6⟩;obtain⟨e0,⟨H,G,F,E⟩,D,h1,h2⟩:=v.out _ _ (i.trans S6)))
   all_goals
    have ad:=i.trans S6;have d:=ad.trans ((dQ.refl I17 w6 K).drew);have g6:=C.trans (iJ ((emE ls t ar u s).con 0 1 u) 0 2 (u+1) (by omega));have J:∀ w7,GO w6.drew.heap.size w6.drew w7->_:=λw7 W=>mo nc N HP 132 #[pt0 g,pt0 (g+1)] (λ_ x=>x.lay 26 (6-5:Int).toNat 0) 4 _ (CxQ.keeps _ _ _ _ _ _ _ _ _ _ _ _ _ _ _ _ _) yP b f e ar (u+2) w7 K rb lv ls ((DO rb g (g+1) ⟨21,6,nm,a,Fs.ex t (Fs.ex b .nil)⟩ (GF ⟨b0,off,GE⟩) cap lv ls (by simp)).mono (λ_ _ h=>⟨h.bw,h.bn⟩)) (((emE ls t ar u s).con 0 1 u).con 0 2 (u+1)) Y aa T.out M (by omega) (by omega) ((Q2.step d dZ).step (dQ.ofBelow (I:=λ_=>False) K W) id).sb (g6.ks.trans V.out) (by have:=g6.mes;omega) (g6.dp Z) ((O.step d dZ).below W) ((E6.step ((dQ.refl (λ_=>False) w6 K).drew) noF).below W) ((Q2.step d dZ).step (dQ.ofBelow (I:=λ_=>False) K W) id);clear HK y HO c0 t0 t1 t2 t3 a0 a1 n1 e0 H G F E D h1 h2;obtain⟨c0,⟨t0,t1,t2,t3⟩,a0,a1,n1⟩:=v.out _ _ ad;obtain⟨e0,⟨H,G,F,E⟩,D,h1,h2⟩:=v.out _ _ d;go_upto_region 18 with fail;go_region_held3 (λwx=>wx.cell? ⟨g,0,GE⟩=GF (pt0 rb)/\(wx.cell? ⟨gb,0,GE⟩=GF (.int .i64 b.k)/\wx.cell? ⟨gb,1,GE⟩=GF (.int .i64 b.n)/\wx.cell? ⟨gb,2,GE⟩=GF (stv b.nm)/\wx.cell? ⟨gb,3,GE⟩=GF (.slice f b.kids.len e))/\wx.cell? ⟨g+2,0,GE⟩=GF (.int .i64 ar)/\wx.cell? ⟨g+2,1,GE⟩=GF (.int .i64 u)) (go_keep) (first|(go_at_call 84;refine(ae _).mono ?_;rintro z w7 ⟨rfl,W⟩;have R:=d.trans (dQ.ofBelow (I:=I17) K W);obtain⟨e0,⟨H,G,F,E⟩,D,h1,h2⟩:=v.out _ _ R;have y:=J w7 W;rw[dS] at y)|(go_at_call 129;refine y.mono ?_;rintro z w8 ⟨rfl,⟨o8,E8,S8⟩,g8⟩;obtain⟨e0,⟨H,G,F,E⟩,D,h1,h2⟩:=v.out _ _ (R.trans S8)))
    all_goals
     have ac:=R.trans S8;have g18:=g6.trans g8;have U:=fi 27 0 0 w8 o8 rb lv ls (pK ls (emE ls b) (λ_ x=>x.lay 26 (6-5:Int).toNat 0) ar (u+2) (((emE ls t ar u s).con 0 1 u).con 0 2 (u+1))) (by omega) (by omega) (by omega) (by have:=g18.mes;omega) (O.step ac dZ) E8;clear J y ae;go_wp2_with (first|(go_at_call 41;refine U.mono ?_;rintro z w9 ⟨rfl,o9,E9,S9⟩))
     go_end0
     exact⟨rfl,⟨o9,by simpa [qua] using E9,((S0.trans S2).trans ac).trans S9⟩,by simpa [qua] using (g18.trans (eR _ 27 0 0)).le (by omega)⟩
end Go.Proofs.YtkhgahljbpmfaaaGreatDoor

import Derived.Test.YtnfmpocfakblmaaGreatDoorEmM
import Derived.Laws.BitsAllLaws
import Derived.Laws.Bits64
import Derived.Laws.ShiftsVarLaws
import Derived.Below
import Derived.IntWalk
import Derived.Lib.LaidTab
set_option maxRecDepth 100000
set_option maxHeartbeats 8000000
namespace Go.Proofs.YtnfmpocfakblmaaGreatDoor
open Go.ChangeShapes Go.WideShapes Go.ChangeAt Go.RowKit Go.Maps
set_option linter.unusedVariables false
set_option linter.unusedSimpArgs false
theorem own_tightE {P:Program}{K:TypeId}{R:Value->Option (DataW Unit × List MemPlace)}{w:World}{b n:Nat}{D:DataW Unit}(h:w.ownsMap P K R b n D):w.ownsMap P K R b (Maps.size D) D:=by
 obtain⟨es,clock,hb,F,hs,rfl⟩:=h;exact⟨es,clock,hb,F,by simp[Maps.size,length_sorted],rfl⟩
theorem own_stepE {P:Program}{K:TypeId}{R:Value->Option (DataW Unit × List MemPlace)}{w w':World}{o o':Nat->Nat}{I:Nat->Prop}{b n:Nat}{D:DataW Unit}(h:w.ownsMap P K R b n D)(s:Step I w o w' o')(hi:¬I (o b)):w'.ownsMap P K R b n D:=by
 have hlt:=h.lt;obtain⟨es,clock,hb,F,hs,hD⟩:=h;exact⟨es,clock,(s.block b hlt hi).trans hb,F,hs,hD⟩
theorem turned_stepE {w w':World}{o:Nat->Nat}{b i:Nat}(h:w.mapTurned w' b)(hb:o b=i):Step (fun k=>k=i) w o w' o :=
 let g:=h.grown
 ⟨g.os,g.tape,g.output,g.size,fun _ _=>rfl,fun k hk hn=>g.block k hk (fun e=>hn (by cases e;exact hb))⟩
def plElem:Value->Option (DataW Unit × List MemPlace)
 | .int .i64 a=>some (.lit (.int .i64 a),[])
 | _=>none
theorem plElem_inv {v:Value}{a:Int}{ps:List MemPlace}(h:plElem v=some (.lit (.int .i64 a),ps)):v=.int .i64 a:=by
 unfold plElem at h;split at h
 ·simp at h;rw[h.1]
 ·cases h
theorem plElem_form {v:Value}{y:DataW Unit × List MemPlace}(h:plElem v=some y):∃a,v=.int .i64 a:=by
 unfold plElem at h;split at h
 ·exact⟨_,rfl⟩
 ·cases h
theorem zeroPl (w:World):(zeroValue 3).run Tryz.prog w=.ok (.int .i64 0) w:=by kernel_rfl
theorem intLawE:Keyed Tryz.prog 3:=int_keyed Tryz.underlying3
theorem strLawE:Keyed Tryz.prog 9:=string_keyed Tryz.underlying9
theorem keyI (k:Int)(h:-9223372036854775808<=k/\k<=9223372036854775807):keyOf Tryz.prog 3 (.int .i64 k)=some (.int .i64 k):=keyOf_int_mk Tryz.underlying3 (WalkArith.wf_i64 (by have:=h.1;have:=h.2;omega))
theorem keyS (x:List UInt8)(h:x.length<=maxLen):keyOf Tryz.prog 9 (stv x)=some (.string x):=by
 have:=WideMaps.keyOf_string_mk (P:=Tryz.prog) Tryz.underlying9 (s:=⟨x.toArray⟩) (by rw[show (⟨x.toArray⟩:ByteArray).size=x.toArray.size from rfl];simpa using h)
 simpa using this
theorem idx_new {α:Type}[BEq α][LawfulBEq α]{l:List α}{x:α}(h:x ∉ l):(l++[x]).idxOf x=l.length:=by
 rw[List.idxOf_append,if_neg h];simp
theorem idx_old {α:Type}[BEq α][LawfulBEq α]{l:List α}{x y:α}(h:y ∈ l):(l++[x]).idxOf y=l.idxOf y:=by
 rw[List.idxOf_append,if_pos h]
theorem idx_none {α:Type}[BEq α][LawfulBEq α]{l:List α}{x:α}(h:x ∉ l):l.idxOf x=l.length:=List.idxOf_eq_length h
def MpC (w:World)(o:Nat->Nat)(i b:Nat)(l:List (Int)):Prop :=
 ∃D:DataW Unit,w.ownsMap Tryz.prog 3 plElem b l.length D/\Maps.size D=l.length/\o b=i /\
  ∀ k:Int,Maps.has D (.int .i64 k)=decide (k ∈ l)/\(k ∈ l->D.atKey (.int .i64 k) (.lit (.int .i64 0))=.lit (.int .i64 (l.idxOf k:Nat)))
theorem MpC.step {I:Nat->Prop}{w w':World}{o o':Nat->Nat}{i b:Nat}{l:List (Int)}(h:MpC w o i b l)(s:Step I w o w' o')(hi:¬I i):MpC w' o' i b l:=by
 obtain⟨D,h1,h2,h3,h4⟩:=h;exact⟨D,own_stepE h1 s (by rw[h3];exact hi),h2,(s.lab b h1.lt).trans h3,h4⟩
theorem MpC.made (w:World)(o:Nat->Nat)(i:Nat):MpC (w.alloc (.map #[] 0)) (newLab w o i) i w.heap.size [] :=
 ⟨.map [],World.ownsMap_made _ _ _ _,rfl,newLab_new (Nat.le_refl _),fun k=>⟨by simp[Maps.has],fun h=>by simp at h⟩⟩
theorem MpC.look {w:World}{o:Nat->Nat}{i b:Nat}{l:List (Int)}(h:MpC w o i b l)(k:Int)(hk:-9223372036854775808<=k/\k<=9223372036854775807)(hm:k ∈ l) :
  (Instr.lookup 89 (.map (some b)) (.int .i64 k) true).run Tryz.prog w=.ok (.tuple #[.int .i64 (l.idxOf k:Nat),.bool true]) w:=by
 obtain⟨D,h1,h2,h3,h4⟩:=h;obtain⟨c,ps,hr,hc⟩:=h1.look_ok intLawE Tryz.underlying89 (zeroPl w) (zd:=.lit (.int .i64 0)) (zp:=[]) rfl (keyI k hk);rw[(h4 k).2 hm] at hc;rw[(h4 k).1,plElem_inv hc,decide_eq_true hm] at hr;exact hr
theorem MpC.miss {w:World}{o:Nat->Nat}{i b:Nat}{l:List (Int)}(h:MpC w o i b l)(k:Int)(hk:-9223372036854775808<=k/\k<=9223372036854775807)(hm:k ∉ l) :
  ∃x:Int,(Instr.lookup 89 (.map (some b)) (.int .i64 k) true).run Tryz.prog w=.ok (.tuple #[.int .i64 x,.bool false]) w:=by
 obtain⟨D,h1,h2,h3,h4⟩:=h;obtain⟨c,ps,hr,hc⟩:=h1.look_ok intLawE Tryz.underlying89 (zeroPl w) (zd:=.lit (.int .i64 0)) (zp:=[]) rfl (keyI k hk);obtain⟨x,rfl⟩:=plElem_form hc;rw[(h4 k).1,decide_eq_false hm] at hr;exact⟨x,hr⟩
theorem MpC.put {w:World}{o:Nat->Nat}{i b:Nat}{l:List (Int)}(h:MpC w o i b l)(k:Int)(hk:-9223372036854775808<=k/\k<=9223372036854775807)(hm:k ∉ l)(hl:l.length<=1000000000) :
  ∃w',(Instr.mapUpdate 89 (.map (some b)) (.int .i64 k) (.int .i64 (l.length:Nat))).run Tryz.prog w=.ok () w'/\MpC w' o i b (l++[k])/\Step (fun k=>k=i) w o w' o:=by
 obtain⟨D,h1,h2,h3,h4⟩:=h;obtain⟨w',hr,ho,ht⟩:=h1.store (val:=.int .i64 (l.length:Nat)) (d:=.lit (.int .i64 (l.length:Nat))) (ps:=[]) intLawE Tryz.underlying89 (by unfold maxLen;omega) (keyI k hk) rfl;have hsz:Maps.size (D.put (.int .i64 k) (.lit (.int .i64 (l.length:Nat))))=l.length+1:=by
  rw[size_put (h1.tidy intLawE),h2,(h4 k).1,decide_eq_false hm];simp
 have ho':=own_tightE ho;rw[hsz] at ho';refine⟨w',hr,⟨_,by rw[List.length_append];exact ho',by rw[hsz,List.length_append];rfl,h3,fun y=>?_⟩,turned_stepE ht h3⟩;by_cases e:y=k
 ·subst e;rw[has_put_same h1.isMap (show WideAt.IsKeyLit (.int .i64 y) from trivial),atKey_put_same h1.isMap (show WideAt.IsKeyLit (.int .i64 y) from trivial),idx_new hm];exact⟨by simp,fun _=>rfl⟩
 ·have hne:Lit.int .i64 y≠Lit.int .i64 k:=fun h=>e (by simpa using h);rw[has_put_other hne,atKey_put_other hne,(h4 y).1];refine⟨by simp[e],fun hy=>?_⟩;have hy2:y ∈ l:=by simpa [e] using hy
  rw[idx_old hy2];exact(h4 y).2 hy2
def MpS (w:World)(o:Nat->Nat)(i b:Nat)(l:List (List UInt8)):Prop :=
 ∃D:DataW Unit,w.ownsMap Tryz.prog 9 plElem b l.length D/\Maps.size D=l.length/\o b=i /\
  ∀ k:List UInt8,Maps.has D (.string k)=decide (k ∈ l)/\(k ∈ l->D.atKey (.string k) (.lit (.int .i64 0))=.lit (.int .i64 (l.idxOf k:Nat)))
theorem MpS.step {I:Nat->Prop}{w w':World}{o o':Nat->Nat}{i b:Nat}{l:List (List UInt8)}(h:MpS w o i b l)(s:Step I w o w' o')(hi:¬I i):MpS w' o' i b l:=by
 obtain⟨D,h1,h2,h3,h4⟩:=h;exact⟨D,own_stepE h1 s (by rw[h3];exact hi),h2,(s.lab b h1.lt).trans h3,h4⟩
theorem MpS.made (w:World)(o:Nat->Nat)(i:Nat):MpS (w.alloc (.map #[] 0)) (newLab w o i) i w.heap.size [] :=
 ⟨.map [],World.ownsMap_made _ _ _ _,rfl,newLab_new (Nat.le_refl _),fun k=>⟨by simp[Maps.has],fun h=>by simp at h⟩⟩
theorem MpS.look {w:World}{o:Nat->Nat}{i b:Nat}{l:List (List UInt8)}(h:MpS w o i b l)(k:List UInt8)(hk:k.length<=maxLen)(hm:k ∈ l) :
  (Instr.lookup 90 (.map (some b)) (stv k) true).run Tryz.prog w=.ok (.tuple #[.int .i64 (l.idxOf k:Nat),.bool true]) w:=by
 obtain⟨D,h1,h2,h3,h4⟩:=h;obtain⟨c,ps,hr,hc⟩:=h1.look_ok strLawE Tryz.underlying90 (zeroPl w) (zd:=.lit (.int .i64 0)) (zp:=[]) rfl (keyS k hk);rw[(h4 k).2 hm] at hc;rw[(h4 k).1,plElem_inv hc,decide_eq_true hm] at hr;exact hr
theorem MpS.miss {w:World}{o:Nat->Nat}{i b:Nat}{l:List (List UInt8)}(h:MpS w o i b l)(k:List UInt8)(hk:k.length<=maxLen)(hm:k ∉ l) :
  ∃x:Int,(Instr.lookup 90 (.map (some b)) (stv k) true).run Tryz.prog w=.ok (.tuple #[.int .i64 x,.bool false]) w:=by
 obtain⟨D,h1,h2,h3,h4⟩:=h;obtain⟨c,ps,hr,hc⟩:=h1.look_ok strLawE Tryz.underlying90 (zeroPl w) (zd:=.lit (.int .i64 0)) (zp:=[]) rfl (keyS k hk);obtain⟨x,rfl⟩:=plElem_form hc;rw[(h4 k).1,decide_eq_false hm] at hr;exact⟨x,hr⟩
theorem MpS.put {w:World}{o:Nat->Nat}{i b:Nat}{l:List (List UInt8)}(h:MpS w o i b l)(k:List UInt8)(hk:k.length<=maxLen)(hm:k ∉ l)(hl:l.length<=1000000000) :
  ∃w',(Instr.mapUpdate 90 (.map (some b)) (stv k) (.int .i64 (l.length:Nat))).run Tryz.prog w=.ok () w'/\MpS w' o i b (l++[k])/\Step (fun k=>k=i) w o w' o:=by
 obtain⟨D,h1,h2,h3,h4⟩:=h;obtain⟨w',hr,ho,ht⟩:=h1.store (val:=.int .i64 (l.length:Nat)) (d:=.lit (.int .i64 (l.length:Nat))) (ps:=[]) strLawE Tryz.underlying90 (by unfold maxLen;omega) (keyS k hk) rfl;have hsz:Maps.size (D.put (.string k) (.lit (.int .i64 (l.length:Nat))))=l.length+1:=by
  rw[size_put (h1.tidy strLawE),h2,(h4 k).1,decide_eq_false hm];simp
 have ho':=own_tightE ho;rw[hsz] at ho';refine⟨w',hr,⟨_,by rw[List.length_append];exact ho',by rw[hsz,List.length_append];rfl,h3,fun y=>?_⟩,turned_stepE ht h3⟩;by_cases e:y=k
 ·subst e;rw[has_put_same h1.isMap (show WideAt.IsKeyLit (.string y) from trivial),atKey_put_same h1.isMap (show WideAt.IsKeyLit (.string y) from trivial),idx_new hm];exact⟨by simp,fun _=>rfl⟩
 ·have hne:Lit.string y≠Lit.string k:=fun h=>e (by simpa using h);rw[has_put_other hne,atKey_put_other hne,(h4 y).1];refine⟨by simp[e],fun hy=>?_⟩;have hy2:y ∈ l:=by simpa [e] using hy
  rw[idx_old hy2];exact(h4 y).2 hy2
open Go.RowKit
theorem wrap64_small (n:Int)(h1:-9223372036854775808<=n)(h2:n<=9223372036854775807):wrap64 n=n:=by
 unfold wrap64;omega
theorem or_join (x y:Int)(h1:0<=x)(h2:x<68719476736)(h3:0<=y)(h4:y<268435456):bits .or .u64 (x*268435456) y=x*268435456+y:=by
 rw[u64_or _ _ (by omega) (by omega) (by omega) (by omega),nat_join 28 _ _ (by omega) (by omega)];omega
theorem word_eq (o a b:Int)(h1:0<=o)(h2:o<=255)(h3:0<=a)(h4:a<=268435455)(h5:0<=b)(h6:b<=268435455) :
  bits .or .u64 (bits .or .u64 (o*72057594037927936) (a*268435456)) b=(o*268435456+a)*268435456+b:=by
 have e:bits .or .u64 (o*72057594037927936) (a*268435456)=(o*268435456+a)*268435456:=by
  rw[u64_or _ _ (by omega) (by omega) (by omega) (by omega),nat_join 56 _ _ (by omega) (by omega)];omega
 rw[e,or_join _ _ (by omega) (by omega) h5 (by omega)]
theorem part0_eq (u:Int)(h1:0<=u)(h2:u<18446744073709551616):wrap64 (bits .and .u64 (u / 72057594037927936) 255)=u / 72057594037927936:=by
 rw[u64_and _ _ (by omega) (by omega) (by omega) (by omega),show (255:Int).toNat=255 from rfl,nat_mask8,wrap64_small _ (by omega) (by omega)];omega
theorem and_mask28 (x:Nat):x &&& 268435455=x % 268435456:=Nat.and_two_pow_sub_one_eq_mod x 28
theorem part1_eq (u:Int)(h1:0<=u)(h2:u<18446744073709551616):wrap64 (bits .and .u64 (u / 268435456) 268435455)=u / 268435456 % 268435456:=by
 rw[u64_and _ _ (by omega) (by omega) (by omega) (by omega),show (268435455:Int).toNat=268435455 from rfl,and_mask28,wrap64_small _ (by omega) (by omega)];omega
theorem part2_eq (u:Int)(h1:0<=u)(h2:u<18446744073709551616):wrap64 (bits .and .u64 u 268435455)=u % 268435456:=by
 rw[u64_and _ _ (by omega) (by omega) (by omega) (by omega),show (268435455:Int).toNat=268435455 from rfl,and_mask28,wrap64_small _ (by omega) (by omega)];omega
open Go.ChangeShapes Go.WideShapes Go.ChangeAt Go.RowKit
theorem gTab : Tryz.prog.globalNamed "isthmus/pack.fields" = some 2 := by kernel_rfl
theorem gTabType:(Tryz.prog.globals[2]?).map (·.type)=some 225:=by kernel_rfl
theorem cellsTab:Tryz.prog.cellsOf 225=6:=by kernel_rfl
theorem cellsField:Tryz.prog.cellsOf 224=2:=by kernel_rfl
theorem cellsUint:Tryz.prog.cellsOf 179=1:=by kernel_rfl
theorem cellsUint64:Tryz.prog.cellsOf 54=1:=by kernel_rfl
def Tab (w:World):Prop :=
 w.cell? ⟨2,0,none⟩=some (.int .u64 56)/\w.cell? ⟨2,1,none⟩=some (.int .u64 255)/\w.cell? ⟨2,2,none⟩=some (.int .u64 28) /\
 w.cell? ⟨2,3,none⟩=some (.int .u64 268435455)/\w.cell? ⟨2,4,none⟩=some (.int .u64 0)/\w.cell? ⟨2,5,none⟩=some (.int .u64 268435455)/\2<w.heap.size
theorem Tab.below {w w':World}(h:Tab w)(hb:Below w.heap.size w w'):Tab w':=by
 obtain⟨h0,h1,h2,h3,h4,h5,hs⟩:=h;refine⟨?_,?_,?_,?_,?_,?_,Nat.lt_of_lt_of_le hs hb.size⟩
 ·exact(hb.cell (p:=⟨2,0,none⟩) hs).trans h0
 ·exact(hb.cell (p:=⟨2,1,none⟩) hs).trans h1
 ·exact(hb.cell (p:=⟨2,2,none⟩) hs).trans h2
 ·exact(hb.cell (p:=⟨2,3,none⟩) hs).trans h3
 ·exact(hb.cell (p:=⟨2,4,none⟩) hs).trans h4
 ·exact(hb.cell (p:=⟨2,5,none⟩) hs).trans h5
theorem below_drewN (w:World)(n:Nat):Below w.heap.size w (w.drewN n):=by
 have key:∀ (n:Nat) (v:World),Below w.heap.size w v->Below w.heap.size w (v.drewN n):=by
  intro n
  induction n with
  | zero=>intro v h;exact h
  | succ n ih=>intro v h;exact(ih v h).drew
 exact key n w (Below.refl _ _)
theorem bjoin {a b c:World}(h:Below a.heap.size a b)(k:Below b.heap.size b c):Below a.heap.size a c:=h.trans (k.mono h.size)
theorem fits_yes0 (n:Int)(w:World)(hT:Tab w)(h1:0<=n)(h2:n<=255) :
  Calls Tryz.prog 142 #[.int .i64 0,.int .i64 n] w fun e w'=>e=.returned (.bool true)/\w'=w:=by
 have hc:=hT.2.1;go_enter Tryz.func142,Tryz.ntmps142;go_wp2;go_ret;exact⟨ret_bool (by simp;try omega),rfl⟩
theorem fits_yes1 (n:Int)(w:World)(hT:Tab w)(h1:0<=n)(h2:n<=268435455) :
  Calls Tryz.prog 142 #[.int .i64 1,.int .i64 n] w fun e w'=>e=.returned (.bool true)/\w'=w:=by
 have hc:=hT.2.2.2.1;go_enter Tryz.func142,Tryz.ntmps142;go_wp2;go_ret;exact⟨ret_bool (by simp;try omega),rfl⟩
theorem fits_yes2 (n:Int)(w:World)(hT:Tab w)(h1:0<=n)(h2:n<=268435455) :
  Calls Tryz.prog 142 #[.int .i64 2,.int .i64 n] w fun e w'=>e=.returned (.bool true)/\w'=w:=by
 have hc:=hT.2.2.2.2.2.1;go_enter Tryz.func142,Tryz.ntmps142;go_wp2;go_ret;exact⟨ret_bool (by simp;try omega),rfl⟩
theorem lay0 (n:Int)(w:World)(hT:Tab w)(h1:0<=n)(h2:n<=255) :
  Calls Tryz.prog 143 #[.int .i64 0,.int .i64 n] w fun e w'=>e=.returned (.int .u64 (n*72057594037927936))/\w'=w:=by
 have hc:=hT.1;go_enter Tryz.func143,Tryz.ntmps143;go_wp2;go_ret;exact⟨rfl,rfl⟩
theorem lay1 (n:Int)(w:World)(hT:Tab w)(h1:0<=n)(h2:n<=268435455) :
  Calls Tryz.prog 143 #[.int .i64 1,.int .i64 n] w fun e w'=>e=.returned (.int .u64 (n*268435456))/\w'=w:=by
 have hc:=hT.2.2.1;go_enter Tryz.func143,Tryz.ntmps143;go_wp2;go_ret;exact⟨rfl,rfl⟩
theorem lay2 (n:Int)(w:World)(hT:Tab w)(h1:0<=n)(h2:n<=268435455) :
  Calls Tryz.prog 143 #[.int .i64 2,.int .i64 n] w fun e w'=>e=.returned (.int .u64 n)/\w'=w:=by
 have hc:=hT.2.2.2.2.1;go_enter Tryz.func143,Tryz.ntmps143;go_wp2;go_ret;exact⟨ret_int (by simp),rfl⟩
theorem part0 (u:Int)(w:World)(hT:Tab w)(h1:0<=u)(h2:u<18446744073709551616) :
  Calls Tryz.prog 201 #[.int .i64 0,.int .u64 u] w fun e w'=>e=.returned (.int .i64 (u / 72057594037927936))/\Below w.heap.size w w':=by
 have hc:=hT.1;have hd:=hT.2.1;go_enter Tryz.func201,Tryz.ntmps201;go_wp2
 go_quiet (fail)
 go_wp2;go_ret;exact⟨ret_int (part0_eq u h1 h2),below_drewN _ _⟩
theorem part1 (u:Int)(w:World)(hT:Tab w)(h1:0<=u)(h2:u<18446744073709551616) :
  Calls Tryz.prog 201 #[.int .i64 1,.int .u64 u] w fun e w'=>e=.returned (.int .i64 (u / 268435456 % 268435456))/\Below w.heap.size w w':=by
 have hc:=hT.2.2.1;have hd:=hT.2.2.2.1;go_enter Tryz.func201,Tryz.ntmps201;go_wp2
 go_quiet (fail)
 go_wp2;go_ret;exact⟨ret_int (part1_eq u h1 h2),below_drewN _ _⟩
theorem part2 (u:Int)(w:World)(hT:Tab w)(h1:0<=u)(h2:u<18446744073709551616) :
  Calls Tryz.prog 201 #[.int .i64 2,.int .u64 u] w fun e w'=>e=.returned (.int .i64 (u % 268435456))/\Below w.heap.size w w':=by
 have hc:=hT.2.2.2.2.1;have hd:=hT.2.2.2.2.2.1;go_enter Tryz.func201,Tryz.ntmps201;go_wp2
 go_quiet (fail)
 go_wp2;go_ret;exact⟨ret_int (by simpa using part2_eq u h1 h2),below_drewN _ _⟩
theorem ret_two {k l:IntKind}{a b c:Int}(h:a=b):Ending.returned (.tuple #[.int k a,.int l c])=.returned (.tuple #[.int k b,.int l c]):=by rw[h]
theorem word_yes (o a b:Int)(w:World)(hT:Tab w)(h1:0<=o)(h2:o<=255)(h3:0<=a)(h4:a<=268435455)(h5:0<=b)(h6:b<=268435455) :
  Calls Tryz.prog 89 #[.int .i64 o,.int .i64 a,.int .i64 b] w fun e w' =>
   e=.returned (.tuple #[.int .u64 ((o*268435456+a)*268435456+b),.int .i64 0])/\w'=w:=by
 go_enter Tryz.func89,Tryz.ntmps89;go_wp2_with fail;refine(fits_yes0 o w hT h1 h2).mono ?_;rintro e w1 ⟨rfl,rfl⟩;go_wp2_with fail;refine(fits_yes1 a _ hT h3 h4).mono ?_;rintro e w1 ⟨rfl,rfl⟩;go_wp2_with fail;refine(fits_yes2 b _ hT h5 h6).mono ?_;rintro e w1 ⟨rfl,rfl⟩;go_wp2_with fail;refine(lay0 o _ hT h1 h2).mono ?_;rintro e w1 ⟨rfl,rfl⟩;go_wp2_with fail;refine(lay1 a _ hT h3 h4).mono ?_;rintro e w1 ⟨rfl,rfl⟩;go_wp2_with fail;refine(lay2 b _ hT h5 h6).mono ?_;rintro e w1 ⟨rfl,rfl⟩;go_wp2;go_ret2;exact⟨ret_two (word_eq o a b h1 h2 h3 h4 h5 h6),rfl⟩
theorem parts_any (u:Int)(w:World)(hT:Tab w)(h1:0<=u)(h2:u<18446744073709551616) :
  Calls Tryz.prog 153 #[.int .u64 u] w fun e w' =>
   e=.returned (.tuple #[.int .i64 (u / 72057594037927936),.int .i64 (u / 268435456 % 268435456),.int .i64 (u % 268435456)])/\Below w.heap.size w w':=by
 go_enter Tryz.func153,Tryz.ntmps153;go_wp2_with fail;refine(part0 u w hT h1 h2).mono ?_;rintro e w1 ⟨rfl,hb1⟩;have hT1:=hT.below hb1;go_wp2_with fail;refine(part1 u w1 hT1 h1 h2).mono ?_;rintro e w2 ⟨rfl,hb2⟩;have hT2:=hT1.below hb2;go_wp2_with fail;refine(part2 u w2 hT2 h1 h2).mono ?_;rintro e w3 ⟨rfl,hb3⟩;go_wp2;go_ret3;exact⟨rfl,bjoin (bjoin hb1 hb2) hb3⟩
abbrev I17:Nat->Prop:=fun k=>1<=k/\k<=7
theorem I17_of {i:Nat}(h:1<=i/\i<=7):∀ k,k=i->I17 k:=fun k hk=>by subst hk;exact h
def encW (x:Wo):Int:=((x.op:Int)*268435456+(x.a:Int))*268435456+(x.b:Int)
def Wo.ok (x:Wo):Prop:=x.op<=255/\x.a<=268435455/\x.b<=268435455
theorem encW_bd {x:Wo}(h:x.ok):0<=encW x/\encW x<18446744073709551616:=by
 obtain⟨h1,h2,h3⟩:=h;unfold encW;omega
theorem encW_parts {x:Wo}(h:x.ok):encW x / 72057594037927936=(x.op:Int)/\encW x / 268435456 % 268435456=(x.a:Int)/\encW x % 268435456=(x.b:Int):=by
 obtain⟨h1,h2,h3⟩:=h;unfold encW;omega
def woV (l:List Wo):List Value:=l.map fun x=>.int .u64 (encW x)
def eiV (l:List Int):List Value:=l.map (.int .i64 ·)
def esV (l:List (List UInt8)):List Value:=l.map stv
structure EmW (w:World)(o:Nat->Nat)(rb:Nat)(lv:Value)(s:Em):Prop where
 ok:∀ x ∈ s.ws,x.ok
 ci:∀ n ∈ s.cs,-9223372036854775808<=n/\n<=9223372036854775807
 ni:∀ x ∈ s.ns,x.length<=maxLen
 mem:∃vw vc vn vk mc mn,Blk w o 1 rb (.cells #[vw,vc,vn,vk,.map (some mc),.map (some mn),lv,.int .i64 (s.dp:Nat)] 92) /\
  Row w o 2 54 1 vw s.ws.length (woV s.ws)/\Row w o 3 3 1 vc s.cs.length (eiV s.cs)/\Row w o 4 9 1 vn s.ns.length (esV s.ns)/\Row w o 5 3 1 vk s.ks.length (eiV s.ks) /\
  MpC w o 6 mc s.cs/\MpS w o 7 mn s.ns
theorem EmW.step {I:Nat->Prop}{w w':World}{o o':Nat->Nat}{rb:Nat}{lv:Value}{s:Em}(h:EmW w o rb lv s)(x:Step I w o w' o')(hi:∀ k,I17 k->¬I k):EmW w' o' rb lv s:=by
 obtain⟨h1,h2,h3,vw,vc,vn,vk,mc,mn,q0,q1,q2,q3,q4,q5,q6⟩:=h;exact⟨h1,h2,h3,vw,vc,vn,vk,mc,mn,q0.step x (hi 1 (by decide)),q1.step x (hi 2 (by decide)),q2.step x (hi 3 (by decide)),q3.step x (hi 4 (by decide)),q4.step x (hi 5 (by decide)),q5.step x (hi 6 (by decide)),q6.step x (hi 7 (by decide))⟩
theorem EmW.below {w w':World}{o:Nat->Nat}{rb:Nat}{lv:Value}{s:Em}(h:EmW w o rb lv s)(b:Below w.heap.size w w'):EmW w' o rb lv s :=
 h.step (Step.ofBelow (I:=fun _=>False) o b) (fun _ _=>id)
theorem cells8 {w:World}{b:Nat}{x0 x1 x2 x3 x4 x5 x6 x7:Value}{t:TypeId}(h:w.heap[b]?=some (.cells #[x0,x1,x2,x3,x4,x5,x6,x7] t)):(w.cell? ⟨b,0,none⟩=some x0/\w.cell? ⟨b,1,none⟩=some x1/\w.cell? ⟨b,2,none⟩=some x2/\w.cell? ⟨b,3,none⟩=some x3/\w.cell? ⟨b,4,none⟩=some x4/\w.cell? ⟨b,5,none⟩=some x5/\w.cell? ⟨b,6,none⟩=some x6/\w.cell? ⟨b,7,none⟩=some x7)/\∀ j,w.frozen? ⟨b,j,none⟩=false:=by
 refine⟨⟨?_,?_,?_,?_,?_,?_,?_,?_⟩,fun j=>?_⟩<;>simp[World.cell?,World.frozen?,h]
structure EmX (w:World)(o:Nat->Nat)(lv:Value)(ls:List Int):Prop where
 tab:Tab w
 tl:o 2=0
 bar:∀ k:Nat,k<25->w.cell? ⟨0,k,none⟩=some (.int .i64 ([0,0,0,0,0,0,4,5,6,7,8,9,10,0,0,0,0,0,0,0,0,0,20,0,22].getD k 0))
 bl:o 0=0/\0<w.heap.size
 lvs:∃ao cap,lv=.slice ao ls.length cap/\(ls=[]\/∃b off,ao=some ⟨b,off,none⟩/\o b=0/\b<w.heap.size/\∀ j x,ls[j]?=some x->w.cell? ⟨b,off+j,none⟩=some (.int .i64 x))
theorem EmX.step {I:Nat->Prop}{w w':World}{o o':Nat->Nat}{lv:Value}{ls:List Int}(h:EmX w o lv ls)(x:Step I w o w' o')(hi:¬I 0):EmX w' o' lv ls:=by
 obtain⟨h1,h2,h3,⟨h4,h5⟩,ao,cap,h6,h7⟩:=h;have hs:2<w.heap.size:=h1.2.2.2.2.2.2;have hb:=x.block 2 hs (by rw[h2];exact hi);have hb2:=x.block 0 h5 (by rw[h4];exact hi);refine⟨?_,(x.lab _ hs).trans h2,fun k hk=>(World.cell?_of_block (a:=⟨0,k,none⟩) hb2).trans (h3 k hk),⟨(x.lab _ h5).trans h4,Nat.lt_of_lt_of_le h5 x.size⟩,ao,cap,h6,?_⟩
 ·obtain⟨e0,e1,e2,e3,e4,e5,e6⟩:=h1;exact⟨(World.cell?_of_block (a:=⟨2,0,none⟩) hb).trans e0,(World.cell?_of_block (a:=⟨2,1,none⟩) hb).trans e1,(World.cell?_of_block (a:=⟨2,2,none⟩) hb).trans e2,(World.cell?_of_block (a:=⟨2,3,none⟩) hb).trans e3,(World.cell?_of_block (a:=⟨2,4,none⟩) hb).trans e4,(World.cell?_of_block (a:=⟨2,5,none⟩) hb).trans e5,Nat.lt_of_lt_of_le e6 x.size⟩
 ·rcases h7 with h7|⟨b,off,e1,e2,e3,e4⟩
  ·exact .inl h7
  ·exact .inr ⟨b,off,e1,(x.lab b e3).trans e2,Nat.lt_of_lt_of_le e3 x.size,fun j y hy=>(World.cell?_of_block (a:=⟨b,off+j,none⟩) (x.block b e3 (by rw[e2];exact hi))).trans (e4 j y hy)⟩
theorem EmX.below {w w':World}{o:Nat->Nat}{lv:Value}{ls:List Int}(h:EmX w o lv ls)(b:Below w.heap.size w w'):EmX w' o lv ls:=h.step (Step.ofBelow (I:=fun _=>False) o b) id
def PosE (w:World)(o:Nat->Nat)(rb:Nat)(lv:Value)(s:Em)(v:Value)(e:Ending)(w':World):Prop:=e=.returned v/\∃o',EmW w' o' rb lv s/\Step I17 w o w' o'
abbrev SnO (w:World)(o:Nat->Nat)(f:Fs)(ao:Option Addr):Prop:=SlN w (fun b=>o b=0) f ao
theorem SlN.stepO {I:Nat->Prop}{w w':World}{o o':Nat->Nat}{f:Fs}{ao:Option Addr}(h:SnO w o f ao)(x:Step I w o w' o')(hi:¬I 0):SnO w' o' f ao :=
 h.mono (fun k hk hl=>x.block k hl (by rw[hk];exact hi)) x.size (fun k hk hl=>(x.lab k hl).trans hk)
end Go.Proofs.YtnfmpocfakblmaaGreatDoor

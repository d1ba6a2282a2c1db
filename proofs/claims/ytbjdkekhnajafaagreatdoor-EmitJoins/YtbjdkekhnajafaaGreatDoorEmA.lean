import Derived.Test.YtbjdkekhnajafaaGreatDoorEmM
import Derived.Laws.BitsAllLaws
import Derived.Laws.Bits64
import Derived.Laws.ShiftsVarLaws
import Derived.Below
import Derived.IntWalk
import Derived.Lib.LaidTab
set_option maxRecDepth 100000
set_option maxHeartbeats 8000000
namespace Go.Proofs.YtbjdkekhnajafaaGreatDoor
open Go.ChangeShapes Go.WideShapes Go.ChangeAt Go.RowKit Go.Maps
set_option linter.unusedVariables false
set_option linter.unusedSimpArgs false
theorem own_tightE {P:Program}{K:TypeId}{R:Value->Option (DataW Unit × List MemPlace)}{w:World}{b n:Nat}{D:DataW Unit}(h:w.ownsMap P K R b n D):w.ownsMap P K R b (Maps.size D) D:=by
 obtain⟨es,clock,hb,F,hs,rfl⟩:=h;exact⟨es,clock,hb,F,by simp[Maps.size,length_sorted],rfl⟩
theorem own_stepE {P:Program}{K:TypeId}{R:Value->Option (DataW Unit × List MemPlace)}{w w':World}{o o':Nat->Nat}{I:Nat->Prop}{b n:Nat}{D:DataW Unit}(h:w.ownsMap P K R b n D)(s:Step I w o w' o')(hi:¬I (o b)):w'.ownsMap P K R b n D:=by
 have hlt:=h.lt;obtain⟨es,clock,hb,F,hs,hD⟩:=h;exact⟨es,clock,(s.block b hlt hi).trans hb,F,hs,hD⟩
theorem turned_stepE {w w':World}{o:Nat->Nat}{b i:Nat}(h:w.mapTurned w' b)(hb:o b=i):Step (fun k=>k=i) w o w' o :=
 let g:=h.grown
 ⟨g.os,g.tape,g.output,g.size,fun _ _=>rfl,fun k hk hn=>g.block k hk (fun e=>hn (by cases e;exact hb))⟩
def plElem:Value->Option (DataW Unit × List MemPlace)
 | .int .i64 a=>some (.lit (.int .i64 a),[])
 | _=>none
theorem plElem_inv {v:Value}{a:Int}{ps:List MemPlace}(h:plElem v=some (.lit (.int .i64 a),ps)):v=.int .i64 a:=by
 unfold plElem at h;split at h
 ·simp at h;rw[h.1]
 ·cases h
theorem plElem_form {v:Value}{y:DataW Unit × List MemPlace}(h:plElem v=some y):∃a,v=.int .i64 a:=by
 unfold plElem at h;split at h
 ·exact⟨_,rfl⟩
 ·cases h
theorem zeroPl (w:World):(zeroValue 3).run Tryz.prog w=.ok (.int .i64 0) w:=by kernel_rfl
theorem intLawE:Keyed Tryz.prog 3:=int_keyed Tryz.underlying3
theorem strLawE:Keyed Tryz.prog 9:=string_keyed Tryz.underlying9
theorem keyI (k:Int)(h:-9223372036854775808<=k/\k<=9223372036854775807):keyOf Tryz.prog 3 (.int .i64 k)=some (.int .i64 k):=keyOf_int_mk Tryz.underlying3 (WalkArith.wf_i64 (by have:=h.1;have:=h.2;omega))
theorem keyS (x:List UInt8)(h:x.length<=maxLen):keyOf Tryz.prog 9 (stv x)=some (.string x):=by
 have:=WideMaps.keyOf_string_mk (P:=Tryz.prog) Tryz.underlying9 (s:=⟨x.toArray⟩) (by rw[show (⟨x.toArray⟩:ByteArray).size=x.toArray.size from rfl];simpa using h)
 simpa using this
theorem idx_new {α:Type}[BEq α][LawfulBEq α]{l:List α}{x:α}(h:x ∉ l):(l++[x]).idxOf x=l.length:=by
 rw[List.idxOf_append,if_neg h];simp
theorem idx_old {α:Type}[BEq α][LawfulBEq α]{l:List α}{x y:α}(h:y ∈ l):(l++[x]).idxOf y=l.idxOf y:=by
 rw[List.idxOf_append,if_pos h]
theorem idx_none {α:Type}[BEq α][LawfulBEq α]{l:List α}{x:α}(h:x ∉ l):l.idxOf x=l.length:=List.idxOf_eq_length h
def MpC (w:World)(o:Nat->Nat)(i b:Nat)(l:List (Int)):Prop :=
 ∃D:DataW Unit,w.ownsMap Tryz.prog 3 plElem b l.length D/\Maps.size D=l.length/\o b=i /\
  ∀ k:Int,Maps.has D (.int .i64 k)=decide (k ∈ l)/\(k ∈ l->D.atKey (.int .i64 k) (.lit (.int .i64 0))=.lit (.int .i64 (l.idxOf k:Nat)))
theorem MpC.step {I:Nat->Prop}{w w':World}{o o':Nat->Nat}{i b:Nat}{l:List (Int)}(h:MpC w o i b l)(s:Step I w o w' o')(hi:¬I i):MpC w' o' i b l:=by
 obtain⟨D,h1,h2,h3,h4⟩:=h;exact⟨D,own_stepE h1 s (by rw[h3];exact hi),h2,(s.lab b h1.lt).trans h3,h4⟩
theorem MpC.made (w:World)(o:Nat->Nat)(i:Nat):MpC (w.alloc (.map #[] 0)) (newLab w o i) i w.heap.size [] :=
 ⟨.map [],World.ownsMap_made _ _ _ _,rfl,newLab_new (Nat.le_refl _),fun k=>⟨by simp[Maps.has],fun h=>by simp at h⟩⟩
theorem MpC.look {w:World}{o:Nat->Nat}{i b:Nat}{l:List (Int)}(h:MpC w o i b l)(k:Int)(hk:-9223372036854775808<=k/\k<=9223372036854775807)(hm:k ∈ l) :
  (Instr.lookup 92 (.map (some b)) (.int .i64 k) true).run Tryz.prog w=.ok (.tuple #[.int .i64 (l.idxOf k:Nat),.bool true]) w:=by
 obtain⟨D,h1,h2,h3,h4⟩:=h;obtain⟨c,ps,hr,hc⟩:=h1.look_ok intLawE Tryz.underlying92 (zeroPl w) (zd:=.lit (.int .i64 0)) (zp:=[]) rfl (keyI k hk);rw[(h4 k).2 hm] at hc;rw[(h4 k).1,plElem_inv hc,decide_eq_true hm] at hr;exact hr
theorem MpC.miss {w:World}{o:Nat->Nat}{i b:Nat}{l:List (Int)}(h:MpC w o i b l)(k:Int)(hk:-9223372036854775808<=k/\k<=9223372036854775807)(hm:k ∉ l) :
  ∃x:Int,(Instr.lookup 92 (.map (some b)) (.int .i64 k) true).run Tryz.prog w=.ok (.tuple #[.int .i64 x,.bool false]) w:=by
 obtain⟨D,h1,h2,h3,h4⟩:=h;obtain⟨c,ps,hr,hc⟩:=h1.look_ok intLawE Tryz.underlying92 (zeroPl w) (zd:=.lit (.int .i64 0)) (zp:=[]) rfl (keyI k hk);obtain⟨x,rfl⟩:=plElem_form hc;rw[(h4 k).1,decide_eq_false hm] at hr;exact⟨x,hr⟩
theorem MpC.put {w:World}{o:Nat->Nat}{i b:Nat}{l:List (Int)}(h:MpC w o i b l)(k:Int)(hk:-9223372036854775808<=k/\k<=9223372036854775807)(hm:k ∉ l)(hl:l.length<=1000000000) :
  ∃w',(Instr.mapUpdate 92 (.map (some b)) (.int .i64 k) (.int .i64 (l.length:Nat))).run Tryz.prog w=.ok () w'/\MpC w' o i b (l++[k])/\Step (fun k=>k=i) w o w' o:=by
 obtain⟨D,h1,h2,h3,h4⟩:=h;obtain⟨w',hr,ho,ht⟩:=h1.store (val:=.int .i64 (l.length:Nat)) (d:=.lit (.int .i64 (l.length:Nat))) (ps:=[]) intLawE Tryz.underlying92 (by unfold maxLen;omega) (keyI k hk) rfl;have hsz:Maps.size (D.put (.int .i64 k) (.lit (.int .i64 (l.length:Nat))))=l.length+1:=by
  rw[size_put (h1.tidy intLawE),h2,(h4 k).1,decide_eq_false hm];simp
 have ho':=own_tightE ho;rw[hsz] at ho';refine⟨w',hr,⟨_,by rw[List.length_append];exact ho',by rw[hsz,List.length_append];rfl,h3,fun y=>?_⟩,turned_stepE ht h3⟩;by_cases e:y=k
 ·subst e;rw[has_put_same h1.isMap (show WideAt.IsKeyLit (.int .i64 y) from trivial),atKey_put_same h1.isMap (show WideAt.IsKeyLit (.int .i64 y) from trivial),idx_new hm];exact⟨by simp,fun _=>rfl⟩
 ·have hne:Lit.int .i64 y≠Lit.int .i64 k:=fun h=>e (by simpa using h);rw[has_put_other hne,atKey_put_other hne,(h4 y).1];refine⟨by simp[e],fun hy=>?_⟩;have hy2:y ∈ l:=by simpa [e] using hy
  rw[idx_old hy2];exact(h4 y).2 hy2
def MpS (w:World)(o:Nat->Nat)(i b:Nat)(l:List (List UInt8)):Prop :=
 ∃D:DataW Unit,w.ownsMap Tryz.prog 9 plElem b l.length D/\Maps.size D=l.length/\o b=i /\
  ∀ k:List UInt8,Maps.has D (.string k)=decide (k ∈ l)/\(k ∈ l->D.atKey (.string k) (.lit (.int .i64 0))=.lit (.int .i64 (l.idxOf k:Nat)))
theorem MpS.step {I:Nat->Prop}{w w':World}{o o':Nat->Nat}{i b:Nat}{l:List (List UInt8)}(h:MpS w o i b l)(s:Step I w o w' o')(hi:¬I i):MpS w' o' i b l:=by
 obtain⟨D,h1,h2,h3,h4⟩:=h;exact⟨D,own_stepE h1 s (by rw[h3];exact hi),h2,(s.lab b h1.lt).trans h3,h4⟩
theorem MpS.made (w:World)(o:Nat->Nat)(i:Nat):MpS (w.alloc (.map #[] 0)) (newLab w o i) i w.heap.size [] :=
 ⟨.map [],World.ownsMap_made _ _ _ _,rfl,newLab_new (Nat.le_refl _),fun k=>⟨by simp[Maps.has],fun h=>by simp at h⟩⟩
theorem MpS.look {w:World}{o:Nat->Nat}{i b:Nat}{l:List (List UInt8)}(h:MpS w o i b l)(k:List UInt8)(hk:k.length<=maxLen)(hm:k ∈ l) :
  (Instr.lookup 93 (.map (some b)) (stv k) true).run Tryz.prog w=.ok (.tuple #[.int .i64 (l.idxOf k:Nat),.bool true]) w:=by
 obtain⟨D,h1,h2,h3,h4⟩:=h;obtain⟨c,ps,hr,hc⟩:=h1.look_ok strLawE Tryz.underlying93 (zeroPl w) (zd:=.lit (.int .i64 0)) (zp:=[]) rfl (keyS k hk);rw[(h4 k).2 hm] at hc;rw[(h4 k).1,plElem_inv hc,decide_eq_true hm] at hr;exact hr
theorem MpS.miss {w:World}{o:Nat->Nat}{i b:Nat}{l:List (List UInt8)}(h:MpS w o i b l)(k:List UInt8)(hk:k.length<=maxLen)(hm:k ∉ l) :
  ∃x:Int,(Instr.lookup 93 (.map (some b)) (stv k) true).run Tryz.prog w=.ok (.tuple #[.int .i64 x,.bool false]) w:=by
 obtain⟨D,h1,h2,h3,h4⟩:=h;obtain⟨c,ps,hr,hc⟩:=h1.look_ok strLawE Tryz.underlying93 (zeroPl w) (zd:=.lit (.int .i64 0)) (zp:=[]) rfl (keyS k hk);obtain⟨x,rfl⟩:=plElem_form hc;rw[(h4 k).1,decide_eq_false hm] at hr;exact⟨x,hr⟩
theorem MpS.put {w:World}{o:Nat->Nat}{i b:Nat}{l:List (List UInt8)}(h:MpS w o i b l)(k:List UInt8)(hk:k.length<=maxLen)(hm:k ∉ l)(hl:l.length<=1000000000) :
  ∃w',(Instr.mapUpdate 93 (.map (some b)) (stv k) (.int .i64 (l.length:Nat))).run Tryz.prog w=.ok () w'/\MpS w' o i b (l++[k])/\Step (fun k=>k=i) w o w' o:=by
 obtain⟨D,h1,h2,h3,h4⟩:=h;obtain⟨w',hr,ho,ht⟩:=h1.store (val:=.int .i64 (l.length:Nat)) (d:=.lit (.int .i64 (l.length:Nat))) (ps:=[]) strLawE Tryz.underlying93 (by unfold maxLen;omega) (keyS k hk) rfl;have hsz:Maps.size (D.put (.string k) (.lit (.int .i64 (l.length:Nat))))=l.length+1:=by
  rw[size_put (h1.tidy strLawE),h2,(h4 k).1,decide_eq_false hm];simp
 have ho':=own_tightE ho;rw[hsz] at ho';refine⟨w',hr,⟨_,by rw[List.length_append];exact ho',by rw[hsz,List.length_append];rfl,h3,fun y=>?_⟩,turned_stepE ht h3⟩;by_cases e:y=k
 ·subst e;rw[has_put_same h1.isMap (show WideAt.IsKeyLit (.string y) from trivial),atKey_put_same h1.isMap (show WideAt.IsKeyLit (.string y) from trivial),idx_new hm];exact⟨by simp,fun _=>rfl⟩
 ·have hne:Lit.string y≠Lit.string k:=fun h=>e (by simpa using h);rw[has_put_other hne,atKey_put_other hne,(h4 y).1];refine⟨by simp[e],fun hy=>?_⟩;have hy2:y ∈ l:=by simpa [e] using hy
  rw[idx_old hy2];exact(h4 y).2 hy2
open Go.RowKit
theorem wrap64_small (n:Int)(h1:-9223372036854775808<=n)(h2:n<=9223372036854775807):wrap64 n=n:=by
 unfold wrap64;omega
theorem or_join (x y:Int)(h1:0<=x)(h2:x<68719476736)(h3:0<=y)(h4:y<268435456):bits .or .u64 (x*268435456) y=x*268435456+y:=by
 rw[u64_or _ _ (by omega) (by omega) (by omega) (by omega),nat_join 28 _ _ (by omega) (by omega)];omega
theorem word_eq (o a b:Int)(h1:0<=o)(h2:o<=255)(h3:0<=a)(h4:a<=268435455)(h5:0<=b)(h6:b<=268435455) :
  bits .or .u64 (bits .or .u64 (o*72057594037927936) (a*268435456)) b=(o*268435456+a)*268435456+b:=by
 have e:bits .or .u64 (o*72057594037927936) (a*268435456)=(o*268435456+a)*268435456:=by
  rw[u64_or _ _ (by omega) (by omega) (by omega) (by omega),nat_join 56 _ _ (by omega) (by omega)];omega
 rw[e,or_join _ _ (by omega) (by omega) h5 (by omega)]
theorem part0_eq (u:Int)(h1:0<=u)(h2:u<18446744073709551616):wrap64 (bits .and .u64 (u / 72057594037927936) 255)=u / 72057594037927936:=by
 rw[u64_and _ _ (by omega) (by omega) (by omega) (by omega),show (255:Int).toNat=255 from rfl,nat_mask8,wrap64_small _ (by omega) (by omega)];omega
theorem and_mask28 (x:Nat):x &&& 268435455=x % 268435456:=Nat.and_two_pow_sub_one_eq_mod x 28
theorem part1_eq (u:Int)(h1:0<=u)(h2:u<18446744073709551616):wrap64 (bits .and .u64 (u / 268435456) 268435455)=u / 268435456 % 268435456:=by
 rw[u64_and _ _ (by omega) (by omega) (by omega) (by omega),show (268435455:Int).toNat=268435455 from rfl,and_mask28,wrap64_small _ (by omega) (by omega)];omega
theorem part2_eq (u:Int)(h1:0<=u)(h2:u<18446744073709551616):wrap64 (bits .and .u64 u 268435455)=u % 268435456:=by
 rw[u64_and _ _ (by omega) (by omega) (by omega) (by omega),show (268435455:Int).toNat=268435455 from rfl,and_mask28,wrap64_small _ (by omega) (by omega)];omega
open Go.ChangeShapes Go.WideShapes Go.ChangeAt Go.RowKit
theorem gTab : Tryz.prog.globalNamed "isthmus/pack.fields" = some 2 := by kernel_rfl
theorem gTabType:(Tryz.prog.globals[2]?).map (·.type)=some 264:=by kernel_rfl
theorem cellsTab:Tryz.prog.cellsOf 264=6:=by kernel_rfl
theorem cellsField:Tryz.prog.cellsOf 263=2:=by kernel_rfl
theorem cellsUint:Tryz.prog.cellsOf 202=1:=by kernel_rfl
theorem cellsUint64:Tryz.prog.cellsOf 54=1:=by kernel_rfl
def Tab (w:World):Prop :=
 w.cell? ⟨2,0,none⟩=some (.int .u64 56)/\w.cell? ⟨2,1,none⟩=some (.int .u64 255)/\w.cell? ⟨2,2,none⟩=some (.int .u64 28) /\
 w.cell? ⟨2,3,none⟩=some (.int .u64 268435455)/\w.cell? ⟨2,4,none⟩=some (.int .u64 0)/\w.cell? ⟨2,5,none⟩=some (.int .u64 268435455)/\2<w.heap.size
theorem Tab.below {w w':World}(h:Tab w)(hb:Below w.heap.size w w'):Tab w':=by
 obtain⟨h0,h1,h2,h3,h4,h5,hs⟩:=h;refine⟨?_,?_,?_,?_,?_,?_,Nat.lt_of_lt_of_le hs hb.size⟩
 ·exact(hb.cell (p:=⟨2,0,none⟩) hs).trans h0
 ·exact(hb.cell (p:=⟨2,1,none⟩) hs).trans h1
 ·exact(hb.cell (p:=⟨2,2,none⟩) hs).trans h2
 ·exact(hb.cell (p:=⟨2,3,none⟩) hs).trans h3
 ·exact(hb.cell (p:=⟨2,4,none⟩) hs).trans h4
 ·exact(hb.cell (p:=⟨2,5,none⟩) hs).trans h5
theorem below_drewN (w:World)(n:Nat):Below w.heap.size w (w.drewN n):=by
 have key:∀ (n:Nat) (v:World),Below w.heap.size w v->Below w.heap.size w (v.drewN n):=by
  intro n
  induction n with
  | zero=>intro v h;exact h
  | succ n ih=>intro v h;exact(ih v h).drew
 exact key n w (Below.refl _ _)
theorem bjoin {a b c:World}(h:Below a.heap.size a b)(k:Below b.heap.size b c):Below a.heap.size a c:=h.trans (k.mono h.size)
theorem fits_yes0 (n:Int)(w:World)(hT:Tab w)(h1:0<=n)(h2:n<=255) :
  Calls Tryz.prog 158 #[.int .i64 0,.int .i64 n] w fun e w'=>e=.returned (.bool true)/\w'=w:=by
 have hc:=hT.2.1;go_enter Tryz.func158,Tryz.ntmps158;go_wp2;go_ret;exact⟨ret_bool (by simp;try omega),rfl⟩
theorem fits_yes1 (n:Int)(w:World)(hT:Tab w)(h1:0<=n)(h2:n<=268435455) :
  Calls Tryz.prog 158 #[.int .i64 1,.int .i64 n] w fun e w'=>e=.returned (.bool true)/\w'=w:=by
 have hc:=hT.2.2.2.1;go_enter Tryz.func158,Tryz.ntmps158;go_wp2;go_ret;exact⟨ret_bool (by simp;try omega),rfl⟩
theorem fits_yes2 (n:Int)(w:World)(hT:Tab w)(h1:0<=n)(h2:n<=268435455) :
  Calls Tryz.prog 158 #[.int .i64 2,.int .i64 n] w fun e w'=>e=.returned (.bool true)/\w'=w:=by
 have hc:=hT.2.2.2.2.2.1;go_enter Tryz.func158,Tryz.ntmps158;go_wp2;go_ret;exact⟨ret_bool (by simp;try omega),rfl⟩
theorem lay0 (n:Int)(w:World)(hT:Tab w)(h1:0<=n)(h2:n<=255) :
  Calls Tryz.prog 159 #[.int .i64 0,.int .i64 n] w fun e w'=>e=.returned (.int .u64 (n*72057594037927936))/\w'=w:=by
 have hc:=hT.1;go_enter Tryz.func159,Tryz.ntmps159;go_wp2;go_ret;exact⟨rfl,rfl⟩
theorem lay1 (n:Int)(w:World)(hT:Tab w)(h1:0<=n)(h2:n<=268435455) :
  Calls Tryz.prog 159 #[.int .i64 1,.int .i64 n] w fun e w'=>e=.returned (.int .u64 (n*268435456))/\w'=w:=by
 have hc:=hT.2.2.1;go_enter Tryz.func159,Tryz.ntmps159;go_wp2;go_ret;exact⟨rfl,rfl⟩
theorem lay2 (n:Int)(w:World)(hT:Tab w)(h1:0<=n)(h2:n<=268435455) :
  Calls Tryz.prog 159 #[.int .i64 2,.int .i64 n] w fun e w'=>e=.returned (.int .u64 n)/\w'=w:=by
 have hc:=hT.2.2.2.2.1;go_enter Tryz.func159,Tryz.ntmps159;go_wp2;go_ret;exact⟨ret_int (by simp),rfl⟩
theorem part0 (u:Int)(w:World)(hT:Tab w)(h1:0<=u)(h2:u<18446744073709551616) :
  Calls Tryz.prog 229 #[.int .i64 0,.int .u64 u] w fun e w'=>e=.returned (.int .i64 (u / 72057594037927936))/\Below w.heap.size w w':=by
 have hc:=hT.1;have hd:=hT.2.1;go_enter Tryz.func229,Tryz.ntmps229;go_wp2
 go_quiet (fail)
 go_wp2;go_ret;exact⟨ret_int (part0_eq u h1 h2),below_drewN _ _⟩
theorem part1 (u:Int)(w:World)(hT:Tab w)(h1:0<=u)(h2:u<18446744073709551616) :
  Calls Tryz.prog 229 #[.int .i64 1,.int .u64 u] w fun e w'=>e=.returned (.int .i64 (u / 268435456 % 268435456))/\Below w.heap.size w w':=by
 have hc:=hT.2.2.1;have hd:=hT.2.2.2.1;go_enter Tryz.func229,Tryz.ntmps229;go_wp2
 go_quiet (fail)
 go_wp2;go_ret;exact⟨ret_int (part1_eq u h1 h2),below_drewN _ _⟩
theorem part2 (u:Int)(w:World)(hT:Tab w)(h1:0<=u)(h2:u<18446744073709551616) :
  Calls Tryz.prog 229 #[.int .i64 2,.int .u64 u] w fun e w'=>e=.returned (.int .i64 (u % 268435456))/\Below w.heap.size w w':=by
 have hc:=hT.2.2.2.2.1;have hd:=hT.2.2.2.2.2.1;go_enter Tryz.func229,Tryz.ntmps229;go_wp2
 go_quiet (fail)
 go_wp2;go_ret;exact⟨ret_int (by simpa using part2_eq u h1 h2),below_drewN _ _⟩
theorem ret_two {k l:IntKind}{a b c:Int}(h:a=b):Ending.returned (.tuple #[.int k a,.int l c])=.returned (.tuple #[.int k b,.int l c]):=by rw[h]
theorem word_yes (o a b:Int)(w:World)(hT:Tab w)(h1:0<=o)(h2:o<=255)(h3:0<=a)(h4:a<=268435455)(h5:0<=b)(h6:b<=268435455) :
  Calls Tryz.prog 98 #[.int .i64 o,.int .i64 a,.int .i64 b] w fun e w' =>
   e=.returned (.tuple #[.int .u64 ((o*268435456+a)*268435456+b),.int .i64 0])/\w'=w:=by
 go_enter Tryz.func98,Tryz.ntmps98;go_wp2_with fail;refine(fits_yes0 o w hT h1 h2).mono ?_;rintro e w1 ⟨rfl,rfl⟩;go_wp2_with fail;refine(fits_yes1 a _ hT h3 h4).mono ?_;rintro e w1 ⟨rfl,rfl⟩;go_wp2_with fail;refine(fits_yes2 b _ hT h5 h6).mono ?_;rintro e w1 ⟨rfl,rfl⟩;go_wp2_with fail;refine(lay0 o _ hT h1 h2).mono ?_;rintro e w1 ⟨rfl,rfl⟩;go_wp2_with fail;refine(lay1 a _ hT h3 h4).mono ?_;rintro e w1 ⟨rfl,rfl⟩;go_wp2_with fail;refine(lay2 b _ hT h5 h6).mono ?_;rintro e w1 ⟨rfl,rfl⟩;go_wp2;go_ret2;exact⟨ret_two (word_eq o a b h1 h2 h3 h4 h5 h6),rfl⟩
theorem parts_any (u:Int)(w:World)(hT:Tab w)(h1:0<=u)(h2:u<18446744073709551616) :
  Calls Tryz.prog 169 #[.int .u64 u] w fun e w' =>
   e=.returned (.tuple #[.int .i64 (u / 72057594037927936),.int .i64 (u / 268435456 % 268435456),.int .i64 (u % 268435456)])/\Below w.heap.size w w':=by
 go_enter Tryz.func169,Tryz.ntmps169;go_wp2_with fail;refine(part0 u w hT h1 h2).mono ?_;rintro e w1 ⟨rfl,hb1⟩;have hT1:=hT.below hb1;go_wp2_with fail;refine(part1 u w1 hT1 h1 h2).mono ?_;rintro e w2 ⟨rfl,hb2⟩;have hT2:=hT1.below hb2;go_wp2_with fail;refine(part2 u w2 hT2 h1 h2).mono ?_;rintro e w3 ⟨rfl,hb3⟩;go_wp2;go_ret3;exact⟨rfl,bjoin (bjoin hb1 hb2) hb3⟩
abbrev I17:Nat->Prop:=fun k=>1<=k/\k<=7
theorem I17_of {i:Nat}(h:1<=i/\i<=7):∀ k,k=i->I17 k:=fun k hk=>by subst hk;exact h
def encW (x:Wo):Int:=((x.op:Int)*268435456+(x.a:Int))*268435456+(x.b:Int)
def Wo.ok (x:Wo):Prop:=x.op<=255/\x.a<=268435455/\x.b<=268435455
theorem encW_bd {x:Wo}(h:x.ok):0<=encW x/\encW x<18446744073709551616:=by
 obtain⟨h1,h2,h3⟩:=h;unfold encW;omega
theorem encW_parts {x:Wo}(h:x.ok):encW x / 72057594037927936=(x.op:Int)/\encW x / 268435456 % 268435456=(x.a:Int)/\encW x % 268435456=(x.b:Int):=by
 obtain⟨h1,h2,h3⟩:=h;unfold encW;omega
def woV (l:List Wo):List Value:=l.map fun x=>.int .u64 (encW x)
def eiV (l:List Int):List Value:=l.map (.int .i64 ·)
def esV (l:List (List UInt8)):List Value:=l.map stv
structure EmW (w:World)(o:Nat->Nat)(rb:Nat)(lv:Value)(s:Em):Prop where
 ok:∀ x ∈ s.ws,x.ok
 ci:∀ n ∈ s.cs,-9223372036854775808<=n/\n<=9223372036854775807
 ni:∀ x ∈ s.ns,x.length<=maxLen
 mem:∃vw vc vn vk mc mn,Blk w o 1 rb (.cells #[vw,vc,vn,vk,.map (some mc),.map (some mn),lv,.int .i64 (s.dp:Nat)] 95) /\
  Row w o 2 54 1 vw s.ws.length (woV s.ws)/\Row w o 3 3 1 vc s.cs.length (eiV s.cs)/\Row w o 4 9 1 vn s.ns.length (esV s.ns)/\Row w o 5 3 1 vk s.ks.length (eiV s.ks) /\
  MpC w o 6 mc s.cs/\MpS w o 7 mn s.ns
theorem EmW.step {I:Nat->Prop}{w w':World}{o o':Nat->Nat}{rb:Nat}{lv:Value}{s:Em}(h:EmW w o rb lv s)(x:Step I w o w' o')(hi:∀ k,I17 k->¬I k):EmW w' o' rb lv s:=by
 obtain⟨h1,h2,h3,vw,vc,vn,vk,mc,mn,q0,q1,q2,q3,q4,q5,q6⟩:=h;exact⟨h1,h2,h3,vw,vc,vn,vk,mc,mn,q0.step x (hi 1 (by decide)),q1.step x (hi 2 (by decide)),q2.step x (hi 3 (by decide)),q3.step x (hi 4 (by decide)),q4.step x (hi 5 (by decide)),q5.step x (hi 6 (by decide)),q6.step x (hi 7 (by decide))⟩
theorem EmW.below {w w':World}{o:Nat->Nat}{rb:Nat}{lv:Value}{s:Em}(h:EmW w o rb lv s)(b:Below w.heap.size w w'):EmW w' o rb lv s :=
 h.step (Step.ofBelow (I:=fun _=>False) o b) (fun _ _=>id)
theorem cells8 {w:World}{b:Nat}{x0 x1 x2 x3 x4 x5 x6 x7:Value}{t:TypeId}(h:w.heap[b]?=some (.cells #[x0,x1,x2,x3,x4,x5,x6,x7] t)):(w.cell? ⟨b,0,none⟩=some x0/\w.cell? ⟨b,1,none⟩=some x1/\w.cell? ⟨b,2,none⟩=some x2/\w.cell? ⟨b,3,none⟩=some x3/\w.cell? ⟨b,4,none⟩=some x4/\w.cell? ⟨b,5,none⟩=some x5/\w.cell? ⟨b,6,none⟩=some x6/\w.cell? ⟨b,7,none⟩=some x7)/\∀ j,w.frozen? ⟨b,j,none⟩=false:=by
 refine⟨⟨?_,?_,?_,?_,?_,?_,?_,?_⟩,fun j=>?_⟩<;>simp[World.cell?,World.frozen?,h]
structure EmX (w:World)(o:Nat->Nat)(lv:Value)(ls:List Int):Prop where
 tab:Tab w
 tl:o 2=0
 bar:∀ k:Nat,k<25->w.cell? ⟨0,k,none⟩=some (.int .i64 ([0,0,0,0,0,0,4,5,6,7,8,9,10,0,0,0,0,0,0,0,0,0,20,0,22].getD k 0))
 bl:o 0=0/\0<w.heap.size
 lvs:∃ao cap,lv=.slice ao ls.length cap/\(ls=[]\/∃b off,ao=some ⟨b,off,none⟩/\o b=0/\b<w.heap.size/\∀ j x,ls[j]?=some x->w.cell? ⟨b,off+j,none⟩=some (.int .i64 x))
theorem EmX.step {I:Nat->Prop}{w w':World}{o o':Nat->Nat}{lv:Value}{ls:List Int}(h:EmX w o lv ls)(x:Step I w o w' o')(hi:¬I 0):EmX w' o' lv ls:=by
 obtain⟨h1,h2,h3,⟨h4,h5⟩,ao,cap,h6,h7⟩:=h;have hs:2<w.heap.size:=h1.2.2.2.2.2.2;have hb:=x.block 2 hs (by rw[h2];exact hi);have hb2:=x.block 0 h5 (by rw[h4];exact hi);refine⟨?_,(x.lab _ hs).trans h2,fun k hk=>(World.cell?_of_block (a:=⟨0,k,none⟩) hb2).trans (h3 k hk),⟨(x.lab _ h5).trans h4,Nat.lt_of_lt_of_le h5 x.size⟩,ao,cap,h6,?_⟩
 ·obtain⟨e0,e1,e2,e3,e4,e5,e6⟩:=h1;exact⟨(World.cell?_of_block (a:=⟨2,0,none⟩) hb).trans e0,(World.cell?_of_block (a:=⟨2,1,none⟩) hb).trans e1,(World.cell?_of_block (a:=⟨2,2,none⟩) hb).trans e2,(World.cell?_of_block (a:=⟨2,3,none⟩) hb).trans e3,(World.cell?_of_block (a:=⟨2,4,none⟩) hb).trans e4,(World.cell?_of_block (a:=⟨2,5,none⟩) hb).trans e5,Nat.lt_of_lt_of_le e6 x.size⟩
 ·rcases h7 with h7|⟨b,off,e1,e2,e3,e4⟩
  ·exact .inl h7
  ·exact .inr ⟨b,off,e1,(x.lab b e3).trans e2,Nat.lt_of_lt_of_le e3 x.size,fun j y hy=>(World.cell?_of_block (a:=⟨b,off+j,none⟩) (x.block b e3 (by rw[e2];exact hi))).trans (e4 j y hy)⟩
theorem EmX.below {w w':World}{o:Nat->Nat}{lv:Value}{ls:List Int}(h:EmX w o lv ls)(b:Below w.heap.size w w'):EmX w' o lv ls:=h.step (Step.ofBelow (I:=fun _=>False) o b) id
def PosE (w:World)(o:Nat->Nat)(rb:Nat)(lv:Value)(s:Em)(v:Value)(e:Ending)(w':World):Prop:=e=.returned v/\∃o',EmW w' o' rb lv s/\Step I17 w o w' o'
abbrev SnO (w:World)(o:Nat->Nat)(f:Fs)(ao:Option Addr):Prop:=SlN w (fun b=>o b=0) f ao
theorem SlN.stepO {I:Nat->Prop}{w w':World}{o o':Nat->Nat}{f:Fs}{ao:Option Addr}(h:SnO w o f ao)(x:Step I w o w' o')(hi:¬I 0):SnO w' o' f ao :=
 h.mono (fun k hk hl=>x.block k hl (by rw[hk];exact hi)) x.size (fun k hk hl=>(x.lab k hl).trans hk)
theorem infoEw:(Tryz.prog.info? 54).map (fun i=>(i.zero,i.size,i.bytes))=some (some (.int .u64 0),1,8):=by kernel_rfl
theorem infoEi:(Tryz.prog.info? 3).map (fun i=>(i.zero,i.size,i.bytes))=some (some (.int .i64 0),1,8):=by kernel_rfl
theorem infoEs:(Tryz.prog.info? 9).map (fun i=>(i.zero,i.size,i.bytes))=some (some (.string ⟨#[]⟩),1,16):=by kernel_rfl
theorem one1E (v:Value)(h:v.oneCell'=true):∀ u ∈ [v],u.oneCell'=true:=by
 intro u hu;simp at hu;subst hu;exact h
theorem noF:∀ k,I17 k->¬(fun _:Nat=>False) k:=fun _ _=>id
theorem lay_c (op a b:Nat)(w:World)(o:Nat->Nat)(rb:Nat)(lv:Value)(ls:List Int)(s:Em)(hop:op<=255)(ha:a<=268435455)(hb:b<=268435455)(hm:s.mes<=100000000)(X:EmX w o lv ls)(h:EmW w o rb lv s) :
  Calls Tryz.prog 47 #[.pointer (some ⟨rb,0,none⟩),.int .i64 (op:Nat),.int .i64 (a:Nat),.int .i64 (b:Nat)] w (PosE w o rb lv (s.lay op a b) (.int .i64 (s.ws.length:Nat))):=by
 obtain⟨h1,h2,h3,vw,vc,vn,vk,mc,mn,q0,q1,q2,q3,q4,q5,q6⟩:=h;obtain⟨ii,i1,i2,i3,i4⟩:=info_parts infoEw;obtain⟨⟨c0,c1,c2,c3,c4,c5,c6,c7⟩,cf⟩:=cells8 q0.1;have HW:=word_yes (op:Int) (a:Int) (b:Int) w X.tab (by omega) (by omega) (by omega) (by omega) (by omega) (by omega);have hl:s.ws.length<=100000000:=by unfold Em.mes at hm;omega
 have hx:Hid ((⟨op,a,b⟩:Wo).ok):=⟨hop,ha,hb⟩
 have hn1:s.ws.length+1<=maxLen:=by unfold maxLen;omega
 have hn2:(s.ws.length+1)*8<=140737488355328:=by omega
 have he:(((op:Int)*268435456+(a:Int))*268435456+(b:Int))=encW ⟨op,a,b⟩:=rfl;rw[he] at HW;have hwv:Hid (woV (s.lay op a b).ws=woV s.ws++[.int .u64 (encW ⟨op,a,b⟩)]):=by show _=_;simp[woV,Em.lay]
 generalize encW ⟨op,a,b⟩=ev at *;have q1':=q1.step (Step.ofBelow (I:=fun _=>False) o (b1 w (.cells #[.int .u64 ev] 54))) id;clear he X hm;go_enter Tryz.func47,Tryz.ntmps47;go_wp2_with (first|(go_at_call 98;refine HW.mono ?_;rintro e w1 ⟨rfl,hww⟩;subst hww)|(at_builtin;refine wpList_append_lab rfl (.tmp 23) (.tmp 25) 39 rfl 54 ii (.int .u64 0) 1 8 Tryz.underlying39 i1 i2 i3 i4 rfl (by decide) o 2 vw s.ws.length (woV s.ws) rfl q1' ⟨w1.heap.size,0,none⟩ 1 1 [.int .u64 ev] rfl rfl (new_one _ _ _) (one1E _ rfl) (by decide) hn1 hn2 ?_)|go_in);intro g1 cp w2 o2 R2 S2;have s1:Step (fun k=>k=2) w1 o w2 o2:=(Step.ofBelow o (b1 w1 _)).trans S2;have p0:=q0.step s1 (by decide);have p2:=q2.step s1 (by decide);have p3:=q3.step s1 (by decide);have p4:=q4.step s1 (by decide);have p5:=q5.step s1 (by decide);have p6:=q6.step s1 (by decide);obtain⟨⟨d0,d1,d2,d3,d4,d5,d6,d7⟩,df⟩:=cells8 p0.1;have df0:=df 0;have s3:Step (fun k=>k=1) w2 o2 (w2.setCell ⟨rb,0,none⟩ (.slice (some ⟨g1,0,none⟩) (s.ws.length+1) cp)) o2:=setStep _ w2 o2 ⟨rb,0,none⟩ _ p0.2;have HF:Hid (EmW (w2.setCell ⟨rb,0,none⟩ (.slice (some ⟨g1,0,none⟩) (s.ws.length+1) cp)) o2 rb lv (s.lay op a b)/\Step I17 w1 o (w2.setCell ⟨rb,0,none⟩ (.slice (some ⟨g1,0,none⟩) (s.ws.length+1) cp)) o2):=by
  refine⟨⟨fun x hx2=>?_,h2,h3,_,vc,vn,vk,mc,mn,p0.set 0 _,?_,p2.step s3 (by decide),p3.step s3 (by decide),p4.step s3 (by decide),p5.step s3 (by decide),p6.step s3 (by decide)⟩,(s1.mono (I17_of (by decide))).trans (s3.mono (I17_of (by decide)))⟩
  ·rcases List.mem_append.1 hx2 with hx2|hx2
   ·exact h1 x hx2
   ·simp at hx2;rw[hx2];exact hx.out
  ·rw[hwv.out]
   have:=R2.step s3 (by decide)
   have e:(s.lay op a b).ws.length=s.ws.length+1:=by simp[Em.lay]
   rw[e];exact this
 have hsub:((s.ws.length+1:Nat):Int)-1=(s.ws.length:Int):=by omega
 clear s1 s3 R2 S2 p0 p2 p3 p4 p5 p6 q0 q1 q2 q3 q4 q5 q6 q1' HW c0 c1 c2 c3 c4 c5 c6 c7 cf;go_wp2;go_ret;exact⟨by first|rfl|(simp;done)|(congr 1;simp),o2,HF.out⟩
theorem next_c (w:World)(o:Nat->Nat)(rb:Nat)(lv:Value)(s:Em)(h:EmW w o rb lv s) :
  Calls Tryz.prog 223 #[.pointer (some ⟨rb,0,none⟩)] w fun e w'=>e=.returned (.int .i64 (s.ws.length:Nat))/\w'=w:=by
 obtain⟨h1,h2,h3,vw,vc,vn,vk,mc,mn,q0,q1,-⟩:=h;obtain⟨⟨c0,c1,c2,c3,c4,c5,c6,c7⟩,cf⟩:=cells8 q0.1;obtain⟨ao,cap,rfl⟩:=q1.form;clear q0 q1;go_enter Tryz.func223,Tryz.ntmps223;go_wp2;go_ret;exact⟨rfl,rfl⟩
abbrev spV (ar u:Nat):Value:=.agg #[.int .i64 (ar:Nat),.int .i64 (u:Nat)]
theorem cells2e {w:World}{b:Nat}{x0 x1:Value}{t:TypeId}(h:w.heap[b]?=some (.cells #[x0,x1] t)):(w.cell? ⟨b,0,none⟩=some x0/\w.cell? ⟨b,1,none⟩=some x1)/\∀ j,w.frozen? ⟨b,j,none⟩=false:=by
 refine⟨⟨?_,?_⟩,fun j=>?_⟩<;>simp[World.cell?,World.frozen?,h]
theorem push_c (op a b ar u:Nat)(w:World)(o:Nat->Nat)(rb:Nat)(lv:Value)(ls:List Int)(s:Em)(hop:op<=255)(ha:a<=268435455)(hb:b<=268435455)(hu:u<=1000000000)(hd:s.dp<=1000000001)(hm:s.mes<=100000000)(X:EmX w o lv ls)(h:EmW w o rb lv s) :
  Calls Tryz.prog 88 #[.pointer (some ⟨rb,0,none⟩),.int .i64 (op:Nat),.int .i64 (a:Nat),.int .i64 (b:Nat),spV ar u] w (PosE w o rb lv (s.push op a b u) (.tuple #[])):=by
 obtain⟨w1,hw1⟩:∃w1,w1=w.alloc (.cells #[.int .i64 (ar:Nat),.int .i64 (u:Nat)] 91):=⟨_,rfl⟩
 obtain⟨g,hg⟩:∃g,g=w.heap.size:=⟨_,rfl⟩
 have s0:∀ {I:Nat->Prop},Step I w o w1 (newLab w o 0):=fun {I}=>by rw[hw1];exact boxStep I w o _
 have B1:Blk w1 (newLab w o 0) 0 g (.cells #[.int .i64 (ar:Nat),.int .i64 (u:Nat)] 91):=by rw[hw1,hg];exact⟨heap_alloc_new _ _,newLab_new (Nat.le_refl _)⟩
 have H1:=h.step (s0 (I:=fun _=>False)) noF;have X1:=X.step (s0 (I:=fun _=>False)) id;have S0:=s0 (I:=I17);generalize newLab w o 0=o1 at *;have HL:=lay_c op a b w1 o1 rb lv ls s hop ha hb hm X1 H1;have HG:=Lib.hid hg;clear s0 h X hg H1 X1;go_enter Tryz.func88,Tryz.ntmps88;go_upto_region 1 with fail;rw[<-hw1,<-HG.out];clear hw1;go_upto_region 2 with (first|(go_at_call 47;refine HL.mono ?_;rintro e w2 ⟨rfl,o2,E2,S2⟩))
 have B2:=B1.step S2 (by decide);obtain⟨h1,h2,h3,vw,vc,vn,vk,mc,mn,q0,q1,q2,q3,q4,q5,q6⟩:=E2;have t3:Step (fun k=>k=1) w2 o2 (w2.setCell ⟨rb,7,none⟩ (.int .i64 (max s.dp (u+1):Nat))).drew o2:=((Step.refl _ w2 o2).setCell ⟨rb,7,none⟩ _ q0.2).drew;have HF:Hid (EmW (w2.setCell ⟨rb,7,none⟩ (.int .i64 (max s.dp (u+1):Nat))).drew o2 rb lv (s.push op a b u)/\Step I17 w o (w2.setCell ⟨rb,7,none⟩ (.int .i64 (max s.dp (u+1):Nat))).drew o2):=by
  have q0d:=(q0.set 7 (.int .i64 (max s.dp (u+1):Nat))).step ((Step.refl (fun _=>False) _ o2).drew) id;exact⟨⟨h1,h2,h3,vw,vc,vn,vk,mc,mn,q0d,q1.step t3 (by decide),q2.step t3 (by decide),q3.step t3 (by decide),q4.step t3 (by decide),q5.step t3 (by decide),q6.step t3 (by decide)⟩,(S0.trans S2).trans (t3.mono (I17_of (by decide)))⟩
 obtain⟨⟨c0,c1,c2,c3,c4,c5,c6,c7⟩,cf⟩:=cells8 q0.1;obtain⟨⟨e0,e1⟩,-⟩:=cells2e B2.1;have cf7:=cf 7;have hdp:(s.lay op a b).dp=s.dp:=rfl;rw[hdp] at c7;have hmx:(if (s.dp:Int)<(u:Int)+1 then (u:Int)+1 else (s.dp:Int))=((max s.dp (u+1):Nat):Int):=by split<;>omega
 have HMX:=Lib.hid hmx;have HMY:Hid (max (s.dp:Int) ((u:Int)+1)=((max s.dp (u+1):Nat):Int)):=by show _=_;omega
 clear t3 q0 q1 q2 q3 q4 q5 q6 B1 B2 HL S2 S0 hmx cf;go_region
 all_goals
  first|rw[HMX.out] | rw[HMY.out]
  go_end0
  exact⟨rfl,o2,HF.out⟩
theorem over_e (ar u v:Nat)(w:World)(hu:u<=1000000000)(hv:v<=1000000000) :
  Calls Tryz.prog 96 #[spV ar u,.int .i64 (v:Nat)] w fun e w'=>e=.returned (spV ar (u+v))/\Below w.heap.size w w':=by
 obtain⟨w1,hw1⟩:∃w1,w1=(w.alloc (.cells #[.int .i64 (ar:Nat),.int .i64 (u:Nat)] 91)).alloc (.cells #[.int .i64 0,.int .i64 0] 91):=⟨_,rfl⟩
 obtain⟨g,hg⟩:∃g,g=w.heap.size:=⟨_,rfl⟩
 have B1:Below g w w1:=by rw[hw1,hg];exact((Below.refl _ w).alloc (Nat.le_refl _) _).alloc (by simp) _
 have e0:w1.heap[g]?=some (.cells #[.int .i64 (ar:Nat),.int .i64 (u:Nat)] 91):=by rw[hw1,hg];exact(heap_alloc_old _ _ (by simp)).trans (heap_alloc_new _ _)
 have e1:w1.heap[g+1]?=some (.cells #[.int .i64 0,.int .i64 0] 91):=by
  have:=heap_alloc_new (w.alloc (.cells #[.int .i64 (ar:Nat),.int .i64 (u:Nat)] 91)) (.cells #[.int .i64 0,.int .i64 0] 91)
  rw[hw1,hg];simpa using this
 obtain⟨⟨c0,c1⟩,cf⟩:=cells2e e0;obtain⟨⟨d0,d1⟩,df⟩:=cells2e e1;have HG:=Lib.hid hg;clear hg;go_enter Tryz.func96,Tryz.ntmps96;go_upto_region 1 with fail;rw[<-hw1,<-HG.out];clear hw1;have z1:=heap_setCell_same _ (g+1) 1 #[.int .i64 (ar:Nat),.int .i64 0] _ (.int .i64 ((u:Int)+(v:Int))) (heap_setCell_same _ (g+1) 0 _ _ (.int .i64 (ar:Nat)) ((heap_setCell_other w1 ⟨g,1,none⟩ (g+1) (.int .i64 ((u:Int)+(v:Int))) (by simp)).trans e1));obtain⟨⟨m0,m1⟩,-⟩:=cells2e z1;have BE:Hid (Below g w (((w1.setCell ⟨g,1,none⟩ (.int .i64 ((u:Int)+(v:Int)))).setCell ⟨g+1,0,none⟩ (.int .i64 (ar:Nat))).setCell ⟨g+1,1,none⟩ (.int .i64 ((u:Int)+(v:Int))))):=((B1.setCell (p:=⟨g,1,none⟩) (Nat.le_refl _) _).setCell (p:=⟨g+1,0,none⟩) (by show g<=g+1;omega) _).setCell (p:=⟨g+1,1,none⟩) (by show g<=g+1;omega) _;clear z1 B1 e0 e1;go_wp2;exact bodyPost_ret (v:=spV ar (u+v)) (by simp[results,Tryz.results96,go_sem,m0,m1]) rfl ⟨rfl,by rw[<-HG.out];exact BE.out⟩
theorem place_c (k:Int)(w:World)(o:Nat->Nat)(rb:Nat)(lv:Value)(ls:List Int)(s:Em)(hk:-9223372036854775808<=k/\k<=9223372036854775807)(hm:s.mes<=100000000)(X:EmX w o lv ls)(h:EmW w o rb lv s) :
  Calls Tryz.prog 89 #[.pointer (some ⟨rb,0,none⟩),.int .i64 k] w (PosE w o rb lv (s.kc k) (.int .i64 (s.cs.idxOf k:Nat))):=by
 have h':=h;obtain⟨h1,h2,h3,vw,vc,vn,vk,mc,mn,q0,q1,q2,q3,q4,q5,q6⟩:=h;obtain⟨ii,i1,i2,i3,i4⟩:=info_parts infoEi;obtain⟨⟨c0,c1,c2,c3,c4,c5,c6,c7⟩,cf⟩:=cells8 q0.1;obtain⟨ao,cap,rfl⟩:=q2.form;have hl:s.cs.length<=100000000:=by unfold Em.mes at hm;omega
 by_cases hin:k ∈ s.cs
 ·have hr:=q5.look k hk hin;have e:s.kc k=s:=by simp[Em.kc,hin]
  rw[e];have HF:=Lib.hid h';clear h' q0 q1 q2 q3 q4 q5 q6 e;go_enter Tryz.func89,Tryz.ntmps89;go_wp2;go_ret;exact⟨rfl,o,HF.out,Step.refl _ _ _⟩
 ·obtain⟨x,hr⟩:=q5.miss k hk hin;obtain⟨w1,hr2,M1,s1⟩:=q5.put k hk hin (by omega);have hn1:s.cs.length+1<=maxLen:=by unfold maxLen;omega
  have hn2:(s.cs.length+1)*8<=140737488355328:=by omega
  have p0:=q0.step s1 (by decide);have pr:=(q2.step s1 (by decide)).step (Step.ofBelow (I:=fun _=>False) o (b1 w1 (.cells #[.int .i64 k] 3))) id;obtain⟨⟨d0,d1,d2,d3,d4,d5,d6,d7⟩,df⟩:=cells8 p0.1;have HX:Hid (s.kc k=⟨s.ws,s.cs++[k],s.ns,s.ks,s.dp⟩/\s.cs.idxOf k=s.cs.length):=⟨by simp[Em.kc,hin],idx_none hin⟩
  clear X;go_enter Tryz.func89,Tryz.ntmps89;go_wp2_with (first|(at_builtin;refine wpList_append_lab rfl (.tmp 35) (.tmp 37) 35 rfl 3 ii (.int .i64 0) 1 8 Tryz.underlying35 i1 i2 i3 i4 rfl (by decide) o 3 (.slice ao s.cs.length cap) s.cs.length (eiV s.cs) rfl pr ⟨w1.heap.size,0,none⟩ 1 1 [.int .i64 k] rfl rfl (new_one _ _ _) (one1E _ rfl) (by decide) hn1 hn2 ?_)|go_in);intro g1 cp w2 o2 R2 S2;have s2:Step (fun k=>k=3) w1 o w2 o2:=(Step.ofBelow o (b1 w1 _)).trans S2;have r0:=p0.step s2 (by decide);obtain⟨⟨d0,d1,d2,d3,d4,d5,d6,d7⟩,df⟩:=cells8 r0.1;have df0:=df 1;have s3:Step (fun k=>k=1) w2 o2 (w2.setCell ⟨rb,1,none⟩ (.slice (some ⟨g1,0,none⟩) (s.cs.length+1) cp)) o2:=setStep _ w2 o2 ⟨rb,1,none⟩ _ r0.2;have HF:Hid (EmW (w2.setCell ⟨rb,1,none⟩ (.slice (some ⟨g1,0,none⟩) (s.cs.length+1) cp)) o2 rb lv (s.kc k)/\Step I17 w o (w2.setCell ⟨rb,1,none⟩ (.slice (some ⟨g1,0,none⟩) (s.cs.length+1) cp)) o2):=by
   rw[HX.out.1];refine⟨⟨h1,?_,h3,vw,_,vn,vk,mc,mn,r0.set 1 _,((q1.step s1 (by decide)).step s2 (by decide)).step s3 (by decide),?_,((q3.step s1 (by decide)).step s2 (by decide)).step s3 (by decide),((q4.step s1 (by decide)).step s2 (by decide)).step s3 (by decide),(M1.step s2 (by decide)).step s3 (by decide),((q6.step s1 (by decide)).step s2 (by decide)).step s3 (by decide)⟩,((s1.mono (I17_of (by decide))).trans (s2.mono (I17_of (by decide)))).trans (s3.mono (I17_of (by decide)))⟩
   ·intro y hy;rcases List.mem_append.1 hy with hy|hy
    ·exact h2 y hy
    ·simp at hy;rw[hy];exact hk
   ·have:=R2.step s3 (by decide)
    have e:(s.cs++[k]).length=s.cs.length+1:=by simp
    have e2:eiV (s.cs++[k])=eiV s.cs++[.int .i64 k]:=by simp[eiV]
    rw[e,e2];exact this
  have HI:Hid (s.cs.idxOf k=s.cs.length):=HX.out.2;clear s1 s2 s3 R2 S2 p0 pr r0 q0 q1 q2 q3 q4 q5 q6 hr hr2 M1 HX;go_wp2;go_ret;exact⟨by rw[HI.out];rfl,o2,HF.out⟩
theorem plname_c (k:List UInt8)(w:World)(o:Nat->Nat)(rb:Nat)(lv:Value)(ls:List Int)(s:Em)(hk:k.length<=maxLen)(hm:s.mes<=100000000)(X:EmX w o lv ls)(h:EmW w o rb lv s) :
  Calls Tryz.prog 157 #[.pointer (some ⟨rb,0,none⟩),stv k] w (PosE w o rb lv (s.kn k) (.int .i64 (s.ns.idxOf k:Nat))):=by
 have h':=h;obtain⟨h1,h2,h3,vw,vc,vn,vk,mc,mn,q0,q1,q2,q3,q4,q5,q6⟩:=h;obtain⟨ii,i1,i2,i3,i4⟩:=info_parts infoEs;obtain⟨⟨c0,c1,c2,c3,c4,c5,c6,c7⟩,cf⟩:=cells8 q0.1;obtain⟨ao,cap,rfl⟩:=q3.form;have hl:s.ns.length<=100000000:=by unfold Em.mes at hm;omega
 by_cases hin:k ∈ s.ns
 ·have hr:=q6.look k hk hin;have e:s.kn k=s:=by simp[Em.kn,hin]
  rw[e];have HF:=Lib.hid h';clear h' q0 q1 q2 q3 q4 q5 q6 e;go_enter Tryz.func157,Tryz.ntmps157;go_wp2;go_ret;exact⟨rfl,o,HF.out,Step.refl _ _ _⟩
 ·obtain⟨x,hr⟩:=q6.miss k hk hin;obtain⟨w1,hr2,M1,s1⟩:=q6.put k hk hin (by omega);have hn1:s.ns.length+1<=maxLen:=by unfold maxLen;omega
  have hn2:(s.ns.length+1)*16<=140737488355328:=by omega
  have p0:=q0.step s1 (by decide);have pr:=(q3.step s1 (by decide)).step (Step.ofBelow (I:=fun _=>False) o (b1 w1 (.cells #[stv k] 9))) id;obtain⟨⟨d0,d1,d2,d3,d4,d5,d6,d7⟩,df⟩:=cells8 p0.1;have HX:Hid (s.kn k=⟨s.ws,s.cs,s.ns++[k],s.ks,s.dp⟩/\s.ns.idxOf k=s.ns.length):=⟨by simp[Em.kn,hin],idx_none hin⟩
  clear X;go_enter Tryz.func157,Tryz.ntmps157;go_wp2_with (first|(at_builtin;refine wpList_append_lab rfl (.tmp 35) (.tmp 37) 40 rfl 9 ii (.string ⟨#[]⟩) 1 16 Tryz.underlying40 i1 i2 i3 i4 rfl (by decide) o 4 (.slice ao s.ns.length cap) s.ns.length (esV s.ns) rfl pr ⟨w1.heap.size,0,none⟩ 1 1 [stv k] rfl rfl (new_one _ _ _) (one1E _ rfl) (by decide) hn1 hn2 ?_)|go_in);intro g1 cp w2 o2 R2 S2;have s2:Step (fun k=>k=4) w1 o w2 o2:=(Step.ofBelow o (b1 w1 _)).trans S2;have r0:=p0.step s2 (by decide);obtain⟨⟨d0,d1,d2,d3,d4,d5,d6,d7⟩,df⟩:=cells8 r0.1;have df0:=df 2;have s3:Step (fun k=>k=1) w2 o2 (w2.setCell ⟨rb,2,none⟩ (.slice (some ⟨g1,0,none⟩) (s.ns.length+1) cp)) o2:=setStep _ w2 o2 ⟨rb,2,none⟩ _ r0.2;have HF:Hid (EmW (w2.setCell ⟨rb,2,none⟩ (.slice (some ⟨g1,0,none⟩) (s.ns.length+1) cp)) o2 rb lv (s.kn k)/\Step I17 w o (w2.setCell ⟨rb,2,none⟩ (.slice (some ⟨g1,0,none⟩) (s.ns.length+1) cp)) o2):=by
   rw[HX.out.1];refine⟨⟨h1,h2,?_,vw,vc,_,vk,mc,mn,r0.set 2 _,((q1.step s1 (by decide)).step s2 (by decide)).step s3 (by decide),((q2.step s1 (by decide)).step s2 (by decide)).step s3 (by decide),?_,((q4.step s1 (by decide)).step s2 (by decide)).step s3 (by decide),((q5.step s1 (by decide)).step s2 (by decide)).step s3 (by decide),(M1.step s2 (by decide)).step s3 (by decide)⟩,((s1.mono (I17_of (by decide))).trans (s2.mono (I17_of (by decide)))).trans (s3.mono (I17_of (by decide)))⟩
   ·intro y hy;rcases List.mem_append.1 hy with hy|hy
    ·exact h3 y hy
    ·simp at hy;rw[hy];exact hk
   ·have:=R2.step s3 (by decide)
    have e:(s.ns++[k]).length=s.ns.length+1:=by simp
    have e2:esV (s.ns++[k])=esV s.ns++[stv k]:=by simp[esV]
    rw[e,e2];exact this
  have HI:Hid (s.ns.idxOf k=s.ns.length):=HX.out.2;clear s1 s2 s3 R2 S2 p0 pr r0 q0 q1 q2 q3 q4 q5 q6 hr hr2 M1 HX;go_wp2;go_ret;exact⟨by rw[HI.out];rfl,o2,HF.out⟩
theorem spot_box {w:World}{g:Nat}{ar u:Nat}(h:w.heap[g]?=some (.cells #[.int .i64 (ar:Nat),.int .i64 (u:Nat)] 91)):w.cell? ⟨g,0,none⟩=some (.int .i64 (ar:Nat))/\w.cell? ⟨g,1,none⟩=some (.int .i64 (u:Nat)):=(cells2e h).1
theorem constant_c (n:Int)(kd ar u:Nat)(w:World)(o:Nat->Nat)(rb:Nat)(lv:Value)(ls:List Int)(s:Em)(hn:-9223372036854775808<=n/\n<=9223372036854775807)(hk:kd<=268435455)(hu:u<=1000000000)(hd:s.dp<=1000000001)(hm:s.mes<=99999998)(X:EmX w o lv ls)(h:EmW w o rb lv s) :
  Calls Tryz.prog 86 #[.pointer (some ⟨rb,0,none⟩),.int .i64 n,.int .i64 (kd:Nat),spV ar u] w (PosE w o rb lv (s.con n kd u) (.tuple #[])):=by
 obtain⟨w1,hw1⟩:∃w1,w1=w.alloc (.cells #[.int .i64 (ar:Nat),.int .i64 (u:Nat)] 91):=⟨_,rfl⟩
 obtain⟨g,hg⟩:∃g,g=w.heap.size:=⟨_,rfl⟩
 have s0:∀ {I:Nat->Prop},Step I w o w1 (newLab w o 0):=fun {I}=>by rw[hw1];exact boxStep I w o _
 have B1:Blk w1 (newLab w o 0) 0 g (.cells #[.int .i64 (ar:Nat),.int .i64 (u:Nat)] 91):=by rw[hw1,hg];exact⟨heap_alloc_new _ _,newLab_new (Nat.le_refl _)⟩
 have H1:=h.step (s0 (I:=fun _=>False)) noF;have X1:=X.step (s0 (I:=fun _=>False)) id;have S0:=s0 (I:=I17);generalize newLab w o 0=o1 at *;have HG:=Lib.hid hg;have kd1:=s.mes_kc n;have kd2:s.cs.idxOf n<=268435455:=by
  have:=List.idxOf_le_length (a:=n) (l:=s.cs)
  unfold Em.mes at hm;omega
 clear s0 h X hg;go_enter Tryz.func86,Tryz.ntmps86;go_upto_region 1 with fail;rw[<-hw1,<-HG.out];clear hw1;have d1:Step (fun _=>False) w1 o1 w1.drew o1:=(Step.refl _ w1 o1).drew;have HC:=place_c n w1.drew o1 rb lv ls s hn (by omega) (X1.step d1 id) (H1.step d1 noF);have B1d:=B1.step d1 id;have SD:Step I17 w o w1.drew o1:=S0.trans ((Step.refl _ w1 o1).drew);have HP:∀ w2 o2,EmW w2 o2 rb lv (s.kc n)->EmX w2 o2 lv ls->Calls Tryz.prog 88 #[.pointer (some ⟨rb,0,none⟩),.int .i64 1,.int .i64 (s.cs.idxOf n:Nat),.int .i64 (kd:Nat),spV ar u] w2 (PosE w2 o2 rb lv (s.con n kd u) (.tuple #[])):=fun w2 o2 E2 X2=>push_c 1 (s.cs.idxOf n) kd ar u w2 o2 rb lv ls (s.kc n) (by omega) kd2 hk hu hd (by omega) X2 E2;obtain⟨a0,a1⟩:=spot_box B1.1;obtain⟨b0,b1⟩:=spot_box B1d.1;have XD:=X1.step d1 id;clear H1 X1 d1 S0 B1;go_region_held3 (fun wx=>wx.cell? ⟨g,0,none⟩=some (.int .i64 (ar:Nat))/\wx.cell? ⟨g,1,none⟩=some (.int .i64 (u:Nat))) (go_keep) (first|(go_at_call 89;refine HC.mono ?_;rintro e w2 ⟨rfl,o2,E2,S2⟩;obtain⟨b0,b1⟩:=spot_box (B1d.step S2 (by decide)).1;have HP2:=HP w2 o2 E2 (XD.step S2 (by decide)))|(go_at_call 88;refine HP2.mono ?_;rintro e w3 ⟨rfl,o3,E3,S3⟩;obtain⟨b0,b1⟩:=spot_box ((B1d.step S2 (by decide)).step S3 (by decide)).1))
 all_goals
  go_end0
  exact⟨rfl,o3,E3,(SD.trans S2).trans S3⟩
end Go.Proofs.YtbjdkekhnajafaaGreatDoor

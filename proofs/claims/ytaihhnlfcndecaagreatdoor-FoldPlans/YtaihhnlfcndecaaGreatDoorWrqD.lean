import Derived.Test.YtaihhnlfcndecaaGreatDoorWrqA
namespace Go.Proofs.YtaihhnlfcndecaaGreatDoor
open Go.ChangeShapes Go.WideShapes Go.ChangeAt Go.RowKit
set_option linter.unusedVariables false
set_option linter.unusedSimpArgs false
def WR (w:World) (o:Nat→Nat) (wb:Nat) (t:List UInt8) (oo qq:Int) (ok:Bool):Prop :=
 ∃ v,Blk w o 1 wb (.cells #[v,.int .i64 oo,.int .i64 qq,.bool ok] 180 (0,0))∧Row w o 2 5 1 v t.length (byL t)
def WQ (w:World) (o:Nat→Nat) (wb:Nat):Ow→Prop
 | some s=>WR w o wb s.t (s.o:Nat) (s.q:Nat) true∧s.t.length≤2000∧s.o≤64∧s.q≤4
 | none=>∃ t oo qq,WR w o wb t oo qq false∧t.length≤2000
theorem WR.step {I:Nat→Prop} {w w':World} {o o':Nat→Nat} {wb:Nat} {t:List UInt8} {oo qq:Int} {ok:Bool} (h:WR w o wb t oo qq ok) (s:Step I w o w' o') (h1:¬ I 1) (h2:¬ I 2):WR w' o' wb t oo qq ok:=by
 obtain ⟨v,hb,hr⟩:=h
 exact ⟨v,hb.step s h1,hr.step s h2⟩
theorem WQ.step {I:Nat→Prop} {w w':World} {o o':Nat→Nat} {wb:Nat} {st:Ow} (h:WQ w o wb st) (s:Step I w o w' o') (h1:¬ I 1) (h2:¬ I 2):WQ w' o' wb st:=by
 match st,h with
 | some x,h=>exact ⟨h.1.step s h1 h2,h.2⟩
 | none,⟨t,oo,qq,h,hl⟩=>exact ⟨t,oo,qq,h.step s h1 h2,hl⟩
theorem WQ.raw {w:World} {o:Nat→Nat} {wb:Nat} {st:Ow} (h:WQ w o wb st):∃ t oo qq ok,WR w o wb t oo qq ok∧t.length≤2000:=by
 match st,h with
 | some x,h=>exact ⟨_,_,_,_,h.1,h.2.1⟩
 | none,⟨t,oo,qq,h,hl⟩=>exact ⟨t,oo,qq,_,h,hl⟩
theorem WR.cells {w:World} {o:Nat→Nat} {wb:Nat} {t:List UInt8} {oo qq:Int} {ok:Bool} (h:WR w o wb t oo qq ok):w.cell? ⟨wb,1,none⟩=some (.int .i64 oo)∧w.cell? ⟨wb,2,none⟩=some (.int .i64 qq)∧w.cell? ⟨wb,3,none⟩=some (.bool ok)∧∀ j,w.frozen? ⟨wb,j,none⟩=false:=by
 obtain ⟨v,hb,hr⟩:=h
 obtain ⟨c0,c1,c2,c3,cf⟩:=Blk.cells4 hb
 exact ⟨c1,c2,c3,cf⟩
theorem WR.set {w:World} {o:Nat→Nat} {wb:Nat} {t:List UInt8} {oo qq:Int} {ok:Bool} (h:WR w o wb t oo qq ok) :
  (∀ oo',WR (w.setCell ⟨wb,1,none⟩ (.int .i64 oo')) o wb t oo' qq ok)∧(∀ qq',WR (w.setCell ⟨wb,2,none⟩ (.int .i64 qq')) o wb t oo qq' ok)∧(∀ ok',WR (w.setCell ⟨wb,3,none⟩ (.bool ok')) o wb t oo qq ok'):=by
 obtain ⟨v,hb,hr⟩:=h
 have s:∀ (j:Nat) (u:Value),Step (fun k=>k=1) w o (w.setCell ⟨wb,j,none⟩ u) o:=fun j u=>setStep _ w o ⟨wb,j,none⟩ u hb.2
 exact ⟨fun oo'=>⟨v,hb.set 1 _,hr.step (s 1 _) (by decide)⟩,fun qq'=>⟨v,hb.set 2 _,hr.step (s 2 _) (by decide)⟩,fun ok'=>⟨v,hb.set 3 _,hr.step (s 3 _) (by decide)⟩⟩
theorem WR.setS {w:World} {o:Nat→Nat} {wb:Nat} {t:List UInt8} {oo qq:Int} {ok:Bool} (h:WR w o wb t oo qq ok) (j:Nat) (u:Value):Step I12 w o (w.setCell ⟨wb,j,none⟩ u) o:=by
 obtain ⟨v,hb,hr⟩:=h
 exact setStep _ w o ⟨wb,j,none⟩ u (.inl hb.2)
def PutP (w:World) (o:Nat→Nat) (wb:Nat) (t s:List UInt8) (oo qq:Int) (ok:Bool) (e:Ending) (w':World):Prop :=
 e=.returned (.tuple #[])∧∃ o',Step I12 w o w' o'∧((2000 < t.length+s.length∧WR w' o' wb t oo qq false)∨(t.length+s.length≤2000∧WR w' o' wb (t++s) oo qq ok))
set_option maxRecDepth 100000 in
theorem puts_raw {w:World} {o:Nat→Nat} {wb:Nat} {t:List UInt8} {oo qq:Int} {ok:Bool} (s:List UInt8) (h:WR w o wb t oo qq ok) (ht:t.length≤2000) (hs:s.length≤1000000) :
  Calls Tryz.prog 208 #[.pointer (some ⟨wb,0,none⟩),stv s] w (PutP w o wb t s oo qq ok):=by
 have hset:=h.set.2.2 false
 have hst:=h.setS 3 (.bool false)
 obtain ⟨v,hb,hr⟩:=h
 obtain ⟨c0,c1,c2,c3,cf⟩:=Blk.cells4 hb
 obtain ⟨ao,cap,rfl⟩:=hr.form
 have hsz:=size_mk s
 by_cases hl:2000 < t.length+s.length
 ·have hlI:(2000:Int) < (t.length:Int)+(s.length:Int):=by omega
  have FIN:Hid (∀ wx,wx=w.setCell ⟨wb,3,none⟩ (.bool false)→PutP w o wb t s oo qq ok (.returned (.tuple #[])) wx):=fun wx e=>by subst e;exact ⟨rfl,o,hst,.inl ⟨hl,hset⟩⟩
  clear hset hst hb hr
  go_enter Tryz.func208,Tryz.ntmps208
  go_wp2
  (try simp only [Exit.inBlock,Exit.then])
  refine bodyPost_ret (results_none rfl _ _ _) rfl ?_
  exact FIN.out _ rfl
 ·have hlI:¬ (2000:Int) < (t.length:Int)+(s.length:Int):=by omega
  obtain ⟨ii,hii,hz0,hz1,hz2⟩:=info_parts infoU8
  clear hset hst
  go_enter Tryz.func208,Tryz.ntmps208
  go_wp2_with (first | (at_builtin;refine wpList_append_str rfl (.tmp 20) (.tmp 21) 116 9 rfl 5 ii Tryz.underlying116 Tryz.underlying9 hii hz0 hz1 hz2 o 2 _ t.length (byL t) rfl hr ⟨s.toArray⟩ rfl ?c1 ?c2 ?_) | go_in)
  case c1=>unfold maxLen;omega
  case c2=>omega
  intro v' w' o' hr' hst
  obtain ⟨ao',cap',rfl⟩:=hr'.form
  have hb':=hb.step hst (by decide)
  obtain ⟨d0,d1,d2,d3,df⟩:=Blk.cells4 hb'
  have hb2:=hb'.set 0 (.slice ao' (t.length+s.length) cap')
  have s2:Step I12 w' o' (w'.setCell ⟨wb,0,none⟩ (.slice ao' (t.length+s.length) cap')) o':=setStep I12 w' o' ⟨wb,0,none⟩ (.slice ao' (t.length+s.length) cap') (.inl hb'.2)
  have s3:=(hst.mono (fun k hk=>(.inr hk:I12 k))).trans s2
  have s4:Step (fun k=>k=1) w' o' (w'.setCell ⟨wb,0,none⟩ (.slice ao' (t.length+s.length) cap')) o':=setStep _ w' o' ⟨wb,0,none⟩ (.slice ao' (t.length+s.length) cap') hb'.2
  have hr2:=hr'.step s4 (by decide)
  rw [byL_app] at hr2
  have hr3:Row (w'.setCell ⟨wb,0,none⟩ (.slice ao' (t.length+s.length) cap')) o' 2 5 1 (.slice ao' (t.length+s.length) cap') (t++s).length (byL (t++s)):=by
   rw [List.length_append]
   exact hr2
  have FIN:Hid (∀ wx,wx=w'.setCell ⟨wb,0,none⟩ (.slice ao' (t.length+s.length) cap')→PutP w o wb t s oo qq ok (.returned (.tuple #[])) wx):=fun wx e=>by subst e;exact ⟨rfl,o',s3,.inr ⟨by omega,_,hb2,hr3⟩⟩
  clear hr2 hst s2 s4 hr' hb hr c0 c1 c2 c3 cf hb2 hr3 s3 hb'
  go_wp2
  go_end0
  exact FIN.out _ rfl
def PostO (w:World) (o:Nat→Nat) (wb:Nat) (st:Ow) (e:Ending) (w':World):Prop:=e=.returned (.tuple #[])∧∃ o',WQ w' o' wb st∧Step I12 w o w' o'
theorem puts_o {w:World} {o:Nat→Nat} {wb:Nat} {st:Ow} (s:List UInt8) (h:WQ w o wb st) (hs:s.length≤1000000) :
  Calls Tryz.prog 208 #[.pointer (some ⟨wb,0,none⟩),stv s] w (PostO w o wb (putO s st)):=by
 match st,h with
 | some x,h =>
  refine (puts_raw s h.1 h.2.1 hs).mono ?_
  rintro e w' ⟨rfl,o',st',hh⟩
  refine ⟨rfl,o',?_,st'⟩
  rcases hh with ⟨hl,hw⟩ | ⟨hl,hw⟩
  ·rw [show putO s (some x)=none by simp [putO,hl]]
   exact ⟨_,_,_,hw,h.2.1⟩
  ·rw [show putO s (some x)=some ⟨x.t++s,x.o,x.q⟩ by simp [putO];omega]
   exact ⟨hw,by simp only [List.length_append];exact hl,h.2.2⟩
 | none,⟨t,oo,qq,h,hl⟩ =>
  refine (puts_raw s h hl hs).mono ?_
  rintro e w' ⟨rfl,o',st',hh⟩
  refine ⟨rfl,o',?_,st'⟩
  rcases hh with ⟨hl2,hw⟩ | ⟨hl2,hw⟩
  ·exact ⟨_,_,_,hw,hl⟩
  ·exact ⟨_,_,_,hw,by simp only [List.length_append];exact hl2⟩
theorem WQ.ent {w:World} {o:Nat→Nat} {wb:Nat} {st:Ow} (h:WQ w o wb st):∃ oo:Int,w.cell? ⟨wb,1,none⟩=some (.int .i64 oo)∧(∀ j,w.frozen? ⟨wb,j,none⟩=false)∧Step I12 w o (w.setCell ⟨wb,1,none⟩ (.int .i64 (wrap64 (oo+1)))) o ∧
  ((64 < wrap64 (oo+1)∧WQ ((w.setCell ⟨wb,1,none⟩ (.int .i64 (wrap64 (oo+1)))).setCell ⟨wb,3,none⟩ (.bool false)) o wb (entO st))∨(¬ 64 < wrap64 (oo+1)∧WQ (w.setCell ⟨wb,1,none⟩ (.int .i64 (wrap64 (oo+1)))) o wb (entO st))):=by
 match st,h with
 | some x,h =>
  obtain ⟨c1,c2,c3,cf⟩:=h.1.cells
  refine ⟨_,c1,cf,h.1.setS 1 _,?_⟩
  have e:wrap64 ((x.o:Nat)+1)=((x.o+1:Nat):Int):=by have:=h.2.2.1;unfold wrap64;omega
  have hw:=h.1.set.1 (wrap64 ((x.o:Nat)+1))
  by_cases hl:64 < x.o+1
  ·refine .inl ⟨by rw [e];omega,?_⟩
   rw [show entO (some x)=none by simp [entO,hl]]
   exact ⟨_,_,_,hw.set.2.2 false,h.2.1⟩
  ·refine .inr ⟨by rw [e];omega,?_⟩
   rw [show entO (some x)=some ⟨x.t,x.o+1,x.q⟩ by simp [entO,hl]]
   rw [e] at hw ⊢
   exact ⟨hw,h.2.1,by show x.o+1≤64;omega,h.2.2.2⟩
 | none,⟨t,oo,qq,h,hl⟩ =>
  obtain ⟨c1,c2,c3,cf⟩:=h.cells
  refine ⟨_,c1,cf,h.setS 1 _,?_⟩
  have hw:=h.set.1 (wrap64 (oo+1))
  by_cases hl2:64 < wrap64 (oo+1)
  ·exact .inl ⟨hl2,t,_,_,hw.set.2.2 false,hl⟩
  ·exact .inr ⟨hl2,t,_,_,hw,hl⟩
theorem WQ.qen {w:World} {o:Nat→Nat} {wb:Nat} {st:Ow} (h:WQ w o wb st):∃ oo:Int,w.cell? ⟨wb,2,none⟩=some (.int .i64 oo)∧(∀ j,w.frozen? ⟨wb,j,none⟩=false)∧Step I12 w o (w.setCell ⟨wb,2,none⟩ (.int .i64 (wrap64 (oo+1)))) o ∧
  ((4 < wrap64 (oo+1)∧WQ ((w.setCell ⟨wb,2,none⟩ (.int .i64 (wrap64 (oo+1)))).setCell ⟨wb,3,none⟩ (.bool false)) o wb (qenO st))∨(¬ 4 < wrap64 (oo+1)∧WQ (w.setCell ⟨wb,2,none⟩ (.int .i64 (wrap64 (oo+1)))) o wb (qenO st))):=by
 match st,h with
 | some x,h =>
  obtain ⟨c1,c2,c3,cf⟩:=h.1.cells
  refine ⟨_,c2,cf,h.1.setS 2 _,?_⟩
  have e:wrap64 ((x.q:Nat)+1)=((x.q+1:Nat):Int):=by have:=h.2.2.2;unfold wrap64;omega
  have hw:=h.1.set.2.1 (wrap64 ((x.q:Nat)+1))
  by_cases hl:4 < x.q+1
  ·refine .inl ⟨by rw [e];omega,?_⟩
   rw [show qenO (some x)=none by simp [qenO,hl]]
   exact ⟨_,_,_,hw.set.2.2 false,h.2.1⟩
  ·refine .inr ⟨by rw [e];omega,?_⟩
   rw [show qenO (some x)=some ⟨x.t,x.o,x.q+1⟩ by simp [qenO,hl]]
   rw [e] at hw ⊢
   exact ⟨hw,h.2.1,h.2.2.1,by show x.q+1≤4;omega⟩
 | none,⟨t,oo,qq,h,hl⟩ =>
  obtain ⟨c1,c2,c3,cf⟩:=h.cells
  refine ⟨_,c2,cf,h.setS 2 _,?_⟩
  have hw:=h.set.2.1 (wrap64 (qq+1))
  by_cases hl2:4 < wrap64 (qq+1)
  ·exact .inl ⟨hl2,t,_,_,hw.set.2.2 false,hl⟩
  ·exact .inr ⟨hl2,t,_,_,hw,hl⟩
def Bal (st st':Ow):Prop:=∀ s',st'=some s'→∃ s,st=some s∧s'.o=s.o∧s'.q=s.q
theorem WQ.lea {w:World} {o:Nat→Nat} {wb:Nat} {st:Ow} (h:WQ w o wb st) (hp:∀ s,st=some s→1≤s.o):∃ oo:Int,w.cell? ⟨wb,1,none⟩=some (.int .i64 oo)∧(∀ j,w.frozen? ⟨wb,j,none⟩=false)∧Step I12 w o (w.setCell ⟨wb,1,none⟩ (.int .i64 (wrap64 (oo - 1)))) o∧WQ (w.setCell ⟨wb,1,none⟩ (.int .i64 (wrap64 (oo - 1)))) o wb (leaO st):=by
 match st,h with
 | some x,h =>
  obtain ⟨c1,c2,c3,cf⟩:=h.1.cells
  refine ⟨_,c1,cf,h.1.setS 1 _,?_⟩
  have h1:=hp x rfl
  have e:wrap64 ((x.o:Nat) - 1)=((x.o - 1:Nat):Int):=by have:=h.2.2.1;unfold wrap64;omega
  rw [e]
  exact ⟨h.1.set.1 _,h.2.1,by show x.o - 1≤64;have:=h.2.2.1;omega,h.2.2.2⟩
 | none,⟨t,oo,qq,h,hl⟩ =>
  obtain ⟨c1,c2,c3,cf⟩:=h.cells
  exact ⟨_,c1,cf,h.setS 1 _,t,_,_,h.set.1 _,hl⟩
theorem WQ.qle {w:World} {o:Nat→Nat} {wb:Nat} {st:Ow} (h:WQ w o wb st) (hp:∀ s,st=some s→1≤s.q):∃ oo:Int,w.cell? ⟨wb,2,none⟩=some (.int .i64 oo)∧(∀ j,w.frozen? ⟨wb,j,none⟩=false)∧Step I12 w o (w.setCell ⟨wb,2,none⟩ (.int .i64 (wrap64 (oo - 1)))) o∧WQ (w.setCell ⟨wb,2,none⟩ (.int .i64 (wrap64 (oo - 1)))) o wb (qleO st):=by
 match st,h with
 | some x,h =>
  obtain ⟨c1,c2,c3,cf⟩:=h.1.cells
  refine ⟨_,c2,cf,h.1.setS 2 _,?_⟩
  have h1:=hp x rfl
  have e:wrap64 ((x.q:Nat) - 1)=((x.q - 1:Nat):Int):=by have:=h.2.2.2;unfold wrap64;omega
  rw [e]
  exact ⟨h.1.set.2.1 _,h.2.1,h.2.2.1,by show x.q - 1≤4;have:=h.2.2.2;omega⟩
 | none,⟨t,oo,qq,h,hl⟩ =>
  obtain ⟨c1,c2,c3,cf⟩:=h.cells
  exact ⟨_,c2,cf,h.setS 2 _,t,_,_,h.set.2.1 _,hl⟩
theorem WQ.end {w:World} {o:Nat→Nat} {wb:Nat} {st:Ow} (h:WQ w o wb st):w.cell? ⟨wb,3,none⟩=some (.bool st.isSome)∧(∀ j,w.frozen? ⟨wb,j,none⟩=false)∧Step I12 w o (w.setCell ⟨wb,3,none⟩ (.bool false)) o∧WQ (w.setCell ⟨wb,3,none⟩ (.bool false)) o wb none:=by
 match st,h with
 | some x,h =>
  obtain ⟨c1,c2,c3,cf⟩:=h.1.cells
  exact ⟨c3,cf,h.1.setS 3 _,_,_,_,h.1.set.2.2 false,h.2.1⟩
 | none,⟨t,oo,qq,h,hl⟩ =>
  obtain ⟨c1,c2,c3,cf⟩:=h.cells
  exact ⟨c3,cf,h.setS 3 _,_,_,_,h.set.2.2 false,hl⟩
set_option maxRecDepth 100000 in
theorem opens_o {w:World} {o:Nat→Nat} {wb:Nat} {st:Ow} (s:List UInt8) (h:WQ w o wb st) (hs:s.length≤1000000) :
  Calls Tryz.prog 210 #[.pointer (some ⟨wb,0,none⟩),stv s] w (PostO w o wb (putO s (entO st))):=by
 obtain ⟨oo,c1,cf,S1,hh⟩:=h.ent
 obtain ⟨w1,hw1⟩:∃ w1,w1=w.setCell ⟨wb,1,none⟩ (.int .i64 (wrap64 (oo+1))):=⟨_,rfl⟩
 have d1:w1.cell? ⟨wb,1,none⟩=some (.int .i64 (wrap64 (oo+1))):=by rw [hw1];exact World.cell?_setCell_same _ _ _ c1
 have df:∀ j,w1.frozen? ⟨wb,j,none⟩=false:=fun j=>by rw [hw1];exact (World.frozen?_setCell ..).trans (cf j)
 have d3:w1.cell? ⟨wb,3,none⟩=some (.bool st.isSome):=by rw [hw1];exact (World.cell?_setCell_other _ _ _ _ (by simp)).trans h.end.1
 rw [←hw1] at hh S1
 obtain ⟨W,hW⟩:∃ W,W=putO s (entO st):=⟨_,rfl⟩
 rw [←hW]
 have HW:Hid (W=putO s (entO st)):=hW
 clear hW h
 rcases hh with ⟨hl,hq⟩ | ⟨hl,hq⟩
 ·have S2:Step I12 w o (w1.setCell ⟨wb,3,none⟩ (.bool false)) o:=by
   obtain ⟨t,oo2,qq,ok,hr,_⟩:=hq.raw
   refine S1.trans ?_
   obtain ⟨v,hb,_⟩:=hr
   exact setStep _ w1 o ⟨wb,3,none⟩ _ (.inl hb.2)
  have c2:=puts_o s hq hs
  rw [←HW.out] at c2
  clear hq S1 HW
  go_enter Tryz.func210,Tryz.ntmps210
  go_upto_region 1 with fail
  rw [←hw1]
  clear hw1
  go_upto_region 3 with fail
  generalize w1.setCell ⟨wb,3,none⟩ (.bool false)=w2 at *
  clear d1 df d3 c1 cf
  go_wp2_with fail
  refine c2.mono ?_
  rintro e w3 ⟨rfl,o3,h3,s3⟩
  have S3:=S2.trans s3
  clear c2 S2 s3
  go_wp2
  go_end0
  exact ⟨rfl,o3,h3,S3⟩
 ·have c2:=puts_o s hq hs
  rw [←HW.out] at c2
  clear hq HW
  go_enter Tryz.func210,Tryz.ntmps210
  go_upto_region 1 with fail
  rw [←hw1]
  clear hw1 c1 cf
  go_wp2_with fail
  refine c2.mono ?_
  rintro e w3 ⟨rfl,o3,h3,s3⟩
  have S3:=S1.trans s3
  clear c2 S1 s3
  go_wp2
  go_end0
  exact ⟨rfl,o3,h3,S3⟩
theorem row_8 {k:Int} (h19:k≠19) (h21:k≠21) (h18:k≠18) (h17:k≠17) (h7:k≠7) (h13:k≠13) (h14:k≠14) (h15:k≠15) (h16:k≠16) (h8:k≠8) (h9:k≠9) (h10:k≠10) (h11:k≠11) (h12:k≠12) (h6:k≠6):rowOf k=8:=by
 have e19:((19:Int) == k)=false:=by rw [beq_eq_false_iff_ne];exact fun e=>h19 e.symm
 have e21:((21:Int) == k)=false:=by rw [beq_eq_false_iff_ne];exact fun e=>h21 e.symm
 have e18:((18:Int) == k)=false:=by rw [beq_eq_false_iff_ne];exact fun e=>h18 e.symm
 have e17:((17:Int) == k)=false:=by rw [beq_eq_false_iff_ne];exact fun e=>h17 e.symm
 have e7:((7:Int) == k)=false:=by rw [beq_eq_false_iff_ne];exact fun e=>h7 e.symm
 have e13:((13:Int) == k)=false:=by rw [beq_eq_false_iff_ne];exact fun e=>h13 e.symm
 have e14:((14:Int) == k)=false:=by rw [beq_eq_false_iff_ne];exact fun e=>h14 e.symm
 have e15:((15:Int) == k)=false:=by rw [beq_eq_false_iff_ne];exact fun e=>h15 e.symm
 have e16:((16:Int) == k)=false:=by rw [beq_eq_false_iff_ne];exact fun e=>h16 e.symm
 have e8:((8:Int) == k)=false:=by rw [beq_eq_false_iff_ne];exact fun e=>h8 e.symm
 have e9:((9:Int) == k)=false:=by rw [beq_eq_false_iff_ne];exact fun e=>h9 e.symm
 have e10:((10:Int) == k)=false:=by rw [beq_eq_false_iff_ne];exact fun e=>h10 e.symm
 have e11:((11:Int) == k)=false:=by rw [beq_eq_false_iff_ne];exact fun e=>h11 e.symm
 have e12:((12:Int) == k)=false:=by rw [beq_eq_false_iff_ne];exact fun e=>h12 e.symm
 have e6:((6:Int) == k)=false:=by rw [beq_eq_false_iff_ne];exact fun e=>h6 e.symm
 have ho:opOf k=none:=by simp [opOf,opsL,List.find?,e18,e17,e13,e14,e15,e16,e8,e9,e10,e11,e12]
 simp [rowOf,ho,bne h19,bne h21,bne h7,bne h6]
set_option maxRecDepth 100000 in
set_option maxHeartbeats 2000000 in
theorem row_q (k:Int) (w:World) :
  Calls Tryz.prog 224 #[.int .i64 k] w fun e w'=>e=.returned (.int .i64 (rowOf k:Nat))∧w'=w:=by
 by_cases h19:k=19
 ·subst h19
  go_enter Tryz.func224,Tryz.ntmps224
  go_wp2
  go_ret
  exact ⟨rfl,rfl⟩
 have b19:(k == 19)=false:=bne h19
 by_cases h21:k=21
 ·subst h21
  go_enter Tryz.func224,Tryz.ntmps224
  go_wp2
  go_ret
  exact ⟨rfl,rfl⟩
 have b21:(k == 21)=false:=bne h21
 by_cases h18:k=18
 ·subst h18
  go_enter Tryz.func224,Tryz.ntmps224
  go_wp2
  go_ret
  exact ⟨rfl,rfl⟩
 have b18:(k == 18)=false:=bne h18
 by_cases h17:k=17
 ·subst h17
  go_enter Tryz.func224,Tryz.ntmps224
  go_wp2
  go_ret
  exact ⟨rfl,rfl⟩
 have b17:(k == 17)=false:=bne h17
 by_cases h7:k=7
 ·subst h7
  go_enter Tryz.func224,Tryz.ntmps224
  go_wp2
  go_ret
  exact ⟨rfl,rfl⟩
 have b7:(k == 7)=false:=bne h7
 by_cases h13:k=13
 ·subst h13
  go_enter Tryz.func224,Tryz.ntmps224
  go_wp2
  go_ret
  exact ⟨rfl,rfl⟩
 have b13:(k == 13)=false:=bne h13
 by_cases h14:k=14
 ·subst h14
  go_enter Tryz.func224,Tryz.ntmps224
  go_wp2
  go_ret
  exact ⟨rfl,rfl⟩
 have b14:(k == 14)=false:=bne h14
 by_cases h15:k=15
 ·subst h15
  go_enter Tryz.func224,Tryz.ntmps224
  go_wp2
  go_ret
  exact ⟨rfl,rfl⟩
 have b15:(k == 15)=false:=bne h15
 by_cases h16:k=16
 ·subst h16
  go_enter Tryz.func224,Tryz.ntmps224
  go_wp2
  go_ret
  exact ⟨rfl,rfl⟩
 have b16:(k == 16)=false:=bne h16
 by_cases h8:k=8
 ·subst h8
  go_enter Tryz.func224,Tryz.ntmps224
  go_wp2
  go_ret
  exact ⟨rfl,rfl⟩
 have b8:(k == 8)=false:=bne h8
 by_cases h9:k=9
 ·subst h9
  go_enter Tryz.func224,Tryz.ntmps224
  go_wp2
  go_ret
  exact ⟨rfl,rfl⟩
 have b9:(k == 9)=false:=bne h9
 by_cases h10:k=10
 ·subst h10
  go_enter Tryz.func224,Tryz.ntmps224
  go_wp2
  go_ret
  exact ⟨rfl,rfl⟩
 have b10:(k == 10)=false:=bne h10
 by_cases h11:k=11
 ·subst h11
  go_enter Tryz.func224,Tryz.ntmps224
  go_wp2
  go_ret
  exact ⟨rfl,rfl⟩
 have b11:(k == 11)=false:=bne h11
 by_cases h12:k=12
 ·subst h12
  go_enter Tryz.func224,Tryz.ntmps224
  go_wp2
  go_ret
  exact ⟨rfl,rfl⟩
 have b12:(k == 12)=false:=bne h12
 by_cases h6:k=6
 ·subst h6
  go_enter Tryz.func224,Tryz.ntmps224
  go_wp2
  go_ret
  exact ⟨rfl,rfl⟩
 have b6:(k == 6)=false:=bne h6
 rw [row_8 h19 h21 h18 h17 h7 h13 h14 h15 h16 h8 h9 h10 h11 h12 h6]
 clear h19 h21 h18 h17 h7 h13 h14 h15 h16 h8 h9 h10 h11 h12 h6
 go_enter Tryz.func224,Tryz.ntmps224
 go_wp2
 go_ret
 exact ⟨rfl,rfl⟩
def askO (k:Int) (i:Nat):Nat:=if rowOf k=3∨rowOf k=7 then rowOf k else if rowOf k=4 then 5 else if rowOf k=0∨rowOf k=8 then 0 else rowOf k+i
theorem row_le (k:Int):rowOf k≤8:=by
 unfold rowOf
 split
 ·omega
 ·split
  ·omega
  ·split
   ·omega
   ·split
    ·rename_i x hx
     have hm:=List.mem_of_find?_eq_some hx
     have:∀ x ∈ opsL,x.2.2.1≤8:=by decide
     exact this x hm
    ·omega
set_option maxRecDepth 100000 in
set_option maxHeartbeats 2000000 in
theorem asked_q (k:Int) (i:Nat) (hi:i≤1000000000) (w:World) :
  Calls Tryz.prog 225 #[.int .i64 k,.int .i64 (i:Nat)] w fun e w'=>e=.returned (.int .i64 (askO k i:Nat))∧w'=w:=by
 have c1:=row_q k w
 have hle:=row_le k
 obtain ⟨W,hW⟩:∃ W,W=askO k i:=⟨_,rfl⟩
 rw [←hW]
 unfold askO at hW
 generalize rowOf k=r at *
 by_cases h0:r=0
 ·subst h0
  have hX:W=0:=by simpa using hW
  clear hW
  subst hX
  go_enter Tryz.func225,Tryz.ntmps225
  go_wp2_with fail
  refine c1.mono ?_
  rintro e w1 ⟨rfl,rfl⟩
  clear c1
  go_wp2
  go_ret
  exact ⟨rfl,rfl⟩
 by_cases h3:r=3
 ·subst h3
  have hX:W=3:=by simpa using hW
  clear hW
  subst hX
  go_enter Tryz.func225,Tryz.ntmps225
  go_wp2_with fail
  refine c1.mono ?_
  rintro e w1 ⟨rfl,rfl⟩
  clear c1
  go_wp2
  go_ret
  exact ⟨rfl,rfl⟩
 by_cases h4:r=4
 ·subst h4
  have hX:W=5:=by simpa using hW
  clear hW
  subst hX
  go_enter Tryz.func225,Tryz.ntmps225
  go_wp2_with fail
  refine c1.mono ?_
  rintro e w1 ⟨rfl,rfl⟩
  clear c1
  go_wp2
  go_ret
  exact ⟨rfl,rfl⟩
 by_cases h7:r=7
 ·subst h7
  have hX:W=7:=by simpa using hW
  clear hW
  subst hX
  go_enter Tryz.func225,Tryz.ntmps225
  go_wp2_with fail
  refine c1.mono ?_
  rintro e w1 ⟨rfl,rfl⟩
  clear c1
  go_wp2
  go_ret
  exact ⟨rfl,rfl⟩
 by_cases h8:r=8
 ·subst h8
  have hX:W=0:=by simpa using hW
  clear hW
  subst hX
  go_enter Tryz.func225,Tryz.ntmps225
  go_wp2_with fail
  refine c1.mono ?_
  rintro e w1 ⟨rfl,rfl⟩
  clear c1
  go_wp2
  go_ret
  exact ⟨rfl,rfl⟩
 have hX:W=r+i:=by simpa [h0,h3,h4,h7,h8] using hW
 clear hW
 subst hX
 have b0:((r:Int) == 0)=false:=by rw [beq_eq_false_iff_ne];omega
 have b3:((r:Int) == 3)=false:=by rw [beq_eq_false_iff_ne];omega
 have b4:((r:Int) == 4)=false:=by rw [beq_eq_false_iff_ne];omega
 have b7:((r:Int) == 7)=false:=by rw [beq_eq_false_iff_ne];omega
 have b8:((r:Int) == 8)=false:=by rw [beq_eq_false_iff_ne];omega
 have hr:r≤8:=hle
 clear h0 h3 h4 h7 h8 hle
 go_enter Tryz.func225,Tryz.ntmps225
 go_wp2_with fail
 refine c1.mono ?_
 rintro e w1 ⟨rfl,rfl⟩
 clear c1
 go_wp2
 go_ret
 exact ⟨by rw [show ((r+i:Nat):Int)=(r:Int)+(i:Int) by omega];rfl,rfl⟩
theorem isSetK_iff (k:Int):isSetK k=decide (22≤k∧k≤25):=by
 by_cases h:22≤k∧k≤25
 ·rw [show decide (22≤k∧k≤25)=true by simpa using h]
  unfold isSetK
  simp only [Bool.or_eq_true,beq_iff_eq]
  omega
 ·rw [show decide (22≤k∧k≤25)=false by simpa using h]
  rw [←Bool.not_eq_true]
  unfold isSetK
  simp only [Bool.or_eq_true,beq_iff_eq]
  omega
set_option maxRecDepth 100000 in
set_option maxHeartbeats 2000000 in
theorem isSet_q (k:Int) (w:World) :
  Calls Tryz.prog 207 #[.int .i64 k] w fun e w'=>e=.returned (.bool (isSetK k))∧w'=w:=by
 rw [isSetK_iff]
 by_cases h1:22≤k
 ·by_cases h2:k≤25
  ·rw [show decide (22≤k∧k≤25)=true by simp;omega]
   go_enter Tryz.func207,Tryz.ntmps207
   go_wp2
   go_ret
   exact ⟨by simp [h2],rfl⟩
  ·rw [show decide (22≤k∧k≤25)=false by simp;omega]
   go_enter Tryz.func207,Tryz.ntmps207
   go_wp2
   go_ret
   exact ⟨by simp [h2],rfl⟩
 ·rw [show decide (22≤k∧k≤25)=false by simp;omega]
  go_enter Tryz.func207,Tryz.ntmps207
  go_wp2
  go_ret
  exact ⟨rfl,rfl⟩
def kidN (k n:Int):Int :=
 if k=1∨k=2∨k=3∨k=4∨k=22∨k=23 then 0 else if k=6∨k=7∨k=24 then 1 else if k=8∨k=9∨k=10∨k=11∨k=12∨k=13∨k=14∨k=15∨k=16∨k=17∨k=18∨k=21 then 2 else if k=19 then 3 else if k=25 then -1 else if k=20 then (if 1≤n∧n≤3 then 2 else 1) else -2
set_option maxRecDepth 100000 in
set_option maxHeartbeats 2000000 in
theorem kids_q (k n:Int) (nm:List UInt8) (ao:Option Addr) (len cap:Nat) (a:Int) (w:World) :
  Calls Tryz.prog 205 #[.agg #[.int .i64 k,.int .i64 n,stv nm,.slice ao len cap,.int .i64 a]] w fun e w'=>e=.returned (.int .i64 (kidN k n))∧Below w.heap.size w w':=by
 have B0:Below w.heap.size w (w.alloc (.cells #[.int .i64 k,.int .i64 n,stv nm,.slice ao len cap,.int .i64 a] 25)):=(Below.refl _ w).alloc (Nat.le_refl _) _
 have Z0:(w.alloc (.cells #[.int .i64 k,.int .i64 n,stv nm,.slice ao len cap,.int .i64 a] 25)).heap[w.heap.size]?=some (.cells #[.int .i64 k,.int .i64 n,stv nm,.slice ao len cap,.int .i64 a] 25):=heap_alloc_new w _
 obtain ⟨z0,z1,z2,z3,z4,zf⟩:=box5 Z0
 clear Z0
 obtain ⟨V,hV⟩:∃ V,V=kidN k n:=⟨_,rfl⟩
 rw [←hV]
 by_cases h1:k=1
 ·subst h1
  have hX:V=0:=hV
  clear hV
  subst hX
  go_enter Tryz.func205,Tryz.ntmps205
  go_wp2
  go_ret
  exact ⟨rfl,B0⟩
 have b1:(k == 1)=false:=bne h1
 by_cases h2:k=2
 ·subst h2
  have hX:V=0:=hV
  clear hV
  subst hX
  go_enter Tryz.func205,Tryz.ntmps205
  go_wp2
  go_ret
  exact ⟨rfl,B0⟩
 have b2:(k == 2)=false:=bne h2
 by_cases h3:k=3
 ·subst h3
  have hX:V=0:=hV
  clear hV
  subst hX
  go_enter Tryz.func205,Tryz.ntmps205
  go_wp2
  go_ret
  exact ⟨rfl,B0⟩
 have b3:(k == 3)=false:=bne h3
 by_cases h4:k=4
 ·subst h4
  have hX:V=0:=hV
  clear hV
  subst hX
  go_enter Tryz.func205,Tryz.ntmps205
  go_wp2
  go_ret
  exact ⟨rfl,B0⟩
 have b4:(k == 4)=false:=bne h4
 by_cases h22:k=22
 ·subst h22
  have hX:V=0:=hV
  clear hV
  subst hX
  go_enter Tryz.func205,Tryz.ntmps205
  go_wp2
  go_ret
  exact ⟨rfl,B0⟩
 have b22:(k == 22)=false:=bne h22
 by_cases h23:k=23
 ·subst h23
  have hX:V=0:=hV
  clear hV
  subst hX
  go_enter Tryz.func205,Tryz.ntmps205
  go_wp2
  go_ret
  exact ⟨rfl,B0⟩
 have b23:(k == 23)=false:=bne h23
 by_cases h6:k=6
 ·subst h6
  have hX:V=1:=hV
  clear hV
  subst hX
  go_enter Tryz.func205,Tryz.ntmps205
  go_wp2
  go_ret
  exact ⟨rfl,B0⟩
 have b6:(k == 6)=false:=bne h6
 by_cases h7:k=7
 ·subst h7
  have hX:V=1:=hV
  clear hV
  subst hX
  go_enter Tryz.func205,Tryz.ntmps205
  go_wp2
  go_ret
  exact ⟨rfl,B0⟩
 have b7:(k == 7)=false:=bne h7
 by_cases h24:k=24
 ·subst h24
  have hX:V=1:=hV
  clear hV
  subst hX
  go_enter Tryz.func205,Tryz.ntmps205
  go_wp2
  go_ret
  exact ⟨rfl,B0⟩
 have b24:(k == 24)=false:=bne h24
 by_cases h8:k=8
 ·subst h8
  have hX:V=2:=hV
  clear hV
  subst hX
  go_enter Tryz.func205,Tryz.ntmps205
  go_wp2
  go_ret
  exact ⟨rfl,B0⟩
 have b8:(k == 8)=false:=bne h8
 by_cases h9:k=9
 ·subst h9
  have hX:V=2:=hV
  clear hV
  subst hX
  go_enter Tryz.func205,Tryz.ntmps205
  go_wp2
  go_ret
  exact ⟨rfl,B0⟩
 have b9:(k == 9)=false:=bne h9
 by_cases h10:k=10
 ·subst h10
  have hX:V=2:=hV
  clear hV
  subst hX
  go_enter Tryz.func205,Tryz.ntmps205
  go_wp2
  go_ret
  exact ⟨rfl,B0⟩
 have b10:(k == 10)=false:=bne h10
 by_cases h11:k=11
 ·subst h11
  have hX:V=2:=hV
  clear hV
  subst hX
  go_enter Tryz.func205,Tryz.ntmps205
  go_wp2
  go_ret
  exact ⟨rfl,B0⟩
 have b11:(k == 11)=false:=bne h11
 by_cases h12:k=12
 ·subst h12
  have hX:V=2:=hV
  clear hV
  subst hX
  go_enter Tryz.func205,Tryz.ntmps205
  go_wp2
  go_ret
  exact ⟨rfl,B0⟩
 have b12:(k == 12)=false:=bne h12
 by_cases h13:k=13
 ·subst h13
  have hX:V=2:=hV
  clear hV
  subst hX
  go_enter Tryz.func205,Tryz.ntmps205
  go_wp2
  go_ret
  exact ⟨rfl,B0⟩
 have b13:(k == 13)=false:=bne h13
 by_cases h14:k=14
 ·subst h14
  have hX:V=2:=hV
  clear hV
  subst hX
  go_enter Tryz.func205,Tryz.ntmps205
  go_wp2
  go_ret
  exact ⟨rfl,B0⟩
 have b14:(k == 14)=false:=bne h14
 by_cases h15:k=15
 ·subst h15
  have hX:V=2:=hV
  clear hV
  subst hX
  go_enter Tryz.func205,Tryz.ntmps205
  go_wp2
  go_ret
  exact ⟨rfl,B0⟩
 have b15:(k == 15)=false:=bne h15
 by_cases h16:k=16
 ·subst h16
  have hX:V=2:=hV
  clear hV
  subst hX
  go_enter Tryz.func205,Tryz.ntmps205
  go_wp2
  go_ret
  exact ⟨rfl,B0⟩
 have b16:(k == 16)=false:=bne h16
 by_cases h17:k=17
 ·subst h17
  have hX:V=2:=hV
  clear hV
  subst hX
  go_enter Tryz.func205,Tryz.ntmps205
  go_wp2
  go_ret
  exact ⟨rfl,B0⟩
 have b17:(k == 17)=false:=bne h17
 by_cases h18:k=18
 ·subst h18
  have hX:V=2:=hV
  clear hV
  subst hX
  go_enter Tryz.func205,Tryz.ntmps205
  go_wp2
  go_ret
  exact ⟨rfl,B0⟩
 have b18:(k == 18)=false:=bne h18
 by_cases h21:k=21
 ·subst h21
  have hX:V=2:=hV
  clear hV
  subst hX
  go_enter Tryz.func205,Tryz.ntmps205
  go_wp2
  go_ret
  exact ⟨rfl,B0⟩
 have b21:(k == 21)=false:=bne h21
 by_cases h19:k=19
 ·subst h19
  have hX:V=3:=hV
  clear hV
  subst hX
  go_enter Tryz.func205,Tryz.ntmps205
  go_wp2
  go_ret
  exact ⟨rfl,B0⟩
 have b19:(k == 19)=false:=bne h19
 by_cases h25:k=25
 ·subst h25
  have hX:V=-1:=hV
  clear hV
  subst hX
  go_enter Tryz.func205,Tryz.ntmps205
  go_wp2
  go_ret
  exact ⟨rfl,B0⟩
 have b25:(k == 25)=false:=bne h25
 by_cases h20:k=20
 ·subst h20
  by_cases n1:1≤n
  ·by_cases n3:n≤3
   ·have hX:V=2:=by rw [hV];simp [kidN,n1,n3]
    clear hV
    subst hX
    go_enter Tryz.func205,Tryz.ntmps205
    go_wp2
    go_ret
    exact ⟨rfl,B0⟩
   ·have hX:V=1:=by rw [hV];simp [kidN,n3]
    clear hV
    subst hX
    go_enter Tryz.func205,Tryz.ntmps205
    go_wp2
    go_ret
    exact ⟨rfl,B0⟩
  ·have hX:V=1:=by rw [hV];simp [kidN,n1]
   clear hV
   subst hX
   go_enter Tryz.func205,Tryz.ntmps205
   go_wp2
   go_ret
   exact ⟨rfl,B0⟩
 have b20:(k == 20)=false:=bne h20
 have hX:V=-2:=by rw [hV];simp [kidN,h1,h2,h3,h4,h22,h23,h6,h7,h24,h8,h9,h10,h11,h12,h13,h14,h15,h16,h17,h18,h21,h19,h25,h20]
 clear hV h1 h2 h3 h4 h22 h23 h6 h7 h24 h8 h9 h10 h11 h12 h13 h14 h15 h16 h17 h18 h21 h19 h25 h20
 subst hX
 go_enter Tryz.func205,Tryz.ntmps205
 go_wp2
 go_ret
 exact ⟨rfl,B0⟩
theorem call_rng (n:Int):(callOf n).isSome=decide (1≤n∧n≤10):=by
 by_cases h:1≤n∧n≤10
 ·rw [show decide (1≤n∧n≤10)=true by simpa using h]
  have:n=1∨n=2∨n=3∨n=4∨n=5∨n=6∨n=7∨n=8∨n=9∨n=10:=by omega
  rcases this with rfl | rfl | rfl | rfl | rfl | rfl | rfl | rfl | rfl | rfl <;> rfl
 ·rw [show decide (1≤n∧n≤10)=false by simpa using h,Option.isSome_eq_false_iff,Option.isNone_iff_eq_none]
  unfold callOf
  rw [List.find?_eq_none]
  intro x hx
  have:∀ x ∈ callsL,1≤x.2.1∧x.2.1≤10:=by decide
  have:=this x hx
  simp only [beq_iff_eq]
  omega
theorem quant_rng (n:Int):(quantOf n).isSome=decide (1≤n∧n≤6):=by
 by_cases h:1≤n∧n≤6
 ·rw [show decide (1≤n∧n≤6)=true by simpa using h]
  have:n=1∨n=2∨n=3∨n=4∨n=5∨n=6:=by omega
  rcases this with rfl | rfl | rfl | rfl | rfl | rfl <;> rfl
 ·rw [show decide (1≤n∧n≤6)=false by simpa using h,Option.isSome_eq_false_iff,Option.isNone_iff_eq_none]
  unfold quantOf
  rw [List.find?_eq_none]
  intro x hx
  have:∀ x ∈ quantsL,1≤x.2∧x.2≤6:=by decide
  have:=this x hx
  simp only [beq_iff_eq]
  omega
set_option maxRecDepth 100000 in
set_option maxHeartbeats 2000000 in
theorem fields_q (k n:Int) (nm:List UInt8) (ao:Option Addr) (len cap:Nat) (a:Int) (w:World) (hl:nm.length≤maxLen) :
  Calls Tryz.prog 206 #[.agg #[.int .i64 k,.int .i64 n,stv nm,.slice ao len cap,.int .i64 a]] w fun e w'=>e=.returned (.bool (numB k n && namB k nm))∧Below w.heap.size w w':=by
 have B0:Below w.heap.size w (w.alloc (.cells #[.int .i64 k,.int .i64 n,stv nm,.slice ao len cap,.int .i64 a] 25)):=(Below.refl _ w).alloc (Nat.le_refl _) _
 have Z0:(w.alloc (.cells #[.int .i64 k,.int .i64 n,stv nm,.slice ao len cap,.int .i64 a] 25)).heap[w.heap.size]?=some (.cells #[.int .i64 k,.int .i64 n,stv nm,.slice ao len cap,.int .i64 a] 25):=heap_alloc_new w _
 have c1:=name_r ⟨nm.toArray⟩ (w.alloc (.cells #[.int .i64 k,.int .i64 n,stv nm,.slice ao len cap,.int .i64 a] 25)) (by rw [size_mk];exact hl)
 have hd:(ByteArray.mk nm.toArray).data.toList=nm:=by simp
 rw [hd] at c1
 obtain ⟨V,hV⟩:∃ V,V=(numB k n && namB k nm):=⟨_,rfl⟩
 rw [←hV]
 have hs0:w.heap.size < (w.alloc (.cells #[.int .i64 k,.int .i64 n,stv nm,.slice ao len cap,.int .i64 a] 25)).heap.size:=by simp
 obtain ⟨z0,z1,z2,z3,z4,zf⟩:=box5 Z0
 clear hd
 by_cases h1:k=1
 ·subst h1
  by_cases p:0≤n
  ·have pb:0≤n:=p
   have hX:V=(nm == []):=by rw [hV];simp [numB,namB,call_rng,quant_rng,p]
   clear hV
   rw [hX]
   clear hX V
   go_enter Tryz.func206,Tryz.ntmps206
   go_wp2_with fail
   refine c1.mono ?_
   rintro e w1 ⟨rfl,b1⟩
   have B1:=B0.trans (b1.mono B0.size)
   have Z1:=(b1.block _ hs0).trans Z0
   obtain ⟨y0,y1,y2,y3,y4,yf⟩:=box5 Z1
   clear c1 b1 B0 Z0 Z1 z0 z1 z2 z3 z4 zf
   go_wp2
   go_ret
   exact ⟨ret_bool (by first | rfl | simp),B1⟩
  ·have pb:¬ 0≤n:=p
   have hX:V=false:=by rw [hV];simp [numB,namB,call_rng,quant_rng,p]
   clear hV
   rw [hX]
   clear hX V
   go_enter Tryz.func206,Tryz.ntmps206
   go_wp2_with fail
   refine c1.mono ?_
   rintro e w1 ⟨rfl,b1⟩
   have B1:=B0.trans (b1.mono B0.size)
   have Z1:=(b1.block _ hs0).trans Z0
   obtain ⟨y0,y1,y2,y3,y4,yf⟩:=box5 Z1
   clear c1 b1 B0 Z0 Z1 z0 z1 z2 z3 z4 zf
   go_wp2
   go_ret
   exact ⟨ret_bool (by first | rfl | simp),B1⟩
 have b1:(k == 1)=false:=bne h1
 by_cases h3:k=3
 ·subst h3
  by_cases p:0≤n
  ·have pb:0≤n:=p
   have hX:V=(nm == []):=by rw [hV];simp [numB,namB,call_rng,quant_rng,p]
   clear hV
   rw [hX]
   clear hX V
   go_enter Tryz.func206,Tryz.ntmps206
   go_wp2_with fail
   refine c1.mono ?_
   rintro e w1 ⟨rfl,b1⟩
   have B1:=B0.trans (b1.mono B0.size)
   have Z1:=(b1.block _ hs0).trans Z0
   obtain ⟨y0,y1,y2,y3,y4,yf⟩:=box5 Z1
   clear c1 b1 B0 Z0 Z1 z0 z1 z2 z3 z4 zf
   go_wp2
   go_ret
   exact ⟨ret_bool (by first | rfl | simp),B1⟩
  ·have pb:¬ 0≤n:=p
   have hX:V=false:=by rw [hV];simp [numB,namB,call_rng,quant_rng,p]
   clear hV
   rw [hX]
   clear hX V
   go_enter Tryz.func206,Tryz.ntmps206
   go_wp2_with fail
   refine c1.mono ?_
   rintro e w1 ⟨rfl,b1⟩
   have B1:=B0.trans (b1.mono B0.size)
   have Z1:=(b1.block _ hs0).trans Z0
   obtain ⟨y0,y1,y2,y3,y4,yf⟩:=box5 Z1
   clear c1 b1 B0 Z0 Z1 z0 z1 z2 z3 z4 zf
   go_wp2
   go_ret
   exact ⟨ret_bool (by first | rfl | simp),B1⟩
 have b3:(k == 3)=false:=bne h3
 by_cases h2:k=2
 ·subst h2
  by_cases p:n=0
  ·subst p
   have hX:V=(nm == []):=by rw [hV];simp [numB,namB,call_rng,quant_rng]
   clear hV
   rw [hX]
   clear hX V
   go_enter Tryz.func206,Tryz.ntmps206
   go_wp2_with fail
   refine c1.mono ?_
   rintro e w1 ⟨rfl,b1⟩
   have B1:=B0.trans (b1.mono B0.size)
   have Z1:=(b1.block _ hs0).trans Z0
   obtain ⟨y0,y1,y2,y3,y4,yf⟩:=box5 Z1
   clear c1 b1 B0 Z0 Z1 z0 z1 z2 z3 z4 zf
   go_wp2
   go_ret
   exact ⟨ret_bool (by first | rfl | simp),B1⟩
  ·have pb:(n == 0)=false:=by simpa using p
   by_cases r:n=1
   ·subst r
    have hX:V=(nm == []):=by rw [hV];simp [numB,namB,call_rng,quant_rng]
    clear hV
    rw [hX]
    clear hX V
    go_enter Tryz.func206,Tryz.ntmps206
    go_wp2_with fail
    refine c1.mono ?_
    rintro e w1 ⟨rfl,b1⟩
    have B1:=B0.trans (b1.mono B0.size)
    have Z1:=(b1.block _ hs0).trans Z0
    obtain ⟨y0,y1,y2,y3,y4,yf⟩:=box5 Z1
    clear c1 b1 B0 Z0 Z1 z0 z1 z2 z3 z4 zf
    go_wp2
    go_ret
    exact ⟨ret_bool (by first | rfl | simp),B1⟩
   ·have rb:(n == 1)=false:=by simpa using r
    have hX:V=false:=by rw [hV];simp [numB,namB,call_rng,quant_rng,p,r]
    clear hV
    clear p r
    rw [hX]
    clear hX V
    go_enter Tryz.func206,Tryz.ntmps206
    go_wp2_with fail
    refine c1.mono ?_
    rintro e w1 ⟨rfl,b1⟩
    have B1:=B0.trans (b1.mono B0.size)
    have Z1:=(b1.block _ hs0).trans Z0
    obtain ⟨y0,y1,y2,y3,y4,yf⟩:=box5 Z1
    clear c1 b1 B0 Z0 Z1 z0 z1 z2 z3 z4 zf
    go_wp2
    go_ret
    exact ⟨ret_bool (by first | rfl | simp),B1⟩
 have b2:(k == 2)=false:=bne h2
 by_cases h4:k=4
 ·subst h4
  by_cases p:n=0
  ·subst p
   have hX:V=nameB nm:=by rw [hV];simp [numB,namB,call_rng,quant_rng]
   clear hV
   rw [hX]
   clear hX V
   go_enter Tryz.func206,Tryz.ntmps206
   go_wp2_with fail
   refine c1.mono ?_
   rintro e w1 ⟨rfl,b1⟩
   have B1:=B0.trans (b1.mono B0.size)
   have Z1:=(b1.block _ hs0).trans Z0
   obtain ⟨y0,y1,y2,y3,y4,yf⟩:=box5 Z1
   clear c1 b1 B0 Z0 Z1 z0 z1 z2 z3 z4 zf
   go_wp2
   go_ret
   exact ⟨ret_bool (by first | rfl | simp),B1⟩
  ·have pb:(n == 0)=false:=by simpa using p
   have hX:V=false:=by rw [hV];simp [numB,namB,call_rng,quant_rng,p]
   clear hV
   clear p
   rw [hX]
   clear hX V
   go_enter Tryz.func206,Tryz.ntmps206
   go_wp2_with fail
   refine c1.mono ?_
   rintro e w1 ⟨rfl,b1⟩
   have B1:=B0.trans (b1.mono B0.size)
   have Z1:=(b1.block _ hs0).trans Z0
   obtain ⟨y0,y1,y2,y3,y4,yf⟩:=box5 Z1
   clear c1 b1 B0 Z0 Z1 z0 z1 z2 z3 z4 zf
   go_wp2
   go_ret
   exact ⟨ret_bool (by first | rfl | simp),B1⟩
 have b4:(k == 4)=false:=bne h4
 by_cases h23:k=23
 ·subst h23
  by_cases p:n=0
  ·subst p
   have hX:V=nameB nm:=by rw [hV];simp [numB,namB,call_rng,quant_rng]
   clear hV
   rw [hX]
   clear hX V
   go_enter Tryz.func206,Tryz.ntmps206
   go_wp2_with fail
   refine c1.mono ?_
   rintro e w1 ⟨rfl,b1⟩
   have B1:=B0.trans (b1.mono B0.size)
   have Z1:=(b1.block _ hs0).trans Z0
   obtain ⟨y0,y1,y2,y3,y4,yf⟩:=box5 Z1
   clear c1 b1 B0 Z0 Z1 z0 z1 z2 z3 z4 zf
   go_wp2
   go_ret
   exact ⟨ret_bool (by first | rfl | simp),B1⟩
  ·have pb:(n == 0)=false:=by simpa using p
   have hX:V=false:=by rw [hV];simp [numB,namB,call_rng,quant_rng,p]
   clear hV
   clear p
   rw [hX]
   clear hX V
   go_enter Tryz.func206,Tryz.ntmps206
   go_wp2_with fail
   refine c1.mono ?_
   rintro e w1 ⟨rfl,b1⟩
   have B1:=B0.trans (b1.mono B0.size)
   have Z1:=(b1.block _ hs0).trans Z0
   obtain ⟨y0,y1,y2,y3,y4,yf⟩:=box5 Z1
   clear c1 b1 B0 Z0 Z1 z0 z1 z2 z3 z4 zf
   go_wp2
   go_ret
   exact ⟨ret_bool (by first | rfl | simp),B1⟩
 have b23:(k == 23)=false:=bne h23
 by_cases h20:k=20
 ·subst h20
  by_cases p:1≤n
  ·have pb:1≤n:=p
   by_cases r:n≤10
   ·have rb:n≤10:=r
    have hX:V=(nm == []):=by rw [hV];simp [numB,namB,call_rng,quant_rng,p,r]
    clear hV
    rw [hX]
    clear hX V
    go_enter Tryz.func206,Tryz.ntmps206
    go_wp2_with fail
    refine c1.mono ?_
    rintro e w1 ⟨rfl,b1⟩
    have B1:=B0.trans (b1.mono B0.size)
    have Z1:=(b1.block _ hs0).trans Z0
    obtain ⟨y0,y1,y2,y3,y4,yf⟩:=box5 Z1
    clear c1 b1 B0 Z0 Z1 z0 z1 z2 z3 z4 zf
    go_wp2
    go_ret
    exact ⟨ret_bool (by first | rfl | simp),B1⟩
   ·have rb:¬ n≤10:=r
    have hX:V=false:=by rw [hV];simp [numB,namB,call_rng,quant_rng,p,r]
    clear hV
    rw [hX]
    clear hX V
    go_enter Tryz.func206,Tryz.ntmps206
    go_wp2_with fail
    refine c1.mono ?_
    rintro e w1 ⟨rfl,b1⟩
    have B1:=B0.trans (b1.mono B0.size)
    have Z1:=(b1.block _ hs0).trans Z0
    obtain ⟨y0,y1,y2,y3,y4,yf⟩:=box5 Z1
    clear c1 b1 B0 Z0 Z1 z0 z1 z2 z3 z4 zf
    go_wp2
    go_ret
    exact ⟨ret_bool (by first | rfl | simp),B1⟩
  ·have pb:¬ 1≤n:=p
   have hX:V=false:=by rw [hV];simp [numB,namB,call_rng,quant_rng,p]
   clear hV
   rw [hX]
   clear hX V
   go_enter Tryz.func206,Tryz.ntmps206
   go_wp2_with fail
   refine c1.mono ?_
   rintro e w1 ⟨rfl,b1⟩
   have B1:=B0.trans (b1.mono B0.size)
   have Z1:=(b1.block _ hs0).trans Z0
   obtain ⟨y0,y1,y2,y3,y4,yf⟩:=box5 Z1
   clear c1 b1 B0 Z0 Z1 z0 z1 z2 z3 z4 zf
   go_wp2
   go_ret
   exact ⟨ret_bool (by first | rfl | simp),B1⟩
 have b20:(k == 20)=false:=bne h20
 by_cases h21:k=21
 ·subst h21
  by_cases p:1≤n
  ·have pb:1≤n:=p
   by_cases r:n≤6
   ·have rb:n≤6:=r
    have hX:V=nameB nm:=by rw [hV];simp [numB,namB,call_rng,quant_rng,p,r]
    clear hV
    rw [hX]
    clear hX V
    go_enter Tryz.func206,Tryz.ntmps206
    go_wp2_with fail
    refine c1.mono ?_
    rintro e w1 ⟨rfl,b1⟩
    have B1:=B0.trans (b1.mono B0.size)
    have Z1:=(b1.block _ hs0).trans Z0
    obtain ⟨y0,y1,y2,y3,y4,yf⟩:=box5 Z1
    clear c1 b1 B0 Z0 Z1 z0 z1 z2 z3 z4 zf
    go_wp2
    go_ret
    exact ⟨ret_bool (by first | rfl | simp),B1⟩
   ·have rb:¬ n≤6:=r
    have hX:V=false:=by rw [hV];simp [numB,namB,call_rng,quant_rng,p,r]
    clear hV
    rw [hX]
    clear hX V
    go_enter Tryz.func206,Tryz.ntmps206
    go_wp2_with fail
    refine c1.mono ?_
    rintro e w1 ⟨rfl,b1⟩
    have B1:=B0.trans (b1.mono B0.size)
    have Z1:=(b1.block _ hs0).trans Z0
    obtain ⟨y0,y1,y2,y3,y4,yf⟩:=box5 Z1
    clear c1 b1 B0 Z0 Z1 z0 z1 z2 z3 z4 zf
    go_wp2
    go_ret
    exact ⟨ret_bool (by first | rfl | simp),B1⟩
  ·have pb:¬ 1≤n:=p
   have hX:V=false:=by rw [hV];simp [numB,namB,call_rng,quant_rng,p]
   clear hV
   rw [hX]
   clear hX V
   go_enter Tryz.func206,Tryz.ntmps206
   go_wp2_with fail
   refine c1.mono ?_
   rintro e w1 ⟨rfl,b1⟩
   have B1:=B0.trans (b1.mono B0.size)
   have Z1:=(b1.block _ hs0).trans Z0
   obtain ⟨y0,y1,y2,y3,y4,yf⟩:=box5 Z1
   clear c1 b1 B0 Z0 Z1 z0 z1 z2 z3 z4 zf
   go_wp2
   go_ret
   exact ⟨ret_bool (by first | rfl | simp),B1⟩
 have b21:(k == 21)=false:=bne h21
 by_cases p:n=0
 ·subst p
  have hX:V=(nm == []):=by rw [hV];simp [numB,namB,call_rng,quant_rng,h1,h3,h2,h4,h23,h20,h21]
  clear hV
  clear h1 h3 h2 h4 h23 h20 h21
  rw [hX]
  clear hX V
  go_enter Tryz.func206,Tryz.ntmps206
  go_wp2_with fail
  refine c1.mono ?_
  rintro e w1 ⟨rfl,b1⟩
  have B1:=B0.trans (b1.mono B0.size)
  have Z1:=(b1.block _ hs0).trans Z0
  obtain ⟨y0,y1,y2,y3,y4,yf⟩:=box5 Z1
  clear c1 b1 B0 Z0 Z1 z0 z1 z2 z3 z4 zf
  go_wp2
  go_ret
  exact ⟨ret_bool (by first | rfl | simp),B1⟩
 ·have pb:(n == 0)=false:=by simpa using p
  have hX:V=false:=by rw [hV];simp [numB,namB,call_rng,quant_rng,h1,h3,h2,h4,h23,h20,h21,p]
  clear hV
  clear p h1 h3 h2 h4 h23 h20 h21
  rw [hX]
  clear hX V
  go_enter Tryz.func206,Tryz.ntmps206
  go_wp2_with fail
  refine c1.mono ?_
  rintro e w1 ⟨rfl,b1⟩
  have B1:=B0.trans (b1.mono B0.size)
  have Z1:=(b1.block _ hs0).trans Z0
  obtain ⟨y0,y1,y2,y3,y4,yf⟩:=box5 Z1
  clear c1 b1 B0 Z0 Z1 z0 z1 z2 z3 z4 zf
  go_wp2
  go_ret
  exact ⟨ret_bool (by first | rfl | simp),B1⟩
end Go.Proofs.YtaihhnlfcndecaaGreatDoor

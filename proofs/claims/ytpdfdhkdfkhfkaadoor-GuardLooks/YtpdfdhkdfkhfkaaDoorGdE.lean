import Derived.Test.YtpdfdhkdfkhfkaaDoorGdR
set_option maxRecDepth 100000
set_option maxHeartbeats 8000000
namespace Go.Proofs.YtpdfdhkdfkhfkaaDoor
open Go.ChangeShapes Go.WideShapes Go.ChangeAt Go.RowKit
set_option linter.unusedVariables false
set_option linter.unusedSimpArgs false
abbrev wdV (o a b:Nat):Value:=.agg #[.int .i64 (o:Nat),.int .i64 (a:Nat),.int .i64 (b:Nat)]
def EffOut (w:World)(p q:List Nat)(e:Ending)(w':World):Prop:=∃v u,e=.returned (.tuple #[v,u])/\InG w' w.heap.size v p/\InG w' w.heap.size u q/\Below w.heap.size w w'
theorem InG.mono {w:World}{m n:Nat}{v:Value}{xs:List Nat}(h:InG w m v xs)(hn:n<=m):InG w n v xs:=by
 obtain⟨ao,cap,hv,h|⟨b,off,h1,h2,h3,h4⟩⟩:=h
 ·exact⟨ao,cap,hv,.inl h⟩
 ·exact⟨ao,cap,hv,.inr ⟨b,off,h1,Nat.le_trans hn h2,h3,h4⟩⟩
theorem InG.nil (w:World)(m:Nat):InG w m (.slice none 0 0) []:=⟨none,0,rfl,.inl rfl⟩
theorem InG.one {w:World}{m g x:Nat}{t:TypeId}(h:w.heap[g]?=some (.cells #[.int .i64 (x:Nat)] t (0,0)))(hm:m<=g):InG w m (.slice (some ⟨g,0,none⟩) 1 1) [x]:=by
 refine⟨_,1,rfl,.inr ⟨g,0,rfl,hm,lt_of_block h,fun j y hy=>?_⟩⟩
 match j,hy with
 | 0,hy=>simp at hy;subst hy;rw[cell_of_row _ _ _ _ _ _ h];rfl
theorem InG.two {w:World}{m g x y:Nat}{t:TypeId}(h:w.heap[g]?=some (.cells #[.int .i64 (x:Nat),.int .i64 (y:Nat)] t (0,0)))(hm:m<=g):InG w m (.slice (some ⟨g,0,none⟩) 2 2) [x,y]:=by
 refine⟨_,2,rfl,.inr ⟨g,0,rfl,hm,lt_of_block h,fun j z hz=>?_⟩⟩
 match j,hz with
 | 0,hz=>simp at hz;subst hz;rw[cell_of_row _ _ _ _ _ _ h];rfl
 | 1,hz=>simp at hz;subst hz;rw[cell_of_row _ _ _ _ _ _ h];rfl
theorem InG.three {w:World}{m g x y z:Nat}{t:TypeId}(h:w.heap[g]?=some (.cells #[.int .i64 (x:Nat),.int .i64 (y:Nat),.int .i64 (z:Nat)] t (0,0)))(hm:m<=g):InG w m (.slice (some ⟨g,0,none⟩) 3 3) [x,y,z]:=by
 refine⟨_,3,rfl,.inr ⟨g,0,rfl,hm,lt_of_block h,fun j u hu=>?_⟩⟩
 match j,hu with
 | 0,hu=>simp at hu;subst hu;rw[cell_of_row _ _ _ _ _ _ h];rfl
 | 1,hu=>simp at hu;subst hu;rw[cell_of_row _ _ _ _ _ _ h];rfl
 | 2,hu=>simp at hu;subst hu;rw[cell_of_row _ _ _ _ _ _ h];rfl
theorem bG (w:World)(o:Obj):Below w.heap.size w (w.alloc o):=(Below.refl _ w).alloc (Nat.le_refl _) o
theorem bG2 {w w':World}(o:Obj)(h:Below w.heap.size w w'):Below w.heap.size w (w'.alloc o):=h.alloc h.size o
theorem h1G (w:World)(o:Obj):(w.alloc o).heap[w.heap.size]?=some o:=heap_alloc_new w o
theorem h2G (w:World)(o p:Obj):((w.alloc o).alloc p).heap[w.heap.size]?=some o:=(Below.heap_alloc _ _ _ (by simp)).trans (heap_alloc_new w o)
theorem vertices_c (n:Nat)(hn:n<=1024)(w:World):Calls Tryd.prog 69 #[.int .i64 (n:Nat)] w fun e w'=>∃v,e=.returned v/\InG w' w.heap.size v (List.replicate n 3)/\Below w.heap.size w w':=by
 obtain⟨w1,hw1⟩:∃w1,w1=w.alloc (.cells #[.int .i64 3] 3):=⟨_,rfl⟩
 have B1:Below w.heap.size w w1:=by rw[hw1];exact bG _ _
 have hc:w1.cell? ⟨w.heap.size,0,none⟩=some (.int .i64 3):=by rw[hw1,cell_of_row _ _ _ _ _ _ (h1G w _)];rfl
 have hl:w.heap.size<w1.heap.size:=by rw[hw1];simp
 have HR:=repeat_cg w1 w.heap.size 0 1 n (by omega) hl hc;obtain⟨g,hg⟩:∃g,g=w.heap.size:=⟨_,rfl⟩
 rw[<-hg] at HR B1 hl ⊢;have HG:=Lib.hid hg;clear hg hc;go_enter Tryd.func69,Tryd.ntmps69;go_wp2_with fail;rw[<-hw1,<-HG.out];clear hw1;refine HR.mono ?_;rintro e w2 ⟨v,rfl,HI,B2⟩;go_wp2;go_ret;exact⟨_,rfl,HI.mono (Nat.le_of_lt hl),B1.trans (B2.mono (Nat.le_of_lt hl))⟩
theorem call_1 (w:World):Calls Tryd.prog 68 #[.int .i64 1] w (EffOut w (callE 1).1 (callE 1).2):=by
 have HV:=fun wx:World=>vertices_c 2 (by omega) wx;go_enter Tryd.func68,Tryd.ntmps68;go_wp2_with fail;refine(HV _).mono ?_;rintro e w2 ⟨v,rfl,HI,B2⟩;have HZ:Hid (EffOut w (callE 1).1 (callE 1).2 (.returned (.tuple #[v,.slice (some ⟨w2.heap.size,0,none⟩) 1 1])) (w2.alloc (.cells #[.int .i64 2] 3))) :=
  ⟨_,_,rfl,HI.below (bG _ _),InG.one (x:=2) (h1G _ _) B2.size,bG2 _ B2⟩
 clear HV HI B2;go_wp2;go_ret2;exact HZ.out
theorem call_2 (w:World):Calls Tryd.prog 68 #[.int .i64 2] w (EffOut w (callE 2).1 (callE 2).2):=by
 have HV:=fun wx:World=>vertices_c 2 (by omega) wx;go_enter Tryd.func68,Tryd.ntmps68;go_wp2_with fail;refine(HV _).mono ?_;rintro e w2 ⟨v,rfl,HI,B2⟩;have HZ:Hid (EffOut w (callE 2).1 (callE 2).2 (.returned (.tuple #[v,.slice (some ⟨w2.heap.size,0,none⟩) 1 1])) (w2.alloc (.cells #[.int .i64 2] 3))) :=
  ⟨_,_,rfl,HI.below (bG _ _),InG.one (x:=2) (h1G _ _) B2.size,bG2 _ B2⟩
 clear HV HI B2;go_wp2;go_ret2;exact HZ.out
theorem call_3 (w:World):Calls Tryd.prog 68 #[.int .i64 3] w (EffOut w (callE 3).1 (callE 3).2):=by
 have HV:=fun wx:World=>vertices_c 2 (by omega) wx;go_enter Tryd.func68,Tryd.ntmps68;go_wp2_with fail;refine(HV _).mono ?_;rintro e w2 ⟨v,rfl,HI,B2⟩;have HZ:Hid (EffOut w (callE 3).1 (callE 3).2 (.returned (.tuple #[v,.slice (some ⟨w2.heap.size,0,none⟩) 1 1])) (w2.alloc (.cells #[.int .i64 1] 3))) :=
  ⟨_,_,rfl,HI.below (bG _ _),InG.one (x:=1) (h1G _ _) B2.size,bG2 _ B2⟩
 clear HV HI B2;go_wp2;go_ret2;exact HZ.out
theorem call_4 (w:World):Calls Tryd.prog 68 #[.int .i64 4] w (EffOut w (callE 4).1 (callE 4).2):=by
 have HV:=fun wx:World=>vertices_c 1 (by omega) wx;go_enter Tryd.func68,Tryd.ntmps68;go_wp2_with fail;refine(HV _).mono ?_;rintro e w2 ⟨v,rfl,HI,B2⟩;have HZ:Hid (EffOut w (callE 4).1 (callE 4).2 (.returned (.tuple #[v,.slice (some ⟨w2.heap.size,0,none⟩) 1 1])) (w2.alloc (.cells #[.int .i64 1] 3))) :=
  ⟨_,_,rfl,HI.below (bG _ _),InG.one (x:=1) (h1G _ _) B2.size,bG2 _ B2⟩
 clear HV HI B2;go_wp2;go_ret2;exact HZ.out
theorem call_5 (w:World):Calls Tryd.prog 68 #[.int .i64 5] w (EffOut w (callE 5).1 (callE 5).2):=by
 have HV:=fun wx:World=>vertices_c 1 (by omega) wx;go_enter Tryd.func68,Tryd.ntmps68;go_wp2_with fail;refine(HV _).mono ?_;rintro e w2 ⟨v,rfl,HI,B2⟩;have HZ:Hid (EffOut w (callE 5).1 (callE 5).2 (.returned (.tuple #[v,.slice (some ⟨w2.heap.size,0,none⟩) 1 1])) (w2.alloc (.cells #[.int .i64 1] 3))) :=
  ⟨_,_,rfl,HI.below (bG _ _),InG.one (x:=1) (h1G _ _) B2.size,bG2 _ B2⟩
 clear HV HI B2;go_wp2;go_ret2;exact HZ.out
theorem call_6 (w:World):Calls Tryd.prog 68 #[.int .i64 6] w (EffOut w (callE 6).1 (callE 6).2):=by
 have HV:=fun wx:World=>vertices_c 1 (by omega) wx;go_enter Tryd.func68,Tryd.ntmps68;go_wp2_with fail;refine(HV _).mono ?_;rintro e w2 ⟨v,rfl,HI,B2⟩;have HZ:Hid (EffOut w (callE 6).1 (callE 6).2 (.returned (.tuple #[v,.slice (some ⟨w2.heap.size,0,none⟩) 1 1])) (w2.alloc (.cells #[.int .i64 1] 3))) :=
  ⟨_,_,rfl,HI.below (bG _ _),InG.one (x:=1) (h1G _ _) B2.size,bG2 _ B2⟩
 clear HV HI B2;go_wp2;go_ret2;exact HZ.out
theorem call_7 (w:World):Calls Tryd.prog 68 #[.int .i64 7] w (EffOut w (callE 7).1 (callE 7).2):=by
 have HV:=fun wx:World=>vertices_c 1 (by omega) wx;go_enter Tryd.func68,Tryd.ntmps68;go_wp2_with fail;refine(HV _).mono ?_;rintro e w2 ⟨v,rfl,HI,B2⟩;have HZ:Hid (EffOut w (callE 7).1 (callE 7).2 (.returned (.tuple #[v,.slice (some ⟨w2.heap.size,0,none⟩) 1 1])) (w2.alloc (.cells #[.int .i64 1] 3))) :=
  ⟨_,_,rfl,HI.below (bG _ _),InG.one (x:=1) (h1G _ _) B2.size,bG2 _ B2⟩
 clear HV HI B2;go_wp2;go_ret2;exact HZ.out
theorem call_8 (w:World):Calls Tryd.prog 68 #[.int .i64 8] w (EffOut w (callE 8).1 (callE 8).2):=by
 have HV:=fun wx:World=>vertices_c 1 (by omega) wx;go_enter Tryd.func68,Tryd.ntmps68;go_wp2_with fail;refine(HV _).mono ?_;rintro e w2 ⟨v,rfl,HI,B2⟩;have HZ:Hid (EffOut w (callE 8).1 (callE 8).2 (.returned (.tuple #[v,.slice (some ⟨w2.heap.size,0,none⟩) 1 1])) (w2.alloc (.cells #[.int .i64 1] 3))) :=
  ⟨_,_,rfl,HI.below (bG _ _),InG.one (x:=1) (h1G _ _) B2.size,bG2 _ B2⟩
 clear HV HI B2;go_wp2;go_ret2;exact HZ.out
theorem call_9 (w:World):Calls Tryd.prog 68 #[.int .i64 9] w (EffOut w (callE 9).1 (callE 9).2):=by
 have HV:=fun wx:World=>vertices_c 1 (by omega) wx;go_enter Tryd.func68,Tryd.ntmps68;go_wp2_with fail;refine(HV _).mono ?_;rintro e w2 ⟨v,rfl,HI,B2⟩;have HZ:Hid (EffOut w (callE 9).1 (callE 9).2 (.returned (.tuple #[v,.slice (some ⟨w2.heap.size,0,none⟩) 1 1])) (w2.alloc (.cells #[.int .i64 1] 3))) :=
  ⟨_,_,rfl,HI.below (bG _ _),InG.one (x:=1) (h1G _ _) B2.size,bG2 _ B2⟩
 clear HV HI B2;go_wp2;go_ret2;exact HZ.out
theorem call_10 (w:World):Calls Tryd.prog 68 #[.int .i64 10] w (EffOut w (callE 10).1 (callE 10).2):=by
 have HV:=fun wx:World=>vertices_c 1 (by omega) wx;go_enter Tryd.func68,Tryd.ntmps68;go_wp2_with fail;refine(HV _).mono ?_;rintro e w2 ⟨v,rfl,HI,B2⟩;have HZ:Hid (EffOut w (callE 10).1 (callE 10).2 (.returned (.tuple #[v,.slice (some ⟨w2.heap.size,0,none⟩) 1 1])) (w2.alloc (.cells #[.int .i64 3] 3))) :=
  ⟨_,_,rfl,HI.below (bG _ _),InG.one (x:=3) (h1G _ _) B2.size,bG2 _ B2⟩
 clear HV HI B2;go_wp2;go_ret2;exact HZ.out
theorem call_c (a:Nat)(h:1<=a/\a<=10)(w:World):Calls Tryd.prog 68 #[.int .i64 (a:Nat)] w (EffOut w (callE a).1 (callE a).2):=by
 match a,h with
 | 1,_=>exact call_1 w
 | 2,_=>exact call_2 w
 | 3,_=>exact call_3 w
 | 4,_=>exact call_4 w
 | 5,_=>exact call_5 w
 | 6,_=>exact call_6 w
 | 7,_=>exact call_7 w
 | 8,_=>exact call_8 w
 | 9,_=>exact call_9 w
 | 10,_=>exact call_10 w
 | 0,h=>omega
 | n+11,h=>omega
theorem hA2 (w:World)(o p:Obj):((w.alloc o).alloc p).heap[w.heap.size+1]?=some p:=by
 have:=heap_alloc_new (w.alloc o) p
 simpa using this
theorem hA2b (w:World)(o p q:Obj):(((w.alloc o).alloc p).alloc q).heap[w.heap.size+1]?=some p:=(Below.heap_alloc _ _ _ (by simp)).trans (hA2 w o p)
theorem hA3 (w:World)(o p q:Obj):(((w.alloc o).alloc p).alloc q).heap[w.heap.size+2]?=some q:=by
 have:=heap_alloc_new ((w.alloc o).alloc p) q
 simpa using this
theorem EffOut.mono {w w1:World}{p q:List Nat}{e:Ending}{w':World}(B:Below w.heap.size w w1)(h:EffOut w1 p q e w'):EffOut w p q e w':=by
 obtain⟨v,u,he,h1,h2,h3⟩:=h;exact⟨v,u,he,h1.mono B.size,h2.mono B.size,B.trans (h3.mono B.size)⟩
abbrev bxW (o a b:Nat):Obj:=.cells #[.int .i64 (o:Nat),.int .i64 (a:Nat),.int .i64 (b:Nat)] 81
theorem eff_0 (c:Cd)(a b:Nat)(w:World)(ak:Option Addr)(nk ck:Nat):Calls Tryd.prog 57 #[wdV 0 a b,.slice ak nk ck] w (EffOut w (effE c 0 a b).1 (effE c 0 a b).2):=by
 have HZ:Hid (EffOut w (effE c 0 a b).1 (effE c 0 a b).2 (.returned (.tuple #[.slice none 0 0,.slice none 0 0])) (w.alloc (bxW 0 a b))) :=
  ⟨_,_,rfl,InG.nil _ _,InG.nil _ _,bG w _⟩
 go_enter Tryd.func57,Tryd.ntmps57;go_wp2;go_ret2;exact HZ.out
theorem eff_2 (c:Cd)(a b:Nat)(w:World)(ak:Option Addr)(nk ck:Nat):Calls Tryd.prog 57 #[wdV 2 a b,.slice ak nk ck] w (EffOut w (effE c 2 a b).1 (effE c 2 a b).2):=by
 have HZ:Hid (EffOut w (effE c 2 a b).1 (effE c 2 a b).2 (.returned (.tuple #[.slice none 0 0,.slice (some ⟨w.heap.size+1,0,none⟩) 1 1])) ((w.alloc (bxW 2 a b)).alloc (.cells #[.int .i64 3] 3))) :=
  ⟨_,_,rfl,InG.nil _ _,InG.one (x:=3) (hA2 w _ _) (by omega),bG2 _ (bG w _)⟩
 go_enter Tryd.func57,Tryd.ntmps57;go_wp2;go_ret2;exact HZ.out
theorem eff_3 (c:Cd)(a b:Nat)(w:World)(ak:Option Addr)(nk ck:Nat):Calls Tryd.prog 57 #[wdV 3 a b,.slice ak nk ck] w (EffOut w (effE c 3 a b).1 (effE c 3 a b).2):=by
 have HZ:Hid (EffOut w (effE c 3 a b).1 (effE c 3 a b).2 (.returned (.tuple #[.slice none 0 0,.slice (some ⟨w.heap.size+1,0,none⟩) 1 1])) ((w.alloc (bxW 3 a b)).alloc (.cells #[.int .i64 3] 3))) :=
  ⟨_,_,rfl,InG.nil _ _,InG.one (x:=3) (hA2 w _ _) (by omega),bG2 _ (bG w _)⟩
 go_enter Tryd.func57,Tryd.ntmps57;go_wp2;go_ret2;exact HZ.out
theorem eff_4 (c:Cd)(a b:Nat)(w:World)(ak:Option Addr)(nk ck:Nat):Calls Tryd.prog 57 #[wdV 4 a b,.slice ak nk ck] w (EffOut w (effE c 4 a b).1 (effE c 4 a b).2):=by
 have HZ:Hid (EffOut w (effE c 4 a b).1 (effE c 4 a b).2 (.returned (.tuple #[.slice (some ⟨w.heap.size+1,0,none⟩) 1 1,.slice (some ⟨w.heap.size+2,0,none⟩) 1 1])) (((w.alloc (bxW 4 a b)).alloc (.cells #[.int .i64 1] 3)).alloc (.cells #[.int .i64 1] 3))) :=
  ⟨_,_,rfl,InG.one (x:=1) (hA2b w _ _ _) (by omega),InG.one (x:=1) (hA3 w _ _ _) (by omega),bG2 _ (bG2 _ (bG w _))⟩
 go_enter Tryd.func57,Tryd.ntmps57;go_wp2;go_ret2;exact HZ.out
theorem eff_5 (c:Cd)(a b:Nat)(w:World)(ak:Option Addr)(nk ck:Nat):Calls Tryd.prog 57 #[wdV 5 a b,.slice ak nk ck] w (EffOut w (effE c 5 a b).1 (effE c 5 a b).2):=by
 have HZ:Hid (EffOut w (effE c 5 a b).1 (effE c 5 a b).2 (.returned (.tuple #[.slice (some ⟨w.heap.size+1,0,none⟩) 1 1,.slice (some ⟨w.heap.size+2,0,none⟩) 1 1])) (((w.alloc (bxW 5 a b)).alloc (.cells #[.int .i64 2] 3)).alloc (.cells #[.int .i64 2] 3))) :=
  ⟨_,_,rfl,InG.one (x:=2) (hA2b w _ _ _) (by omega),InG.one (x:=2) (hA3 w _ _ _) (by omega),bG2 _ (bG2 _ (bG w _))⟩
 go_enter Tryd.func57,Tryd.ntmps57;go_wp2;go_ret2;exact HZ.out
theorem eff_6 (c:Cd)(a b:Nat)(w:World)(ak:Option Addr)(nk ck:Nat):Calls Tryd.prog 57 #[wdV 6 a b,.slice ak nk ck] w (EffOut w (effE c 6 a b).1 (effE c 6 a b).2):=by
 have HZ:Hid (EffOut w (effE c 6 a b).1 (effE c 6 a b).2 (.returned (.tuple #[.slice (some ⟨w.heap.size+1,0,none⟩) 2 2,.slice (some ⟨w.heap.size+2,0,none⟩) 1 1])) (((w.alloc (bxW 6 a b)).alloc (.cells #[.int .i64 1,.int .i64 1] 3)).alloc (.cells #[.int .i64 1] 3))) :=
  ⟨_,_,rfl,InG.two (x:=1) (y:=1) (hA2b w _ _ _) (by omega),InG.one (x:=1) (hA3 w _ _ _) (by omega),bG2 _ (bG2 _ (bG w _))⟩
 go_enter Tryd.func57,Tryd.ntmps57;go_wp2;go_ret2;exact HZ.out
theorem eff_7 (c:Cd)(a b:Nat)(w:World)(ak:Option Addr)(nk ck:Nat):Calls Tryd.prog 57 #[wdV 7 a b,.slice ak nk ck] w (EffOut w (effE c 7 a b).1 (effE c 7 a b).2):=by
 have HZ:Hid (EffOut w (effE c 7 a b).1 (effE c 7 a b).2 (.returned (.tuple #[.slice (some ⟨w.heap.size+1,0,none⟩) 2 2,.slice (some ⟨w.heap.size+2,0,none⟩) 1 1])) (((w.alloc (bxW 7 a b)).alloc (.cells #[.int .i64 1,.int .i64 1] 3)).alloc (.cells #[.int .i64 1] 3))) :=
  ⟨_,_,rfl,InG.two (x:=1) (y:=1) (hA2b w _ _ _) (by omega),InG.one (x:=1) (hA3 w _ _ _) (by omega),bG2 _ (bG2 _ (bG w _))⟩
 go_enter Tryd.func57,Tryd.ntmps57;go_wp2;go_ret2;exact HZ.out
theorem eff_8 (c:Cd)(a b:Nat)(w:World)(ak:Option Addr)(nk ck:Nat):Calls Tryd.prog 57 #[wdV 8 a b,.slice ak nk ck] w (EffOut w (effE c 8 a b).1 (effE c 8 a b).2):=by
 have HZ:Hid (EffOut w (effE c 8 a b).1 (effE c 8 a b).2 (.returned (.tuple #[.slice (some ⟨w.heap.size+1,0,none⟩) 2 2,.slice (some ⟨w.heap.size+2,0,none⟩) 1 1])) (((w.alloc (bxW 8 a b)).alloc (.cells #[.int .i64 1,.int .i64 1] 3)).alloc (.cells #[.int .i64 1] 3))) :=
  ⟨_,_,rfl,InG.two (x:=1) (y:=1) (hA2b w _ _ _) (by omega),InG.one (x:=1) (hA3 w _ _ _) (by omega),bG2 _ (bG2 _ (bG w _))⟩
 go_enter Tryd.func57,Tryd.ntmps57;go_wp2;go_ret2;exact HZ.out
theorem eff_9 (c:Cd)(a b:Nat)(w:World)(ak:Option Addr)(nk ck:Nat):Calls Tryd.prog 57 #[wdV 9 a b,.slice ak nk ck] w (EffOut w (effE c 9 a b).1 (effE c 9 a b).2):=by
 have HZ:Hid (EffOut w (effE c 9 a b).1 (effE c 9 a b).2 (.returned (.tuple #[.slice (some ⟨w.heap.size+1,0,none⟩) 2 2,.slice (some ⟨w.heap.size+2,0,none⟩) 1 1])) (((w.alloc (bxW 9 a b)).alloc (.cells #[.int .i64 1,.int .i64 1] 3)).alloc (.cells #[.int .i64 1] 3))) :=
  ⟨_,_,rfl,InG.two (x:=1) (y:=1) (hA2b w _ _ _) (by omega),InG.one (x:=1) (hA3 w _ _ _) (by omega),bG2 _ (bG2 _ (bG w _))⟩
 go_enter Tryd.func57,Tryd.ntmps57;go_wp2;go_ret2;exact HZ.out
theorem eff_10 (c:Cd)(a b:Nat)(w:World)(ak:Option Addr)(nk ck:Nat):Calls Tryd.prog 57 #[wdV 10 a b,.slice ak nk ck] w (EffOut w (effE c 10 a b).1 (effE c 10 a b).2):=by
 have HZ:Hid (EffOut w (effE c 10 a b).1 (effE c 10 a b).2 (.returned (.tuple #[.slice (some ⟨w.heap.size+1,0,none⟩) 2 2,.slice (some ⟨w.heap.size+2,0,none⟩) 1 1])) (((w.alloc (bxW 10 a b)).alloc (.cells #[.int .i64 1,.int .i64 1] 3)).alloc (.cells #[.int .i64 1] 3))) :=
  ⟨_,_,rfl,InG.two (x:=1) (y:=1) (hA2b w _ _ _) (by omega),InG.one (x:=1) (hA3 w _ _ _) (by omega),bG2 _ (bG2 _ (bG w _))⟩
 go_enter Tryd.func57,Tryd.ntmps57;go_wp2;go_ret2;exact HZ.out
theorem eff_11 (c:Cd)(a b:Nat)(w:World)(ak:Option Addr)(nk ck:Nat):Calls Tryd.prog 57 #[wdV 11 a b,.slice ak nk ck] w (EffOut w (effE c 11 a b).1 (effE c 11 a b).2):=by
 have HZ:Hid (EffOut w (effE c 11 a b).1 (effE c 11 a b).2 (.returned (.tuple #[.slice (some ⟨w.heap.size+1,0,none⟩) 2 2,.slice (some ⟨w.heap.size+2,0,none⟩) 1 1])) (((w.alloc (bxW 11 a b)).alloc (.cells #[.int .i64 (b:Nat),.int .i64 (b:Nat)] 3)).alloc (.cells #[.int .i64 2] 3))) :=
  ⟨_,_,rfl,InG.two (x:=b) (y:=b) (hA2b w _ _ _) (by omega),InG.one (x:=2) (hA3 w _ _ _) (by omega),bG2 _ (bG2 _ (bG w _))⟩
 go_enter Tryd.func57,Tryd.ntmps57;go_wp2;go_ret2;exact HZ.out
theorem eff_12 (c:Cd)(a b:Nat)(w:World)(ak:Option Addr)(nk ck:Nat):Calls Tryd.prog 57 #[wdV 12 a b,.slice ak nk ck] w (EffOut w (effE c 12 a b).1 (effE c 12 a b).2):=by
 have HZ:Hid (EffOut w (effE c 12 a b).1 (effE c 12 a b).2 (.returned (.tuple #[.slice (some ⟨w.heap.size+1,0,none⟩) 2 2,.slice (some ⟨w.heap.size+2,0,none⟩) 1 1])) (((w.alloc (bxW 12 a b)).alloc (.cells #[.int .i64 1,.int .i64 1] 3)).alloc (.cells #[.int .i64 2] 3))) :=
  ⟨_,_,rfl,InG.two (x:=1) (y:=1) (hA2b w _ _ _) (by omega),InG.one (x:=2) (hA3 w _ _ _) (by omega),bG2 _ (bG2 _ (bG w _))⟩
 go_enter Tryd.func57,Tryd.ntmps57;go_wp2;go_ret2;exact HZ.out
theorem eff_13 (c:Cd)(a b:Nat)(w:World)(ak:Option Addr)(nk ck:Nat):Calls Tryd.prog 57 #[wdV 13 a b,.slice ak nk ck] w (EffOut w (effE c 13 a b).1 (effE c 13 a b).2):=by
 have HZ:Hid (EffOut w (effE c 13 a b).1 (effE c 13 a b).2 (.returned (.tuple #[.slice none 0 0,.slice none 0 0])) (w.alloc (bxW 13 a b))) :=
  ⟨_,_,rfl,InG.nil _ _,InG.nil _ _,bG w _⟩
 go_enter Tryd.func57,Tryd.ntmps57;go_wp2;go_ret2;exact HZ.out
theorem eff_14 (c:Cd)(a b:Nat)(w:World)(ak:Option Addr)(nk ck:Nat):Calls Tryd.prog 57 #[wdV 14 a b,.slice ak nk ck] w (EffOut w (effE c 14 a b).1 (effE c 14 a b).2):=by
 have HZ:Hid (EffOut w (effE c 14 a b).1 (effE c 14 a b).2 (.returned (.tuple #[.slice (some ⟨w.heap.size+1,0,none⟩) 1 1,.slice none 0 0])) ((w.alloc (bxW 14 a b)).alloc (.cells #[.int .i64 2] 3))) :=
  ⟨_,_,rfl,InG.one (x:=2) (hA2 w _ _) (by omega),InG.nil _ _,bG2 _ (bG w _)⟩
 go_enter Tryd.func57,Tryd.ntmps57;go_wp2;go_ret2;exact HZ.out
theorem eff_15 (c:Cd)(a b:Nat)(w:World)(ak:Option Addr)(nk ck:Nat):Calls Tryd.prog 57 #[wdV 15 a b,.slice ak nk ck] w (EffOut w (effE c 15 a b).1 (effE c 15 a b).2):=by
 have HZ:Hid (EffOut w (effE c 15 a b).1 (effE c 15 a b).2 (.returned (.tuple #[.slice (some ⟨w.heap.size+1,0,none⟩) 1 1,.slice none 0 0])) ((w.alloc (bxW 15 a b)).alloc (.cells #[.int .i64 2] 3))) :=
  ⟨_,_,rfl,InG.one (x:=2) (hA2 w _ _) (by omega),InG.nil _ _,bG2 _ (bG w _)⟩
 go_enter Tryd.func57,Tryd.ntmps57;go_wp2;go_ret2;exact HZ.out
theorem eff_17 (c:Cd)(a b:Nat)(w:World)(ak:Option Addr)(nk ck:Nat):Calls Tryd.prog 57 #[wdV 17 a b,.slice ak nk ck] w (EffOut w (effE c 17 a b).1 (effE c 17 a b).2):=by
 have HZ:Hid (EffOut w (effE c 17 a b).1 (effE c 17 a b).2 (.returned (.tuple #[.slice none 0 0,.slice none 0 0])) (w.alloc (bxW 17 a b))) :=
  ⟨_,_,rfl,InG.nil _ _,InG.nil _ _,bG w _⟩
 go_enter Tryd.func57,Tryd.ntmps57;go_wp2;go_ret2;exact HZ.out
theorem eff_19 (c:Cd)(a b:Nat)(w:World)(ak:Option Addr)(nk ck:Nat):Calls Tryd.prog 57 #[wdV 19 a b,.slice ak nk ck] w (EffOut w (effE c 19 a b).1 (effE c 19 a b).2):=by
 have HZ:Hid (EffOut w (effE c 19 a b).1 (effE c 19 a b).2 (.returned (.tuple #[.slice none 0 0,.slice none 0 0])) (w.alloc (bxW 19 a b))) :=
  ⟨_,_,rfl,InG.nil _ _,InG.nil _ _,bG w _⟩
 go_enter Tryd.func57,Tryd.ntmps57;go_wp2;go_ret2;exact HZ.out
theorem eff_20 (c:Cd)(a b:Nat)(w:World)(ak:Option Addr)(nk ck:Nat):Calls Tryd.prog 57 #[wdV 20 a b,.slice ak nk ck] w (EffOut w (effE c 20 a b).1 (effE c 20 a b).2):=by
 have HZ:Hid (EffOut w (effE c 20 a b).1 (effE c 20 a b).2 (.returned (.tuple #[.slice none 0 0,.slice none 0 0])) (w.alloc (bxW 20 a b))) :=
  ⟨_,_,rfl,InG.nil _ _,InG.nil _ _,bG w _⟩
 go_enter Tryd.func57,Tryd.ntmps57;go_wp2;go_ret2;exact HZ.out
theorem eff_21 (c:Cd)(a b:Nat)(w:World)(ak:Option Addr)(nk ck:Nat):Calls Tryd.prog 57 #[wdV 21 a b,.slice ak nk ck] w (EffOut w (effE c 21 a b).1 (effE c 21 a b).2):=by
 have HZ:Hid (EffOut w (effE c 21 a b).1 (effE c 21 a b).2 (.returned (.tuple #[.slice none 0 0,.slice none 0 0])) (w.alloc (bxW 21 a b))) :=
  ⟨_,_,rfl,InG.nil _ _,InG.nil _ _,bG w _⟩
 go_enter Tryd.func57,Tryd.ntmps57;go_wp2;go_ret2;exact HZ.out
theorem eff_24 (c:Cd)(a b:Nat)(w:World)(ak:Option Addr)(nk ck:Nat):Calls Tryd.prog 57 #[wdV 24 a b,.slice ak nk ck] w (EffOut w (effE c 24 a b).1 (effE c 24 a b).2):=by
 have HZ:Hid (EffOut w (effE c 24 a b).1 (effE c 24 a b).2 (.returned (.tuple #[.slice none 0 0,.slice none 0 0])) (w.alloc (bxW 24 a b))) :=
  ⟨_,_,rfl,InG.nil _ _,InG.nil _ _,bG w _⟩
 go_enter Tryd.func57,Tryd.ntmps57;go_wp2;go_ret2;exact HZ.out
theorem eff_25 (c:Cd)(a b:Nat)(w:World)(ak:Option Addr)(nk ck:Nat):Calls Tryd.prog 57 #[wdV 25 a b,.slice ak nk ck] w (EffOut w (effE c 25 a b).1 (effE c 25 a b).2):=by
 have HZ:Hid (EffOut w (effE c 25 a b).1 (effE c 25 a b).2 (.returned (.tuple #[.slice none 0 0,.slice none 0 0])) (w.alloc (bxW 25 a b))) :=
  ⟨_,_,rfl,InG.nil _ _,InG.nil _ _,bG w _⟩
 go_enter Tryd.func57,Tryd.ntmps57;go_wp2;go_ret2;exact HZ.out
theorem eff_26 (c:Cd)(a b:Nat)(w:World)(ak:Option Addr)(nk ck:Nat):Calls Tryd.prog 57 #[wdV 26 a b,.slice ak nk ck] w (EffOut w (effE c 26 a b).1 (effE c 26 a b).2):=by
 have HZ:Hid (EffOut w (effE c 26 a b).1 (effE c 26 a b).2 (.returned (.tuple #[.slice (some ⟨w.heap.size+1,0,none⟩) 3 3,.slice (some ⟨w.heap.size+2,0,none⟩) 2 2])) (((w.alloc (bxW 26 a b)).alloc (.cells #[.int .i64 1,.int .i64 2,.int .i64 1] 3)).alloc (.cells #[.int .i64 1,.int .i64 2] 3))) :=
  ⟨_,_,rfl,InG.three (x:=1) (y:=2) (z:=1) (hA2b w _ _ _) (by omega),InG.two (x:=1) (y:=2) (hA3 w _ _ _) (by omega),bG2 _ (bG2 _ (bG w _))⟩
 go_enter Tryd.func57,Tryd.ntmps57;go_wp2;go_ret2;exact HZ.out
theorem eff_27 (c:Cd)(a b:Nat)(w:World)(ak:Option Addr)(nk ck:Nat):Calls Tryd.prog 57 #[wdV 27 a b,.slice ak nk ck] w (EffOut w (effE c 27 a b).1 (effE c 27 a b).2):=by
 have HZ:Hid (EffOut w (effE c 27 a b).1 (effE c 27 a b).2 (.returned (.tuple #[.slice (some ⟨w.heap.size+1,0,none⟩) 1 1,.slice none 0 0])) ((w.alloc (bxW 27 a b)).alloc (.cells #[.int .i64 2] 3))) :=
  ⟨_,_,rfl,InG.one (x:=2) (hA2 w _ _) (by omega),InG.nil _ _,bG2 _ (bG w _)⟩
 go_enter Tryd.func57,Tryd.ntmps57;go_wp2;go_ret2;exact HZ.out
end Go.Proofs.YtpdfdhkdfkhfkaaDoor

import Derived.Test.YtbjdkekhnajafaaGreatDoorLexR
set_option maxRecDepth 100000
set_option maxHeartbeats 8000000
namespace Go.Proofs.YtbjdkekhnajafaaGreatDoor
open Go.ChangeShapes Go.WideShapes Go.ChangeAt Go.RowKit
set_option linter.unusedVariables false
set_option linter.unusedSimpArgs false
theorem DP {k:Int}(h19:k≠19)(h21:k≠21)(h18:k≠18)(h17:k≠17)(h7:k≠7)(h13:k≠13)(h14:k≠14)(h15:k≠15)(h16:k≠16)(h8:k≠8)(h9:k≠9)(h10:k≠10)(h11:k≠11)(h12:k≠12)(h6:k≠6):dd k=8:=by
 have e19:((19:Int)==k)=false:=by rw[beq_eq_false_iff_ne];exact fun e=>h19 e.symm
 have e21:((21:Int)==k)=false:=by rw[beq_eq_false_iff_ne];exact fun e=>h21 e.symm
 have e18:((18:Int)==k)=false:=by rw[beq_eq_false_iff_ne];exact fun e=>h18 e.symm
 have e17:((17:Int)==k)=false:=by rw[beq_eq_false_iff_ne];exact fun e=>h17 e.symm
 have e7:((7:Int)==k)=false:=by rw[beq_eq_false_iff_ne];exact fun e=>h7 e.symm
 have e13:((13:Int)==k)=false:=by rw[beq_eq_false_iff_ne];exact fun e=>h13 e.symm
 have e14:((14:Int)==k)=false:=by rw[beq_eq_false_iff_ne];exact fun e=>h14 e.symm
 have e15:((15:Int)==k)=false:=by rw[beq_eq_false_iff_ne];exact fun e=>h15 e.symm
 have e16:((16:Int)==k)=false:=by rw[beq_eq_false_iff_ne];exact fun e=>h16 e.symm
 have e8:((8:Int)==k)=false:=by rw[beq_eq_false_iff_ne];exact fun e=>h8 e.symm
 have e9:((9:Int)==k)=false:=by rw[beq_eq_false_iff_ne];exact fun e=>h9 e.symm
 have e10:((10:Int)==k)=false:=by rw[beq_eq_false_iff_ne];exact fun e=>h10 e.symm
 have e11:((11:Int)==k)=false:=by rw[beq_eq_false_iff_ne];exact fun e=>h11 e.symm
 have e12:((12:Int)==k)=false:=by rw[beq_eq_false_iff_ne];exact fun e=>h12 e.symm
 have e6:((6:Int)==k)=false:=by rw[beq_eq_false_iff_ne];exact fun e=>h6 e.symm
 have ho:dS k=none:=by simp[dS,eE,List.find?,e18,e17,e13,e14,e15,e16,e8,e9,e10,e11,e12]
 simp[dd,ho,bne h19,bne h21,bne h7,bne h6]
theorem BF (k:Int)(w:World) :
  Calls Tryz.prog 290 #[.int .i64 k] w fun e w'=>e=.returned (.int .i64 (dd k:Nat))/\w'=w:=by
 by_cases h19:k=19
 ·subst h19;go_enter Tryz.func290,Tryz.ntmps290;go_wp2;go_ret;exact⟨rfl,rfl⟩
 have b19:(k==19)=false:=bne h19;by_cases h21:k=21
 ·subst h21;go_enter Tryz.func290,Tryz.ntmps290;go_wp2;go_ret;exact⟨rfl,rfl⟩
 have b21:(k==21)=false:=bne h21;by_cases h18:k=18
 ·subst h18;go_enter Tryz.func290,Tryz.ntmps290;go_wp2;go_ret;exact⟨rfl,rfl⟩
 have b18:(k==18)=false:=bne h18;by_cases h17:k=17
 ·subst h17;go_enter Tryz.func290,Tryz.ntmps290;go_wp2;go_ret;exact⟨rfl,rfl⟩
 have b17:(k==17)=false:=bne h17;by_cases h7:k=7
 ·subst h7;go_enter Tryz.func290,Tryz.ntmps290;go_wp2;go_ret;exact⟨rfl,rfl⟩
 have b7:(k==7)=false:=bne h7;by_cases h13:k=13
 ·subst h13;go_enter Tryz.func290,Tryz.ntmps290;go_wp2;go_ret;exact⟨rfl,rfl⟩
 have b13:(k==13)=false:=bne h13;by_cases h14:k=14
 ·subst h14;go_enter Tryz.func290,Tryz.ntmps290;go_wp2;go_ret;exact⟨rfl,rfl⟩
 have b14:(k==14)=false:=bne h14;by_cases h15:k=15
 ·subst h15;go_enter Tryz.func290,Tryz.ntmps290;go_wp2;go_ret;exact⟨rfl,rfl⟩
 have b15:(k==15)=false:=bne h15;by_cases h16:k=16
 ·subst h16;go_enter Tryz.func290,Tryz.ntmps290;go_wp2;go_ret;exact⟨rfl,rfl⟩
 have b16:(k==16)=false:=bne h16;by_cases h8:k=8
 ·subst h8;go_enter Tryz.func290,Tryz.ntmps290;go_wp2;go_ret;exact⟨rfl,rfl⟩
 have b8:(k==8)=false:=bne h8;by_cases h9:k=9
 ·subst h9;go_enter Tryz.func290,Tryz.ntmps290;go_wp2;go_ret;exact⟨rfl,rfl⟩
 have b9:(k==9)=false:=bne h9;by_cases h10:k=10
 ·subst h10;go_enter Tryz.func290,Tryz.ntmps290;go_wp2;go_ret;exact⟨rfl,rfl⟩
 have b10:(k==10)=false:=bne h10;by_cases h11:k=11
 ·subst h11;go_enter Tryz.func290,Tryz.ntmps290;go_wp2;go_ret;exact⟨rfl,rfl⟩
 have b11:(k==11)=false:=bne h11;by_cases h12:k=12
 ·subst h12;go_enter Tryz.func290,Tryz.ntmps290;go_wp2;go_ret;exact⟨rfl,rfl⟩
 have b12:(k==12)=false:=bne h12;by_cases h6:k=6
 ·subst h6;go_enter Tryz.func290,Tryz.ntmps290;go_wp2;go_ret;exact⟨rfl,rfl⟩
 have b6:(k==6)=false:=bne h6;rw[DP h19 h21 h18 h17 h7 h13 h14 h15 h16 h8 h9 h10 h11 h12 h6];clear h19 h21 h18 h17 h7 h13 h14 h15 h16 h8 h9 h10 h11 h12 h6;go_enter Tryz.func290,Tryz.ntmps290;go_wp2;go_ret;exact⟨rfl,rfl⟩
def iY (k:Int)(i:Nat):Nat:=if dd k=3\/dd k=7 then dd k else if dd k=4 then 5 else if dd k=0\/dd k=8 then 0 else dd k+i
theorem qX (k:Int):dd k<=8:=by
 unfold dd;split
 ·omega
 ·split
  ·omega
  ·split
   ·omega
   ·split
    ·rename_i x hx
     have hm:=List.mem_of_find?_eq_some hx
     have:∀ x ∈ eE,x.2.2.1<=8:=by decide
     exact this x hm
    ·omega
theorem Ae (k:Int)(i:Nat)(hi:i<=1000000000)(w:World) :
  Calls Tryz.prog 291 #[.int .i64 k,.int .i64 (i:Nat)] w fun e w'=>e=.returned (.int .i64 (iY k i:Nat))/\w'=w:=by
 have c1:=BF k w;have hle:=qX k;obtain⟨W,hW⟩:∃W,W=iY k i:=⟨_,rfl⟩
 rw[<-hW];unfold iY at hW;generalize dd k=r at *;by_cases h0:r=0
 ·subst h0;have hX:W=0:=by simpa using hW
  clear hW;subst hX;go_enter Tryz.func291,Tryz.ntmps291;go_wp2_with fail;refine c1.mono ?_;rintro e w1 ⟨rfl,rfl⟩;clear c1;go_wp2;go_ret;exact⟨rfl,rfl⟩
 by_cases h3:r=3
 ·subst h3;have hX:W=3:=by simpa using hW
  clear hW;subst hX;go_enter Tryz.func291,Tryz.ntmps291;go_wp2_with fail;refine c1.mono ?_;rintro e w1 ⟨rfl,rfl⟩;clear c1;go_wp2;go_ret;exact⟨rfl,rfl⟩
 by_cases h4:r=4
 ·subst h4;have hX:W=5:=by simpa using hW
  clear hW;subst hX;go_enter Tryz.func291,Tryz.ntmps291;go_wp2_with fail;refine c1.mono ?_;rintro e w1 ⟨rfl,rfl⟩;clear c1;go_wp2;go_ret;exact⟨rfl,rfl⟩
 by_cases h7:r=7
 ·subst h7;have hX:W=7:=by simpa using hW
  clear hW;subst hX;go_enter Tryz.func291,Tryz.ntmps291;go_wp2_with fail;refine c1.mono ?_;rintro e w1 ⟨rfl,rfl⟩;clear c1;go_wp2;go_ret;exact⟨rfl,rfl⟩
 by_cases h8:r=8
 ·subst h8;have hX:W=0:=by simpa using hW
  clear hW;subst hX;go_enter Tryz.func291,Tryz.ntmps291;go_wp2_with fail;refine c1.mono ?_;rintro e w1 ⟨rfl,rfl⟩;clear c1;go_wp2;go_ret;exact⟨rfl,rfl⟩
 have hX:W=r+i:=by simpa [h0,h3,h4,h7,h8] using hW
 clear hW;subst hX;have b0:((r:Int)==0)=false:=by rw[beq_eq_false_iff_ne];omega
 have b3:((r:Int)==3)=false:=by rw[beq_eq_false_iff_ne];omega
 have b4:((r:Int)==4)=false:=by rw[beq_eq_false_iff_ne];omega
 have b7:((r:Int)==7)=false:=by rw[beq_eq_false_iff_ne];omega
 have b8:((r:Int)==8)=false:=by rw[beq_eq_false_iff_ne];omega
 have hr:r<=8:=hle;clear h0 h3 h4 h7 h8 hle;go_enter Tryz.func291,Tryz.ntmps291;go_wp2_with fail;refine c1.mono ?_;rintro e w1 ⟨rfl,rfl⟩;clear c1;go_wp2;go_ret;exact⟨by rw[show ((r+i:Nat):Int)=(r:Int)+(i:Int) by omega];rfl,rfl⟩
theorem sj (k:Int):bm k=decide (22<=k/\k<=25):=by
 by_cases h:22<=k/\k<=25
 ·rw[show decide (22<=k/\k<=25)=true by simpa using h];unfold bm;simp only[Bool.or_eq_true,beq_iff_eq];omega
 ·rw[show decide (22<=k/\k<=25)=false by simpa using h];rw[<-Bool.not_eq_true];unfold bm;simp only[Bool.or_eq_true,beq_iff_eq];omega
theorem Ay (k:Int)(w:World) :
  Calls Tryz.prog 269 #[.int .i64 k] w fun e w'=>e=.returned (.bool (bm k))/\w'=w:=by
 rw[sj];by_cases h1:22<=k
 ·by_cases h2:k<=25
  ·rw[show decide (22<=k/\k<=25)=true by simp;omega];go_enter Tryz.func269,Tryz.ntmps269;go_wp2;go_ret;exact⟨by simp[h2],rfl⟩
  ·rw[show decide (22<=k/\k<=25)=false by simp;omega];go_enter Tryz.func269,Tryz.ntmps269;go_wp2;go_ret;exact⟨by simp[h2],rfl⟩
 ·rw[show decide (22<=k/\k<=25)=false by simp;omega];go_enter Tryz.func269,Tryz.ntmps269;go_wp2;go_ret;exact⟨rfl,rfl⟩
def cQ (k n:Int):Int :=
 if k=1\/k=2\/k=3\/k=4\/k=22\/k=23 then 0 else if k=6\/k=7\/k=24 then 1 else if k=8\/k=9\/k=10\/k=11\/k=12\/k=13\/k=14\/k=15\/k=16\/k=17\/k=18\/k=21 then 2 else if k=19 then 3 else if k=25 then -1 else if k=20 then (if 1<=n/\n<=3 then 2 else 1) else -2
theorem BV (k n:Int)(nm:List UInt8)(ao:Option Addr)(len cap:Nat)(a:Int)(w:World) :
  Calls Tryz.prog 267 #[.agg #[.int .i64 k,.int .i64 n,stv nm,.slice ao len cap,.int .i64 a]] w fun e w'=>e=.returned (.int .i64 (cQ k n))/\Below w.heap.size w w':=by
 have B0:Below w.heap.size w (w.alloc (.cells #[.int .i64 k,.int .i64 n,stv nm,.slice ao len cap,.int .i64 a] 25)):=(Below.refl _ w).alloc (Nat.le_refl _) _;have Z0:(w.alloc (.cells #[.int .i64 k,.int .i64 n,stv nm,.slice ao len cap,.int .i64 a] 25)).heap[w.heap.size]?=some (.cells #[.int .i64 k,.int .i64 n,stv nm,.slice ao len cap,.int .i64 a] 25):=heap_alloc_new w _;obtain⟨z0,z1,z2,z3,z4,zf⟩:=ai Z0;clear Z0;obtain⟨V,hV⟩:∃V,V=cQ k n:=⟨_,rfl⟩
 rw[<-hV];by_cases h1:k=1
 ·subst h1;have hX:V=0:=hV;clear hV;subst hX;go_enter Tryz.func267,Tryz.ntmps267;go_wp2;go_ret;exact⟨rfl,B0⟩
 have b1:(k==1)=false:=bne h1;by_cases h2:k=2
 ·subst h2;have hX:V=0:=hV;clear hV;subst hX;go_enter Tryz.func267,Tryz.ntmps267;go_wp2;go_ret;exact⟨rfl,B0⟩
 have b2:(k==2)=false:=bne h2;by_cases h3:k=3
 ·subst h3;have hX:V=0:=hV;clear hV;subst hX;go_enter Tryz.func267,Tryz.ntmps267;go_wp2;go_ret;exact⟨rfl,B0⟩
 have b3:(k==3)=false:=bne h3;by_cases h4:k=4
 ·subst h4;have hX:V=0:=hV;clear hV;subst hX;go_enter Tryz.func267,Tryz.ntmps267;go_wp2;go_ret;exact⟨rfl,B0⟩
 have b4:(k==4)=false:=bne h4;by_cases h22:k=22
 ·subst h22;have hX:V=0:=hV;clear hV;subst hX;go_enter Tryz.func267,Tryz.ntmps267;go_wp2;go_ret;exact⟨rfl,B0⟩
 have b22:(k==22)=false:=bne h22;by_cases h23:k=23
 ·subst h23;have hX:V=0:=hV;clear hV;subst hX;go_enter Tryz.func267,Tryz.ntmps267;go_wp2;go_ret;exact⟨rfl,B0⟩
 have b23:(k==23)=false:=bne h23;by_cases h6:k=6
 ·subst h6;have hX:V=1:=hV;clear hV;subst hX;go_enter Tryz.func267,Tryz.ntmps267;go_wp2;go_ret;exact⟨rfl,B0⟩
 have b6:(k==6)=false:=bne h6;by_cases h7:k=7
 ·subst h7;have hX:V=1:=hV;clear hV;subst hX;go_enter Tryz.func267,Tryz.ntmps267;go_wp2;go_ret;exact⟨rfl,B0⟩
 have b7:(k==7)=false:=bne h7;by_cases h24:k=24
 ·subst h24;have hX:V=1:=hV;clear hV;subst hX;go_enter Tryz.func267,Tryz.ntmps267;go_wp2;go_ret;exact⟨rfl,B0⟩
 have b24:(k==24)=false:=bne h24;by_cases h8:k=8
 ·subst h8;have hX:V=2:=hV;clear hV;subst hX;go_enter Tryz.func267,Tryz.ntmps267;go_wp2;go_ret;exact⟨rfl,B0⟩
 have b8:(k==8)=false:=bne h8;by_cases h9:k=9
 ·subst h9;have hX:V=2:=hV;clear hV;subst hX;go_enter Tryz.func267,Tryz.ntmps267;go_wp2;go_ret;exact⟨rfl,B0⟩
 have b9:(k==9)=false:=bne h9;by_cases h10:k=10
 ·subst h10;have hX:V=2:=hV;clear hV;subst hX;go_enter Tryz.func267,Tryz.ntmps267;go_wp2;go_ret;exact⟨rfl,B0⟩
 have b10:(k==10)=false:=bne h10;by_cases h11:k=11
 ·subst h11;have hX:V=2:=hV;clear hV;subst hX;go_enter Tryz.func267,Tryz.ntmps267;go_wp2;go_ret;exact⟨rfl,B0⟩
 have b11:(k==11)=false:=bne h11;by_cases h12:k=12
 ·subst h12;have hX:V=2:=hV;clear hV;subst hX;go_enter Tryz.func267,Tryz.ntmps267;go_wp2;go_ret;exact⟨rfl,B0⟩
 have b12:(k==12)=false:=bne h12;by_cases h13:k=13
 ·subst h13;have hX:V=2:=hV;clear hV;subst hX;go_enter Tryz.func267,Tryz.ntmps267;go_wp2;go_ret;exact⟨rfl,B0⟩
 have b13:(k==13)=false:=bne h13;by_cases h14:k=14
 ·subst h14;have hX:V=2:=hV;clear hV;subst hX;go_enter Tryz.func267,Tryz.ntmps267;go_wp2;go_ret;exact⟨rfl,B0⟩
 have b14:(k==14)=false:=bne h14;by_cases h15:k=15
 ·subst h15;have hX:V=2:=hV;clear hV;subst hX;go_enter Tryz.func267,Tryz.ntmps267;go_wp2;go_ret;exact⟨rfl,B0⟩
 have b15:(k==15)=false:=bne h15;by_cases h16:k=16
 ·subst h16;have hX:V=2:=hV;clear hV;subst hX;go_enter Tryz.func267,Tryz.ntmps267;go_wp2;go_ret;exact⟨rfl,B0⟩
 have b16:(k==16)=false:=bne h16;by_cases h17:k=17
 ·subst h17;have hX:V=2:=hV;clear hV;subst hX;go_enter Tryz.func267,Tryz.ntmps267;go_wp2;go_ret;exact⟨rfl,B0⟩
 have b17:(k==17)=false:=bne h17;by_cases h18:k=18
 ·subst h18;have hX:V=2:=hV;clear hV;subst hX;go_enter Tryz.func267,Tryz.ntmps267;go_wp2;go_ret;exact⟨rfl,B0⟩
 have b18:(k==18)=false:=bne h18;by_cases h21:k=21
 ·subst h21;have hX:V=2:=hV;clear hV;subst hX;go_enter Tryz.func267,Tryz.ntmps267;go_wp2;go_ret;exact⟨rfl,B0⟩
 have b21:(k==21)=false:=bne h21;by_cases h19:k=19
 ·subst h19;have hX:V=3:=hV;clear hV;subst hX;go_enter Tryz.func267,Tryz.ntmps267;go_wp2;go_ret;exact⟨rfl,B0⟩
 have b19:(k==19)=false:=bne h19;by_cases h25:k=25
 ·subst h25;have hX:V=-1:=hV;clear hV;subst hX;go_enter Tryz.func267,Tryz.ntmps267;go_wp2;go_ret;exact⟨rfl,B0⟩
 have b25:(k==25)=false:=bne h25;by_cases h20:k=20
 ·subst h20;by_cases n1:1<=n
  ·by_cases n3:n<=3
   ·have hX:V=2:=by rw[hV];simp[cQ,n1,n3]
    clear hV;subst hX;go_enter Tryz.func267,Tryz.ntmps267;go_wp2;go_ret;exact⟨rfl,B0⟩
   ·have hX:V=1:=by rw[hV];simp[cQ,n3]
    clear hV;subst hX;go_enter Tryz.func267,Tryz.ntmps267;go_wp2;go_ret;exact⟨rfl,B0⟩
  ·have hX:V=1:=by rw[hV];simp[cQ,n1]
   clear hV;subst hX;go_enter Tryz.func267,Tryz.ntmps267;go_wp2;go_ret;exact⟨rfl,B0⟩
 have b20:(k==20)=false:=bne h20;have hX:V=-2:=by rw[hV];simp[cQ,h1,h2,h3,h4,h22,h23,h6,h7,h24,h8,h9,h10,h11,h12,h13,h14,h15,h16,h17,h18,h21,h19,h25,h20]
 clear hV h1 h2 h3 h4 h22 h23 h6 h7 h24 h8 h9 h10 h11 h12 h13 h14 h15 h16 h17 h18 h21 h19 h25 h20;subst hX;go_enter Tryz.func267,Tryz.ntmps267;go_wp2;go_ret;exact⟨rfl,B0⟩
theorem bE (n:Int):(fm n).isSome=decide (1<=n/\n<=10):=by
 by_cases h:1<=n/\n<=10
 ·rw[show decide (1<=n/\n<=10)=true by simpa using h]
  have:n=1\/n=2\/n=3\/n=4\/n=5\/n=6\/n=7\/n=8\/n=9\/n=10:=by omega
  rcases this with rfl|rfl|rfl|rfl|rfl|rfl|rfl|rfl|rfl|rfl<;>rfl
 ·rw[show decide (1<=n/\n<=10)=false by simpa using h,Option.isSome_eq_false_iff,Option.isNone_iff_eq_none];unfold fm;rw[List.find?_eq_none];intro x hx
  have:∀ x ∈ dG,1<=x.2.1/\x.2.1<=10:=by decide
  have:=this x hx
  simp only[beq_iff_eq];omega
theorem bc (n:Int):(fG n).isSome=decide (1<=n/\n<=6):=by
 by_cases h:1<=n/\n<=6
 ·rw[show decide (1<=n/\n<=6)=true by simpa using h]
  have:n=1\/n=2\/n=3\/n=4\/n=5\/n=6:=by omega
  rcases this with rfl|rfl|rfl|rfl|rfl|rfl<;>rfl
 ·rw[show decide (1<=n/\n<=6)=false by simpa using h,Option.isSome_eq_false_iff,Option.isNone_iff_eq_none];unfold fG;rw[List.find?_eq_none];intro x hx
  have:∀ x ∈ dv,1<=x.2/\x.2<=6:=by decide
  have:=this x hx
  simp only[beq_iff_eq];omega
theorem wQ (k n:Int)(nm:List UInt8)(ao:Option Addr)(len cap:Nat)(a:Int)(w:World)(hl:nm.length<=maxLen) :
  Calls Tryz.prog 268 #[.agg #[.int .i64 k,.int .i64 n,stv nm,.slice ao len cap,.int .i64 a]] w fun e w'=>e=.returned (.bool (bS k n&&cr k nm))/\Below w.heap.size w w':=by
 have B0:Below w.heap.size w (w.alloc (.cells #[.int .i64 k,.int .i64 n,stv nm,.slice ao len cap,.int .i64 a] 25)):=(Below.refl _ w).alloc (Nat.le_refl _) _;have Z0:(w.alloc (.cells #[.int .i64 k,.int .i64 n,stv nm,.slice ao len cap,.int .i64 a] 25)).heap[w.heap.size]?=some (.cells #[.int .i64 k,.int .i64 n,stv nm,.slice ao len cap,.int .i64 a] 25):=heap_alloc_new w _;have c1:=ol ⟨nm.toArray⟩ (w.alloc (.cells #[.int .i64 k,.int .i64 n,stv nm,.slice ao len cap,.int .i64 a] 25)) (by rw[fF];exact hl);have hd:(ByteArray.mk nm.toArray).data.toList=nm:=by simp
 rw[hd] at c1;obtain⟨V,hV⟩:∃V,V=(bS k n&&cr k nm):=⟨_,rfl⟩
 rw[<-hV];have hs0:w.heap.size<(w.alloc (.cells #[.int .i64 k,.int .i64 n,stv nm,.slice ao len cap,.int .i64 a] 25)).heap.size:=by simp
 obtain⟨z0,z1,z2,z3,z4,zf⟩:=ai Z0;clear hd;by_cases h1:k=1
 ·subst h1;by_cases p:0<=n
  ·have pb:0<=n:=p;have hX:V=(nm==[]):=by rw[hV];simp[bS,cr,bE,bc,p]
   clear hV;rw[hX];clear hX V;go_enter Tryz.func268,Tryz.ntmps268;go_wp2_with fail;refine c1.mono ?_;rintro e w1 ⟨rfl,b1⟩;have B1:=B0.trans (b1.mono B0.size);have Z1:=(b1.block _ hs0).trans Z0;obtain⟨y0,y1,y2,y3,y4,yf⟩:=ai Z1;clear c1 b1 B0 Z0 Z1 z0 z1 z2 z3 z4 zf;go_wp2;go_ret;exact⟨bC (by first|rfl|simp),B1⟩
  ·have pb:¬0<=n:=p;have hX:V=false:=by rw[hV];simp[bS,cr,bE,bc,p]
   clear hV;rw[hX];clear hX V;go_enter Tryz.func268,Tryz.ntmps268;go_wp2_with fail;refine c1.mono ?_;rintro e w1 ⟨rfl,b1⟩;have B1:=B0.trans (b1.mono B0.size);have Z1:=(b1.block _ hs0).trans Z0;obtain⟨y0,y1,y2,y3,y4,yf⟩:=ai Z1;clear c1 b1 B0 Z0 Z1 z0 z1 z2 z3 z4 zf;go_wp2;go_ret;exact⟨bC (by first|rfl|simp),B1⟩
 have b1:(k==1)=false:=bne h1;by_cases h3:k=3
 ·subst h3;by_cases p:0<=n
  ·have pb:0<=n:=p;have hX:V=(nm==[]):=by rw[hV];simp[bS,cr,bE,bc,p]
   clear hV;rw[hX];clear hX V;go_enter Tryz.func268,Tryz.ntmps268;go_wp2_with fail;refine c1.mono ?_;rintro e w1 ⟨rfl,b1⟩;have B1:=B0.trans (b1.mono B0.size);have Z1:=(b1.block _ hs0).trans Z0;obtain⟨y0,y1,y2,y3,y4,yf⟩:=ai Z1;clear c1 b1 B0 Z0 Z1 z0 z1 z2 z3 z4 zf;go_wp2;go_ret;exact⟨bC (by first|rfl|simp),B1⟩
  ·have pb:¬0<=n:=p;have hX:V=false:=by rw[hV];simp[bS,cr,bE,bc,p]
   clear hV;rw[hX];clear hX V;go_enter Tryz.func268,Tryz.ntmps268;go_wp2_with fail;refine c1.mono ?_;rintro e w1 ⟨rfl,b1⟩;have B1:=B0.trans (b1.mono B0.size);have Z1:=(b1.block _ hs0).trans Z0;obtain⟨y0,y1,y2,y3,y4,yf⟩:=ai Z1;clear c1 b1 B0 Z0 Z1 z0 z1 z2 z3 z4 zf;go_wp2;go_ret;exact⟨bC (by first|rfl|simp),B1⟩
 have b3:(k==3)=false:=bne h3;by_cases h2:k=2
 ·subst h2;by_cases p:n=0
  ·subst p;have hX:V=(nm==[]):=by rw[hV];simp[bS,cr,bE,bc]
   clear hV;rw[hX];clear hX V;go_enter Tryz.func268,Tryz.ntmps268;go_wp2_with fail;refine c1.mono ?_;rintro e w1 ⟨rfl,b1⟩;have B1:=B0.trans (b1.mono B0.size);have Z1:=(b1.block _ hs0).trans Z0;obtain⟨y0,y1,y2,y3,y4,yf⟩:=ai Z1;clear c1 b1 B0 Z0 Z1 z0 z1 z2 z3 z4 zf;go_wp2;go_ret;exact⟨bC (by first|rfl|simp),B1⟩
  ·have pb:(n==0)=false:=by simpa using p
   by_cases r:n=1
   ·subst r;have hX:V=(nm==[]):=by rw[hV];simp[bS,cr,bE,bc]
    clear hV;rw[hX];clear hX V;go_enter Tryz.func268,Tryz.ntmps268;go_wp2_with fail;refine c1.mono ?_;rintro e w1 ⟨rfl,b1⟩;have B1:=B0.trans (b1.mono B0.size);have Z1:=(b1.block _ hs0).trans Z0;obtain⟨y0,y1,y2,y3,y4,yf⟩:=ai Z1;clear c1 b1 B0 Z0 Z1 z0 z1 z2 z3 z4 zf;go_wp2;go_ret;exact⟨bC (by first|rfl|simp),B1⟩
   ·have rb:(n==1)=false:=by simpa using r
    have hX:V=false:=by rw[hV];simp[bS,cr,bE,bc,p,r]
    clear hV;clear p r;rw[hX];clear hX V;go_enter Tryz.func268,Tryz.ntmps268;go_wp2_with fail;refine c1.mono ?_;rintro e w1 ⟨rfl,b1⟩;have B1:=B0.trans (b1.mono B0.size);have Z1:=(b1.block _ hs0).trans Z0;obtain⟨y0,y1,y2,y3,y4,yf⟩:=ai Z1;clear c1 b1 B0 Z0 Z1 z0 z1 z2 z3 z4 zf;go_wp2;go_ret;exact⟨bC (by first|rfl|simp),B1⟩
 have b2:(k==2)=false:=bne h2;by_cases h4:k=4
 ·subst h4;by_cases p:n=0
  ·subst p;have hX:V=aX nm:=by rw[hV];simp[bS,cr,bE,bc]
   clear hV;rw[hX];clear hX V;go_enter Tryz.func268,Tryz.ntmps268;go_wp2_with fail;refine c1.mono ?_;rintro e w1 ⟨rfl,b1⟩;have B1:=B0.trans (b1.mono B0.size);have Z1:=(b1.block _ hs0).trans Z0;obtain⟨y0,y1,y2,y3,y4,yf⟩:=ai Z1;clear c1 b1 B0 Z0 Z1 z0 z1 z2 z3 z4 zf;go_wp2;go_ret;exact⟨bC (by first|rfl|simp),B1⟩
  ·have pb:(n==0)=false:=by simpa using p
   have hX:V=false:=by rw[hV];simp[bS,cr,bE,bc,p]
   clear hV;clear p;rw[hX];clear hX V;go_enter Tryz.func268,Tryz.ntmps268;go_wp2_with fail;refine c1.mono ?_;rintro e w1 ⟨rfl,b1⟩;have B1:=B0.trans (b1.mono B0.size);have Z1:=(b1.block _ hs0).trans Z0;obtain⟨y0,y1,y2,y3,y4,yf⟩:=ai Z1;clear c1 b1 B0 Z0 Z1 z0 z1 z2 z3 z4 zf;go_wp2;go_ret;exact⟨bC (by first|rfl|simp),B1⟩
 have b4:(k==4)=false:=bne h4;by_cases h23:k=23
 ·subst h23;by_cases p:n=0
  ·subst p;have hX:V=aX nm:=by rw[hV];simp[bS,cr,bE,bc]
   clear hV;rw[hX];clear hX V;go_enter Tryz.func268,Tryz.ntmps268;go_wp2_with fail;refine c1.mono ?_;rintro e w1 ⟨rfl,b1⟩;have B1:=B0.trans (b1.mono B0.size);have Z1:=(b1.block _ hs0).trans Z0;obtain⟨y0,y1,y2,y3,y4,yf⟩:=ai Z1;clear c1 b1 B0 Z0 Z1 z0 z1 z2 z3 z4 zf;go_wp2;go_ret;exact⟨bC (by first|rfl|simp),B1⟩
  ·have pb:(n==0)=false:=by simpa using p
   have hX:V=false:=by rw[hV];simp[bS,cr,bE,bc,p]
   clear hV;clear p;rw[hX];clear hX V;go_enter Tryz.func268,Tryz.ntmps268;go_wp2_with fail;refine c1.mono ?_;rintro e w1 ⟨rfl,b1⟩;have B1:=B0.trans (b1.mono B0.size);have Z1:=(b1.block _ hs0).trans Z0;obtain⟨y0,y1,y2,y3,y4,yf⟩:=ai Z1;clear c1 b1 B0 Z0 Z1 z0 z1 z2 z3 z4 zf;go_wp2;go_ret;exact⟨bC (by first|rfl|simp),B1⟩
 have b23:(k==23)=false:=bne h23;by_cases h20:k=20
 ·subst h20;by_cases p:1<=n
  ·have pb:1<=n:=p;by_cases r:n<=10
   ·have rb:n<=10:=r;have hX:V=(nm==[]):=by rw[hV];simp[bS,cr,bE,bc,p,r]
    clear hV;rw[hX];clear hX V;go_enter Tryz.func268,Tryz.ntmps268;go_wp2_with fail;refine c1.mono ?_;rintro e w1 ⟨rfl,b1⟩;have B1:=B0.trans (b1.mono B0.size);have Z1:=(b1.block _ hs0).trans Z0;obtain⟨y0,y1,y2,y3,y4,yf⟩:=ai Z1;clear c1 b1 B0 Z0 Z1 z0 z1 z2 z3 z4 zf;go_wp2;go_ret;exact⟨bC (by first|rfl|simp),B1⟩
   ·have rb:¬n<=10:=r;have hX:V=false:=by rw[hV];simp[bS,cr,bE,bc,p,r]
    clear hV;rw[hX];clear hX V;go_enter Tryz.func268,Tryz.ntmps268;go_wp2_with fail;refine c1.mono ?_;rintro e w1 ⟨rfl,b1⟩;have B1:=B0.trans (b1.mono B0.size);have Z1:=(b1.block _ hs0).trans Z0;obtain⟨y0,y1,y2,y3,y4,yf⟩:=ai Z1;clear c1 b1 B0 Z0 Z1 z0 z1 z2 z3 z4 zf;go_wp2;go_ret;exact⟨bC (by first|rfl|simp),B1⟩
  ·have pb:¬1<=n:=p;have hX:V=false:=by rw[hV];simp[bS,cr,bE,bc,p]
   clear hV;rw[hX];clear hX V;go_enter Tryz.func268,Tryz.ntmps268;go_wp2_with fail;refine c1.mono ?_;rintro e w1 ⟨rfl,b1⟩;have B1:=B0.trans (b1.mono B0.size);have Z1:=(b1.block _ hs0).trans Z0;obtain⟨y0,y1,y2,y3,y4,yf⟩:=ai Z1;clear c1 b1 B0 Z0 Z1 z0 z1 z2 z3 z4 zf;go_wp2;go_ret;exact⟨bC (by first|rfl|simp),B1⟩
 have b20:(k==20)=false:=bne h20;by_cases h21:k=21
 ·subst h21;by_cases p:1<=n
  ·have pb:1<=n:=p;by_cases r:n<=6
   ·have rb:n<=6:=r;have hX:V=aX nm:=by rw[hV];simp[bS,cr,bE,bc,p,r]
    clear hV;rw[hX];clear hX V;go_enter Tryz.func268,Tryz.ntmps268;go_wp2_with fail;refine c1.mono ?_;rintro e w1 ⟨rfl,b1⟩;have B1:=B0.trans (b1.mono B0.size);have Z1:=(b1.block _ hs0).trans Z0;obtain⟨y0,y1,y2,y3,y4,yf⟩:=ai Z1;clear c1 b1 B0 Z0 Z1 z0 z1 z2 z3 z4 zf;go_wp2;go_ret;exact⟨bC (by first|rfl|simp),B1⟩
   ·have rb:¬n<=6:=r;have hX:V=false:=by rw[hV];simp[bS,cr,bE,bc,p,r]
    clear hV;rw[hX];clear hX V;go_enter Tryz.func268,Tryz.ntmps268;go_wp2_with fail;refine c1.mono ?_;rintro e w1 ⟨rfl,b1⟩;have B1:=B0.trans (b1.mono B0.size);have Z1:=(b1.block _ hs0).trans Z0;obtain⟨y0,y1,y2,y3,y4,yf⟩:=ai Z1;clear c1 b1 B0 Z0 Z1 z0 z1 z2 z3 z4 zf;go_wp2;go_ret;exact⟨bC (by first|rfl|simp),B1⟩
  ·have pb:¬1<=n:=p;have hX:V=false:=by rw[hV];simp[bS,cr,bE,bc,p]
   clear hV;rw[hX];clear hX V;go_enter Tryz.func268,Tryz.ntmps268;go_wp2_with fail;refine c1.mono ?_;rintro e w1 ⟨rfl,b1⟩;have B1:=B0.trans (b1.mono B0.size);have Z1:=(b1.block _ hs0).trans Z0;obtain⟨y0,y1,y2,y3,y4,yf⟩:=ai Z1;clear c1 b1 B0 Z0 Z1 z0 z1 z2 z3 z4 zf;go_wp2;go_ret;exact⟨bC (by first|rfl|simp),B1⟩
 have b21:(k==21)=false:=bne h21;by_cases p:n=0
 ·subst p;have hX:V=(nm==[]):=by rw[hV];simp[bS,cr,bE,bc,h1,h3,h2,h4,h23,h20,h21]
  clear hV;clear h1 h3 h2 h4 h23 h20 h21;rw[hX];clear hX V;go_enter Tryz.func268,Tryz.ntmps268;go_wp2_with fail;refine c1.mono ?_;rintro e w1 ⟨rfl,b1⟩;have B1:=B0.trans (b1.mono B0.size);have Z1:=(b1.block _ hs0).trans Z0;obtain⟨y0,y1,y2,y3,y4,yf⟩:=ai Z1;clear c1 b1 B0 Z0 Z1 z0 z1 z2 z3 z4 zf;go_wp2;go_ret;exact⟨bC (by first|rfl|simp),B1⟩
 ·have pb:(n==0)=false:=by simpa using p
  have hX:V=false:=by rw[hV];simp[bS,cr,bE,bc,h1,h3,h2,h4,h23,h20,h21,p]
  clear hV;clear p h1 h3 h2 h4 h23 h20 h21;rw[hX];clear hX V;go_enter Tryz.func268,Tryz.ntmps268;go_wp2_with fail;refine c1.mono ?_;rintro e w1 ⟨rfl,b1⟩;have B1:=B0.trans (b1.mono B0.size);have Z1:=(b1.block _ hs0).trans Z0;obtain⟨y0,y1,y2,y3,y4,yf⟩:=ai Z1;clear c1 b1 B0 Z0 Z1 z0 z1 z2 z3 z4 zf;go_wp2;go_ret;exact⟨bC (by first|rfl|simp),B1⟩
def Rq (w:World)(rb i:Nat)(o q:Int)(er pl:Nat)(all:List Tk):Prop :=
 ∃g cap,w.heap[rb]?=some (.cells #[.slice (some ⟨g,0,none⟩) all.length cap,.int .i64 (i:Nat),.int .i64 o,.int .i64 q,.int .i64 (er:Nat),.int .i64 (pl:Nat)] 70 (0,0))/\g<rb/\(∀ j u,(cB all)[j]?=some u->w.cell? ⟨g,j,none⟩=some u)/\all.length<=3000/\all.length<=cap/\cap<=maxLen
theorem Rq.lt {w:World}{rb i:Nat}{o q:Int}{er pl:Nat}{all:List Tk}(h:Rq w rb i o q er pl all):rb<w.heap.size:=by
 obtain⟨g,cap,h1,_⟩:=h;exact lt_of_block h1
theorem Rq.below {w w':World}{rb i:Nat}{o q:Int}{er pl:Nat}{all:List Tk}(h:Rq w rb i o q er pl all)(b:Below w.heap.size w w'):Rq w' rb i o q er pl all:=by
 have hlt:=h.lt;obtain⟨g,cap,h1,h2,h3,h4⟩:=h;exact⟨g,cap,(b.block rb hlt).trans h1,h2,fun j u hu=>(b.cell (p:=⟨g,j,none⟩) (show g<w.heap.size by omega)).trans (h3 j u hu),h4⟩
theorem Rq.next {w:World}{rb i:Nat}{o q:Int}{er pl:Nat}{all:List Tk}{x:Tk}(h:Rq w rb i o q er pl all)(hx:all[i]?=some x):∃g cap L,g<rb/\i<L/\L<=cap/\cap<=maxLen/\L<=3000/\(w.cell? ⟨rb,0,none⟩=some (.slice (some ⟨g,0,none⟩) L cap)/\w.cell? ⟨rb,1,none⟩=some (.int .i64 (i:Nat))/\w.cell? ⟨g,i*4,none⟩=some (.int .i64 (x.k:Nat))/\w.cell? ⟨g,i*4+1,none⟩=some (.int .i64 x.n)/\w.cell? ⟨g,i*4+2,none⟩=some (stv x.t)/\w.cell? ⟨g,i*4+3,none⟩=some (.int .i64 (x.a:Nat)))/\w.cell? ⟨rb,2,none⟩=some (.int .i64 o)/\w.cell? ⟨rb,3,none⟩=some (.int .i64 q)/\w.cell? ⟨rb,4,none⟩=some (.int .i64 (er:Nat))/\w.cell? ⟨rb,5,none⟩=some (.int .i64 (pl:Nat))/\(∀ j,w.frozen? ⟨rb,j,none⟩=false):=by
 obtain⟨g,cap,h1,h2,h3,h4,h5,h6⟩:=h;have hi:i<all.length:=by
  by_cases hi:i<all.length
  ·exact hi
  ·rw[List.getElem?_eq_none (by omega)] at hx;cases hx
 obtain⟨t0,t1,t2,t3⟩:=lZ all i x hx;refine⟨g,cap,all.length,h2,hi,h5,h6,h4,⟨?_,?_,h3 _ _ t0,h3 _ _ t1,h3 _ _ t2,h3 _ _ t3⟩,?_,?_,?_,?_,fun j=>frozen_of_row w rb j _ _ h1⟩
 all_goals simp[cell_of_row w rb _ _ _ (0,0) h1]
theorem Rq.set {w:World}{rb i:Nat}{o q:Int}{er pl:Nat}{all:List Tk}(h:Rq w rb i o q er pl all) :
  (∀ i':Nat,Rq (w.setCell ⟨rb,1,none⟩ (.int .i64 (i':Nat))) rb i' o q er pl all)/\(∀ o':Int,Rq (w.setCell ⟨rb,2,none⟩ (.int .i64 o')) rb i o' q er pl all)/\(∀ q':Int,Rq (w.setCell ⟨rb,3,none⟩ (.int .i64 q')) rb i o q' er pl all)/\(∀ er':Nat,Rq (w.setCell ⟨rb,4,none⟩ (.int .i64 (er':Nat))) rb i o q er' pl all)/\(∀ pl':Nat,Rq (w.setCell ⟨rb,5,none⟩ (.int .i64 (pl':Nat))) rb i o q er pl' all):=by
 obtain⟨g,cap,h1,h2,h3,h4⟩:=h;have hB:Blk w (fun _=>0) 0 rb (.cells #[.slice (some ⟨g,0,none⟩) all.length cap,.int .i64 (i:Nat),.int .i64 o,.int .i64 q,.int .i64 (er:Nat),.int .i64 (pl:Nat)] 70 (0,0)):=⟨h1,rfl⟩
 have hc:∀ (k:Nat) (v:Value) j u,(cB all)[j]?=some u->(w.setCell ⟨rb,k,none⟩ v).cell? ⟨g,j,none⟩=some u:=fun k v j u hu=>(World.cell?_of_block (a:=⟨g,j,none⟩) (heap_setCell_other w ⟨rb,k,none⟩ g v (show g≠rb by omega))).trans (h3 j u hu);exact⟨fun i'=>⟨g,cap,(hB.set 1 _).1,h2,hc 1 _,h4⟩,fun o'=>⟨g,cap,(hB.set 2 _).1,h2,hc 2 _,h4⟩,fun q'=>⟨g,cap,(hB.set 3 _).1,h2,hc 3 _,h4⟩,fun er'=>⟨g,cap,(hB.set 4 _).1,h2,hc 4 _,h4⟩,fun pl'=>⟨g,cap,(hB.set 5 _).1,h2,hc 5 _,h4⟩⟩
theorem au.at {rb:Nat}(w:World)(k:Nat)(v:Value):au rb w (w.setCell ⟨rb,k,none⟩ v):=(au.refl rb w).set ⟨rb,k,none⟩ v (.inr rfl)
theorem ft (w:World)(o1:Obj):(w.alloc o1).drew.heap[w.heap.size]?=some o1/\Below w.heap.size w (w.alloc o1).drew:=⟨heap_alloc_new w _,((Below.refl _ w).alloc (Nat.le_refl _) _).drew⟩
theorem is_q {w:World}{rb i:Nat}{o q:Int}{er pl:Nat}{all:List Tk}{x:Tk}(s:List UInt8)(h:Rq w rb i o q er pl all)(hx:all[i]?=some x) :
  Calls Tryz.prog 128 #[.pointer (some ⟨rb,0,none⟩),stv s] w fun e w'=>e=.returned (.bool ((er==0)&&((x.k==3||x.k==4)&&x.t==s)))/\Below w.heap.size w w':=by
 obtain⟨B,hB⟩:∃B,B=((er==0)&&((x.k==3||x.k==4)&&x.t==s)):=⟨_,rfl⟩
 rw[<-hB];have HB:Hid (B=((er==0)&&((x.k==3||x.k==4)&&x.t==s))):=hB;clear hB;obtain⟨g,cap,L,hg,hi,hc,hm,hL,⟨c0,c1,t0,t1,t2,t3⟩,c2,c3,c4,c5,hf⟩:=h.next hx;have hrb:=h.lt;have bz:Below w.heap.size w (w.alloc (.cells #[.int .i64 0,.int .i64 0,.string ⟨#[]⟩,.int .i64 0] 73)):=(Below.refl _ w).alloc (Nat.le_refl _) _;have d0:=(bz.cell (p:=⟨rb,0,none⟩) hrb).trans c0;have d1:=(bz.cell (p:=⟨rb,1,none⟩) hrb).trans c1;have hgs:g<w.heap.size:=by omega
 have u0:=(bz.cell (p:=⟨g,i*4,none⟩) hgs).trans t0;have u1:=(bz.cell (p:=⟨g,i*4+1,none⟩) hgs).trans t1;have u2:=(bz.cell (p:=⟨g,i*4+2,none⟩) hgs).trans t2;have u3:=(bz.cell (p:=⟨g,i*4+3,none⟩) hgs).trans t3;have hmm:cap<=9223372036854775807:=hm;have hiI:(i:Int)<(L:Int):=by omega
 have HX:Hid (∀ wx,Below w.heap.size w wx->wx.cell? ⟨rb,4,none⟩=some (.int .i64 (er:Nat))):=fun wx b=>(b.cell (p:=⟨rb,4,none⟩) hrb).trans c4;clear h bz hm;go_enter Tryz.func128,Tryz.ntmps128;go_upto_region 1 with fail;go_cut [5] (fun v wx=>∃bt,v=.pointer (some ⟨bt,0,none⟩)/\wx.heap[bt]?=some (.cells #[.int .i64 (x.k:Nat),.int .i64 x.n,stv x.t,.int .i64 (x.a:Nat)] 73)/\Below w.heap.size w wx)
 case first =>
  have h2:=ft w (.cells #[.int .i64 (x.k:Nat),.int .i64 x.n,stv x.t,.int .i64 (x.a:Nat)] 73);go_region
  all_goals
   go_wp2;go_meet;exact⟨_,rfl,h2.1,h2.2⟩
 case rest =>
 obtain⟨bt,rfl,hT,B1⟩:=hcut;obtain⟨p0,p1,p2,p3,-⟩:=Blk.cells4 (o:=fun _=>0) (i:=0) ⟨hT,rfl⟩;have e4:=HX.out _ B1;clear c0 c1 t0 t1 t2 t3 d0 d1 u0 u1 u2 u3 c2 c3 c4 c5 hT HX;by_cases h0:er=0
 ·subst h0;by_cases h3:x.k=3
  ·have b3:((x.k:Int)==3)=true:=by simp[h3]
   have b4:Hid (B=(x.t==s)):=by show B=_;rw[HB.out];simp[h3]
   clear h3 HB;go_wp2;go_ret;exact⟨by rw[b4.out];simp,B1⟩
  ·have b3:((x.k:Int)==3)=false:=by simp;omega
   by_cases h4:x.k=4
   ·have b4:((x.k:Int)==4)=true:=by simp[h4]
    have b5:Hid (B=(x.t==s)):=by show B=_;rw[HB.out];simp[h4]
    clear h3 h4 HB;go_wp2;go_ret;exact⟨by rw[b5.out];simp,B1⟩
   ·have b4:((x.k:Int)==4)=false:=by simp;omega
    have b5:Hid (B=false):=by show B=_;rw[HB.out];simp[h3,h4]
    clear h3 h4 HB;go_wp2;go_ret;exact⟨by rw[b5.out];rfl,B1⟩
 ·have b0:((er:Int)==0)=false:=by simp;omega
  have b1:Hid (B=false):=by show B=_;rw[HB.out];simp[h0]
  clear h0 HB;go_wp2;go_ret;exact⟨by rw[b1.out];rfl,B1⟩
def et (x:Tk):Prop:=∀ s:List UInt8,s≠[]->aX s=false->((x.k==3||x.k==4)&&x.t==s)=(x.t==s)
abbrev Sq:=Sum (Nat × Nat) (List Tk)
def QS (w:World)(rb:Nat)(all:List Tk)(o q:Nat):Sq->Prop
 | .inl (er,a)=>∃(i:Nat) (o' q':Int),Rq w rb i o' q' er a all/\i<all.length/\er≠0
 | .inr ts=>∃(i pl:Nat),Rq w rb i (o:Nat) (q:Nat) 0 pl all/\all.drop i=ts/\WFT ts/\o<=64/\q<=4
def stp {α:Type}:Rs α->Sq
 | ⟨none⟩=>.inl (0,0)
 | ⟨some (.inl (e,a))⟩=>.inl (e,a)
 | ⟨some (.inr (_,t))⟩=>.inr t
def onw {α:Type}(f:List Tk->Rs α):Sq->Sq
 | .inl ea=>.inl ea
 | .inr ts=>stp (f ts)
def isS (s:List UInt8):Sq->Bool
 | .inl _=>false
 | .inr []=>false
 | .inr (x::_)=>x.t==s
def kq (e:Nat):Sq->Sq
 | .inl ea=>.inl ea
 | .inr []=>.inl (0,0)
 | .inr (x::_)=>.inl (e,x.a)
theorem QS.below {w w':World}{rb o q:Nat}{all:List Tk}{st:Sq}(h:QS w rb all o q st)(b:Below w.heap.size w w'):QS w' rb all o q st:=by
 match st,h with
 | .inl (er,a),⟨i,o',q',h1,h2⟩=>exact⟨i,o',q',h1.below b,h2⟩
 | .inr ts,⟨i,pl,h1,h2⟩=>exact⟨i,pl,h1.below b,h2⟩
theorem QS.lt {w:World}{rb o q:Nat}{all:List Tk}{st:Sq}(h:QS w rb all o q st):rb<w.heap.size:=by
 match st,h with
 | .inl (er,a),⟨i,o',q',h1,h2⟩=>exact h1.lt
 | .inr ts,⟨i,pl,h1,h2⟩=>exact h1.lt
theorem m7 {all:List Tk}{i:Nat}{x:Tk}{r:List Tk}(h:all.drop i=x::r):all[i]?=some x/\all.drop (i+1)=r/\x ∈ all:=by
 have h1:(all.drop i)[0]?=some x:=by rw[h];rfl
 rw[List.getElem?_drop] at h1;have h2:(all.drop i).tail=r:=by rw[h];rfl
 rw[List.tail_drop] at h2;exact⟨by simpa using h1,h2,List.mem_of_mem_drop (i:=i) (by rw[h];exact List.mem_cons_self)⟩
theorem An {w:World}{rb i:Nat}{o q:Int}{pl:Nat}{all:List Tk}{x:Tk}(e:Nat)(h:Rq w rb i o q 0 pl all)(hx:all[i]?=some x) :
  Calls Tryz.prog 35 #[.pointer (some ⟨rb,0,none⟩),.int .i64 (e:Nat)] w fun r w'=>r=.returned (.tuple #[])/\Rq w' rb i o q e x.a all/\au rb w w':=by
 obtain⟨_,_,_,_,_,_,_,_,_,_,_,c4,_,hf0⟩:=h.next hx;have h1:=h.set.2.2.2.1 e;have h2:=h1.set.2.2.2.2 x.a;have K:=(au.at (rb:=rb) w 4 (.int .i64 (e:Nat))).trans (au.at _ 5 (.int .i64 (x.a:Nat)));obtain⟨g,cap,L,hg,hi,hc,hm,hL,⟨c0,c1,t0,t1,t2,t3⟩,-,-,-,c5,hf⟩:=h1.next hx;have hmm:cap<=9223372036854775807:=hm;have hiI:(i:Int)<(L:Int):=by omega
 clear h h1 t0 t1 t2 hm;go_enter Tryz.func35,Tryz.ntmps35;go_upto_region 2 with fail;generalize w.setCell ⟨rb,4,none⟩ (.int .i64 (e:Nat))=w3 at *;go_region
 all_goals
  go_wp2
  go_end0
  exact⟨rfl,h2.below (Below.refl _ _).drew,K.drew⟩
theorem yz {w:World}{rb i:Nat}{o q:Int}{er pl:Nat}{all:List Tk}{x:Tk}(e:Nat)(h:Rq w rb i o q er pl all)(hx:all[i]?=some x)(h0:er≠0) :
  Calls Tryz.prog 35 #[.pointer (some ⟨rb,0,none⟩),.int .i64 (e:Nat)] w fun r w'=>r=.returned (.tuple #[])/\Rq w' rb i o q er pl all/\au rb w w':=by
 have b0:((er:Int)==0)=false:=by simp;omega
 obtain⟨_,_,_,_,_,_,_,_,_,_,_,c4,_,hf0⟩:=h.next hx;have K:=au.refl rb w;clear h0;go_enter Tryz.func35,Tryz.ntmps35;go_wp2
 go_end0
 exact⟨rfl,h,K⟩
theorem rP {w:World}{rb o q:Nat}{all:List Tk}{st:Sq}(TI:∀ x,x ∈ all->et x)(s:List UInt8)(hs:s≠[])(hn:aX s=false)(h:QS w rb all o q st) :
  Calls Tryz.prog 128 #[.pointer (some ⟨rb,0,none⟩),stv s] w fun e w'=>e=.returned (.bool (isS s st))/\Below w.heap.size w w':=by
 match st,h with
 | .inl (er,a),⟨i,o',q',h1,h2,h3⟩ =>
  refine(is_q s h1 (List.getElem?_eq_getElem h2)).mono ?_;rintro e w' ⟨rfl,b⟩;exact⟨by simp[h3,isS],b⟩
 | .inr [],⟨i,pl,h1,h2,h3⟩=>exact absurd rfl h3.1.ne
 | .inr (x::r),⟨i,pl,h1,h2,h3⟩ =>
  obtain⟨hx,_,hm⟩:=m7 h2;refine(is_q s h1 hx).mono ?_;rintro e w' ⟨rfl,b⟩;exact⟨by rw[TI x hm s hs hn];simp[isS],b⟩
theorem fJ {w:World}{rb o q:Nat}{all:List Tk}{st:Sq}(e:Nat)(he:e≠0)(h:QS w rb all o q st) :
  Calls Tryz.prog 35 #[.pointer (some ⟨rb,0,none⟩),.int .i64 (e:Nat)] w fun r w'=>r=.returned (.tuple #[])/\QS w' rb all o q (kq e st)/\au rb w w':=by
 match st,h with
 | .inl (er,a),⟨i,o',q',h1,h2,h3⟩ =>
  refine(yz e h1 (List.getElem?_eq_getElem h2) h3).mono ?_;rintro r w' ⟨rfl,b,k⟩;exact⟨rfl,⟨i,o',q',b,h2,h3⟩,k⟩
 | .inr [],⟨i,pl,h1,h2,h3⟩=>exact absurd rfl h3.1.ne
 | .inr (x::r),⟨i,pl,h1,h2,h3⟩ =>
  obtain⟨hx,_,hm⟩:=m7 h2;refine(An e h1 hx).mono ?_;rintro r' w' ⟨rfl,b,k⟩;exact⟨rfl,⟨i,_,_,b,by have:=List.getElem?_eq_some_iff.1 hx;exact this.1,he⟩,k⟩
theorem QS.ok {w:World}{rb o q:Nat}{all:List Tk}{x:Tk}{r:List Tk}(h:QS w rb all o q (.inr (x::r))) :
  ∃i g cap L:Nat,g<rb/\i<L/\L<=cap/\cap<=9223372036854775807/\L<=3000/\x ∈ all/\w.cell? ⟨rb,0,none⟩=some (.slice (some ⟨g,0,none⟩) L cap)/\w.cell? ⟨rb,1,none⟩=some (.int .i64 (i:Nat))/\w.cell? ⟨rb,2,none⟩=some (.int .i64 (o:Nat))/\w.cell? ⟨rb,3,none⟩=some (.int .i64 (q:Nat))/\w.cell? ⟨rb,4,none⟩=some (.int .i64 0)/\(w.cell? ⟨g,i*4,none⟩=some (.int .i64 (x.k:Nat))/\w.cell? ⟨g,i*4+1,none⟩=some (.int .i64 x.n)/\w.cell? ⟨g,i*4+2,none⟩=some (stv x.t)/\w.cell? ⟨g,i*4+3,none⟩=some (.int .i64 (x.a:Nat)))/\(∀ j,w.frozen? ⟨rb,j,none⟩=false):=by
 obtain⟨i,pl,h1,h2,h3⟩:=h;obtain⟨hx,h4,hm⟩:=m7 h2;obtain⟨g,cap,L,hg,hi,hc,hm2,hL,⟨c0,c1,t0,t1,t2,t3⟩,c2,c3,c4,c5,hf⟩:=h1.next hx;exact⟨i,g,cap,L,hg,hi,hc,hm2,hL,hm,c0,c1,c2,c3,c4,⟨t0,t1,t2,t3⟩,hf⟩
theorem QS.over {w:World}{rb o q:Nat}{all:List Tk}{x:Tk}{r:List Tk}(h:QS w rb all o q (.inr (x::r)))(hx:x.t≠[]\/x.k≠0){i:Nat}(hi:w.cell? ⟨rb,1,none⟩=some (.int .i64 (i:Nat))) :
  QS (w.setCell ⟨rb,1,none⟩ (.int .i64 ((i:Int)+1))) rb all o q (.inr r):=by
 obtain⟨i2,pl,h1,h2,h3⟩:=h;obtain⟨hx2,h4,hm⟩:=m7 h2;obtain⟨_,_,_,_,_,_,_,_,⟨_,c1,_⟩,_⟩:=h1.next hx2;rw[hi] at c1;have e:i=i2:=by
  have e2:(i:Int)=(i2:Int):=by simpa using c1
  omega
 subst e;exact⟨i+1,pl,h1.set.1 (i+1),h4,h3.1.tail hx,h3.2⟩
theorem QS.open {w:World}{rb o q:Nat}{all:List Tk}{ts:List Tk}(h:QS w rb all o q (.inr ts))(o':Nat)(ho:o'<=64) :
  QS (w.setCell ⟨rb,2,none⟩ (.int .i64 (o':Nat))) rb all o' q (.inr ts):=by
 obtain⟨i,pl,h1,h2⟩:=h;exact⟨i,pl,h1.set.2.1 (o':Nat),h2.1,h2.2.1,ho,h2.2.2.2⟩
theorem QS.quants {w:World}{rb o q:Nat}{all:List Tk}{ts:List Tk}(h:QS w rb all o q (.inr ts))(q':Nat)(hq:q'<=4) :
  QS (w.setCell ⟨rb,3,none⟩ (.int .i64 (q':Nat))) rb all o q' (.inr ts):=by
 obtain⟨i,pl,h1,h2⟩:=h;exact⟨i,pl,h1.set.2.2.1 (q':Nat),h2.1,h2.2.1,h2.2.2.1,hq⟩
theorem QS.down {w:World}{rb o q:Nat}{all:List Tk}{st:Sq}(h:QS w rb all (o+1) q st) :
  ∃o':Int,w.cell? ⟨rb,2,none⟩=some (.int .i64 o')/\(∀ j,w.frozen? ⟨rb,j,none⟩=false)/\QS (w.setCell ⟨rb,2,none⟩ (.int .i64 (wrap64 (o' - 1)))) rb all o q st:=by
 match st,h with
 | .inl (er,a),⟨i,o',q',h1,h2,h3⟩ =>
  obtain⟨_,_,_,_,_,_,_,_,_,c2,_,_,_,hf⟩:=h1.next (List.getElem?_eq_getElem h2);exact⟨o',c2,hf,i,_,q',h1.set.2.1 _,h2,h3⟩
 | .inr [],⟨i,pl,h1,h2,h3⟩=>exact absurd rfl h3.1.ne
 | .inr (x::r),⟨i,pl,h1,h2,h3⟩ =>
  obtain⟨hx,_,hm⟩:=m7 h2;obtain⟨_,_,_,_,_,_,_,_,_,c2,_,_,_,hf⟩:=h1.next hx;refine⟨_,c2,hf,i,pl,?_,h2,h3.1,by have:=h3.2.1;omega,h3.2.2⟩;have e:wrap64 ((((o+1:Nat):Int))-1)=((o:Nat):Int):=by have:=h3.2.1;unfold wrap64;omega
  rw[e];exact h1.set.2.1 _
theorem QS.le {w:World}{rb o q:Nat}{all:List Tk}{ts:List Tk}(h:QS w rb all o q (.inr ts)):o<=64/\q<=4/\WFT ts:=by
 obtain⟨i,pl,h1,h2,h3,h4⟩:=h;exact⟨h4.1,h4.2,h3⟩
theorem lN {s:List UInt8}{st:Sq}(h:isS s st=true):∃x r,st=.inr (x::r)/\x.t=s:=by
 match st,h with
 | .inr (x::r),h=>exact⟨x,r,rfl,by simpa [isS] using h⟩
theorem mV {s:List UInt8}{st:Sq}(h:isS s st=false){all:List Tk}{w:World}{rb o q:Nat}(hs:QS w rb all o q st):kq 120 st=onw (aW s) st/\∀ o2,kq 120 st=onw (aG s o2) st:=by
 match st,h,hs with
 | .inl (er,a),h,hs=>exact⟨rfl,fun _=>rfl⟩
 | .inr [],h,⟨i,pl,h1,h2,h3⟩=>exact absurd rfl h3.1.ne
 | .inr (x::r),h,hs =>
  have hx:¬x.t=s:=by simpa [isS] using h
  exact⟨by simp[kq,onw,aW,hx,stp],fun _=>by simp[kq,onw,aG,hx,stp]⟩
theorem ri {w:World}{rb o q:Nat}{all:List Tk}{st:Sq}(TI:∀ x,x ∈ all->et x)(s:List UInt8)(hs:s≠[])(hn:aX s=false)(h:QS w rb all o q st) :
  Calls Tryz.prog 247 #[.pointer (some ⟨rb,0,none⟩),stv s] w fun e w'=>e=.returned (.tuple #[])/\QS w' rb all o q (onw (aW s) st)/\au rb w w':=by
 have c:=rP TI s hs hn h;cases hb:isS s st with
 | true =>
  obtain⟨x,r,rfl,hx⟩:=lN hb;have e1:onw (aW s) (.inr (x::r))=.inr r:=by simp[onw,aW,hx,stp]
  rw[e1];rw[hb] at c;have hx2:x.t≠[]\/x.k≠0:=.inl (by rw[hx];exact hs);clear e1 hb hx;go_enter Tryz.func247,Tryz.ntmps247;go_wp2_with fail;refine c.mono ?_;rintro e w2 ⟨rfl,b⟩;have h2:=h.below b;obtain⟨i,g,cap,L,hg,hi,hcL,hcap,hL,hm,c0,c1,c2,c3,c4,-,hf⟩:=h2.ok;have h3:=h2.over hx2 c1;have K:=(au.ofBelow (rb:=rb) b).trans (au.at w2 1 (.int .i64 ((i:Int)+1)));clear h2 h c b c0 c2 c3 c4;go_wp2
  go_end0
  exact⟨rfl,h3,K⟩
 | false =>
  rw[<-(mV hb h).1];rw[hb] at c;have HF:∀ w2,QS w2 rb all o q st->Calls Tryz.prog 35 #[.pointer (some ⟨rb,0,none⟩),.int .i64 120] w2 fun r w'=>r=.returned (.tuple #[])/\QS w' rb all o q (kq 120 st)/\au rb w2 w':=fun w2 h2=>fJ 120 (by decide) h2;clear hb;go_enter Tryz.func247,Tryz.ntmps247;go_wp2_with fail;refine c.mono ?_;rintro e w2 ⟨rfl,b⟩;go_wp2_with fail;refine(HF w2 (h.below b)).mono ?_;rintro e w3 ⟨rfl,h3,k3⟩;have K:=(au.ofBelow (rb:=rb) b).trans k3;clear h c b HF;go_wp2
  (try simp only[Exit.inBlock,Exit.then])
  refine bodyPost_ret (results_none rfl _ _ _) rfl ?_;exact⟨rfl,h3,K⟩
theorem tH {w:World}{rb q:Nat}{all:List Tk}{x:Tk}{r:List Tk}(h:QS w rb all 64 q (.inr (x::r))) :
  Calls Tryz.prog 129 #[.pointer (some ⟨rb,0,none⟩)] w fun e w'=>e=.returned (.tuple #[])/\QS w' rb all 65 q (.inl (121,x.a))/\au rb w w':=by
 have c:Calls Tryz.prog 35 #[.pointer (some ⟨rb,0,none⟩),.int .i64 121] w fun r' w'=>r'=.returned (.tuple #[])/\QS w' rb all 65 q (.inl (121,x.a))/\au rb w w':=(fJ 121 (by decide) h).mono fun e w' hh=>⟨hh.1,hh.2.1,hh.2.2⟩;obtain⟨i,g,cap,L,hg,hi,hcL,hcap,hL,hm,c0,c1,c2,c3,c4,-,hf⟩:=h.ok;clear h c0 c1 c3 c4;go_enter Tryz.func129,Tryz.ntmps129;go_wp2_with fail;refine c.mono ?_;rintro e w3 ⟨rfl,h3,k3⟩;clear c;go_wp2
 (try simp only[Exit.inBlock,Exit.then])
 refine bodyPost_ret (results_none rfl _ _ _) rfl ?_;exact⟨rfl,h3,k3⟩
theorem om {w:World}{rb o q:Nat}{all:List Tk}{x:Tk}{r:List Tk}(ho:o<64)(hx:x.t≠[])(h:QS w rb all o q (.inr (x::r))) :
  Calls Tryz.prog 129 #[.pointer (some ⟨rb,0,none⟩)] w fun e w'=>e=.returned (.tuple #[])/\QS w' rb all (o+1) q (.inr r)/\au rb w w':=by
 have h1:=h.open (o+1) (by omega);rw[show ((o+1:Nat):Int)=(o:Int)+1 by omega] at h1;obtain⟨i,g,cap,L,hg,hi,hcL,hcap,hL,hm,c0,c1,c2,c3,c4,-,hf⟩:=h.ok;obtain⟨i2,g2,cap2,L2,hg2,hi2,hcL2,hcap2,hL2,hm2,d0,d1,d2,d3,d4,-,hf2⟩:=h1.ok;have h2:=h1.over (.inl hx) d1;have K:=(au.at (rb:=rb) w 2 (.int .i64 ((o:Int)+1))).trans (au.at _ 1 (.int .i64 ((i2:Int)+1)));have hb:((o:Int)==64)=false:=by simp;omega
 clear h h1 c0 c1 c3 c4 d0 d2 d3 d4;go_enter Tryz.func129,Tryz.ntmps129;go_upto_region 3 with fail;generalize w.setCell ⟨rb,2,none⟩ (.int .i64 ((o:Int)+1))=w3 at *;go_wp2
 go_end0
 exact⟨rfl,h2,K⟩
theorem nl {w:World}{rb o q:Nat}{all:List Tk}{st:Sq}(TI:∀ x,x ∈ all->et x)(s:List UInt8)(hs:s≠[])(hn:aX s=false)(h:QS w rb all o q st) :
  Calls Tryz.prog 200 #[.pointer (some ⟨rb,0,none⟩),stv s] w fun e w'=>e=.returned (.tuple #[])/\QS w' rb all (o+1) q (onw (aG s o) st)/\au rb w w':=by
 have c:=rP TI s hs hn h;cases hb:isS s st with
 | true =>
  obtain⟨x,r,rfl,hx⟩:=lN hb;rw[hb] at c;have HF:∀ w2,QS w2 rb all o q (.inr (x::r))->Calls Tryz.prog 129 #[.pointer (some ⟨rb,0,none⟩)] w2 fun e w'=>e=.returned (.tuple #[])/\QS w' rb all (o+1) q (onw (aG s o) (.inr (x::r)))/\au rb w2 w':=fun w2 h2=>by
   by_cases h64:o=64
   ·subst h64;have e1:onw (aG s 64) (.inr (x::r))=.inl (121,x.a):=by simp[onw,aG,hx,stp]
    rw[e1];exact tH h2
   ·have e1:onw (aG s o) (.inr (x::r))=.inr r:=by simp[onw,aG,hx,stp,h64]
    rw[e1];exact om (by have:=h2.le.1;omega) (by rw[hx];exact hs) h2
  clear hb hx;generalize onw (aG s o) (.inr (x::r))=st2 at *;go_enter Tryz.func200,Tryz.ntmps200;go_wp2_with fail;refine c.mono ?_;rintro e w2 ⟨rfl,b⟩;go_wp2_with fail;refine(HF w2 (h.below b)).mono ?_;rintro e w3 ⟨rfl,h3,k3⟩;have K:=(au.ofBelow (rb:=rb) b).trans k3;clear h c b HF;go_wp2
  go_end0
  exact⟨rfl,h3,K⟩
 | false =>
  rw[<-(mV hb h).2 o];rw[hb] at c;have HF:∀ w2,QS w2 rb all o q st->Calls Tryz.prog 35 #[.pointer (some ⟨rb,0,none⟩),.int .i64 120] w2 fun r w'=>r=.returned (.tuple #[])/\QS w' rb all (o+1) q (kq 120 st)/\au rb w2 w':=fun w2 h2=>(fJ 120 (by decide) h2).mono fun e w' hh=>⟨hh.1,by
   obtain⟨er,a,e1⟩:∃er a,kq 120 st=.inl (er,a):=by
    match st with
    | .inl (er,a)=>exact⟨er,a,rfl⟩
    | .inr []=>exact⟨0,0,rfl⟩
    | .inr (x::r)=>exact⟨120,x.a,rfl⟩
   have h3:=hh.2.1;rw[e1] at h3 ⊢;exact h3,hh.2.2⟩
  clear hb;go_enter Tryz.func200,Tryz.ntmps200;go_wp2_with fail;refine c.mono ?_;rintro e w2 ⟨rfl,b⟩;go_wp2_with fail;refine(HF w2 (h.below b)).mono ?_;rintro e w3 ⟨rfl,h3,k3⟩;have K:=(au.ofBelow (rb:=rb) b).trans k3;clear h c b HF;go_wp2
  (try simp only[Exit.inBlock,Exit.then])
  refine bodyPost_ret (results_none rfl _ _ _) rfl ?_;exact⟨rfl,h3,K⟩
theorem zu {w:World}{rb o q:Nat}{all:List Tk}{st:Sq}(TI:∀ x,x ∈ all->et x)(s:List UInt8)(hs:s≠[])(hn:aX s=false)(h:QS w rb all (o+1) q st) :
  Calls Tryz.prog 201 #[.pointer (some ⟨rb,0,none⟩),stv s] w fun e w'=>e=.returned (.tuple #[])/\QS w' rb all o q (onw (aW s) st)/\au rb w w':=by
 have c:=ri TI s hs hn h;generalize onw (aW s) st=st2 at *;go_enter Tryz.func201,Tryz.ntmps201;go_wp2_with fail;refine c.mono ?_;rintro e w2 ⟨rfl,h2,k2⟩;obtain⟨o',c2,hf,h3⟩:=h2.down;have K:=k2.trans (au.at w2 2 (.int .i64 (wrap64 (o' - 1))));clear h c k2 h2;go_wp2
 go_end0
 exact⟨rfl,h3,K⟩
end Go.Proofs.YtbjdkekhnajafaaGreatDoor

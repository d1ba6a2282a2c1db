import Derived.Test.YtaihhnlfcndecaaGreatDoorRckW
namespace Go.Proofs.YtaihhnlfcndecaaGreatDoor
open Go.ChangeShapes Go.WideShapes Go.ChangeAt Go.RowKit
set_option linter.unusedVariables false
set_option linter.unusedSimpArgs false
set_option maxRecDepth 100000 in
theorem reck8_c {a b:Int} (ha:In64 a) (hb:In64 b) (w:World):Calls Tryz.prog 106 #[.int .i64 8,.int .i64 a,.int .i64 b] w fun e w'=>e=.returned (wrV 8 a b)∧w'=w:=by
 rw [show wrV 8 a b=ovV (a+b) from ov_wr (by simp [rckP]) (by omega)]
 obtain ⟨ha1,ha2⟩:=ha
 obtain ⟨hb1,hb2⟩:=hb
 unfold ovV
 by_cases h0:0 < b
 ·have r1:-9223372036854775808≤9223372036854775807 - b:=by omega
  have r2:9223372036854775807 - b≤9223372036854775807:=by omega
  by_cases h:9223372036854775807 - b < a
  ·have hn:¬ In64 (a+b):=by unfold In64;omega
   rw [inI_neg hn]
   simp only [Bool.false_eq_true,if_false]
   clear hn
   go_enter Tryz.func106,Tryz.ntmps106
   go_wp2
   exact bodyPost_ret (v:=.tuple #[.int .i64 (0),.int .i64 1]) (by simp [results,Tryz.results106,go_sem]) rfl ⟨rfl,rfl⟩
  ·have hn:In64 (a+b):=by unfold In64;omega
   rw [inI_pos hn]
   simp only [if_true]
   obtain ⟨hi1,hi2⟩:=hn
   go_enter Tryz.func106,Tryz.ntmps106
   go_wp2
   exact bodyPost_ret (v:=.tuple #[.int .i64 (a+b),.int .i64 0]) (by simp [results,Tryz.results106,go_sem]) rfl ⟨rfl,rfl⟩
 ·by_cases h2:b < 0
  ·have r1:-9223372036854775808≤-9223372036854775808 - b:=by omega
   have r2:-9223372036854775808 - b≤9223372036854775807:=by omega
   by_cases h:a < -9223372036854775808 - b
   ·have hn:¬ In64 (a+b):=by unfold In64;omega
    rw [inI_neg hn]
    simp only [Bool.false_eq_true,if_false]
    clear hn
    go_enter Tryz.func106,Tryz.ntmps106
    go_wp2
    exact bodyPost_ret (v:=.tuple #[.int .i64 (0),.int .i64 1]) (by simp [results,Tryz.results106,go_sem]) rfl ⟨rfl,rfl⟩
   ·have hn:In64 (a+b):=by unfold In64;omega
    rw [inI_pos hn]
    simp only [if_true]
    obtain ⟨hi1,hi2⟩:=hn
    go_enter Tryz.func106,Tryz.ntmps106
    go_wp2
    exact bodyPost_ret (v:=.tuple #[.int .i64 (a+b),.int .i64 0]) (by simp [results,Tryz.results106,go_sem]) rfl ⟨rfl,rfl⟩
  ·have hn:In64 (a+b):=by unfold In64;omega
   rw [inI_pos hn]
   simp only [if_true]
   obtain ⟨hi1,hi2⟩:=hn
   go_enter Tryz.func106,Tryz.ntmps106
   go_wp2
   exact bodyPost_ret (v:=.tuple #[.int .i64 (a+b),.int .i64 0]) (by simp [results,Tryz.results106,go_sem]) rfl ⟨rfl,rfl⟩
set_option maxRecDepth 100000 in
theorem reck9_c {a b:Int} (ha:In64 a) (hb:In64 b) (w:World):Calls Tryz.prog 106 #[.int .i64 9,.int .i64 a,.int .i64 b] w fun e w'=>e=.returned (wrV 9 a b)∧w'=w:=by
 rw [show wrV 9 a b=ovV (a - b) from ov_wr (by simp [rckP]) (by omega)]
 obtain ⟨ha1,ha2⟩:=ha
 obtain ⟨hb1,hb2⟩:=hb
 unfold ovV
 by_cases h0:b < 0
 ·have r1:-9223372036854775808≤9223372036854775807+b:=by omega
  have r2:9223372036854775807+b≤9223372036854775807:=by omega
  by_cases h:9223372036854775807+b < a
  ·have hn:¬ In64 (a - b):=by unfold In64;omega
   rw [inI_neg hn]
   simp only [Bool.false_eq_true,if_false]
   clear hn
   go_enter Tryz.func106,Tryz.ntmps106
   go_wp2
   exact bodyPost_ret (v:=.tuple #[.int .i64 (0),.int .i64 1]) (by simp [results,Tryz.results106,go_sem]) rfl ⟨rfl,rfl⟩
  ·have hn:In64 (a - b):=by unfold In64;omega
   rw [inI_pos hn]
   simp only [if_true]
   obtain ⟨hi1,hi2⟩:=hn
   go_enter Tryz.func106,Tryz.ntmps106
   go_wp2
   exact bodyPost_ret (v:=.tuple #[.int .i64 (a - b),.int .i64 0]) (by simp [results,Tryz.results106,go_sem]) rfl ⟨rfl,rfl⟩
 ·by_cases h2:0 < b
  ·have r1:-9223372036854775808≤-9223372036854775808+b:=by omega
   have r2:-9223372036854775808+b≤9223372036854775807:=by omega
   by_cases h:a < -9223372036854775808+b
   ·have hn:¬ In64 (a - b):=by unfold In64;omega
    rw [inI_neg hn]
    simp only [Bool.false_eq_true,if_false]
    clear hn
    go_enter Tryz.func106,Tryz.ntmps106
    go_wp2
    exact bodyPost_ret (v:=.tuple #[.int .i64 (0),.int .i64 1]) (by simp [results,Tryz.results106,go_sem]) rfl ⟨rfl,rfl⟩
   ·have hn:In64 (a - b):=by unfold In64;omega
    rw [inI_pos hn]
    simp only [if_true]
    obtain ⟨hi1,hi2⟩:=hn
    go_enter Tryz.func106,Tryz.ntmps106
    go_wp2
    exact bodyPost_ret (v:=.tuple #[.int .i64 (a - b),.int .i64 0]) (by simp [results,Tryz.results106,go_sem]) rfl ⟨rfl,rfl⟩
  ·have hn:In64 (a - b):=by unfold In64;omega
   rw [inI_pos hn]
   simp only [if_true]
   obtain ⟨hi1,hi2⟩:=hn
   go_enter Tryz.func106,Tryz.ntmps106
   go_wp2
   exact bodyPost_ret (v:=.tuple #[.int .i64 (a - b),.int .i64 0]) (by simp [results,Tryz.results106,go_sem]) rfl ⟨rfl,rfl⟩
set_option maxRecDepth 100000 in
theorem reck10_c {a b:Int} (ha:In64 a) (hb:In64 b) (w:World):Calls Tryz.prog 106 #[.int .i64 10,.int .i64 a,.int .i64 b] w fun e w'=>e=.returned (wrV 10 a b)∧w'=w:=by
 rw [show wrV 10 a b=ovV (a * b) from ov_wr (by simp [rckP]) (by omega)]
 by_cases h0:a=0
 ·subst h0
  rw [Int.zero_mul]
  unfold ovV
  rw [inI_pos (show In64 0 from ⟨by decide,by decide⟩)]
  simp only [if_true]
  go_enter Tryz.func106,Tryz.ntmps106
  go_wp2
  exact bodyPost_ret (v:=.tuple #[.int .i64 (0),.int .i64 0]) (by simp [results,Tryz.results106,go_sem]) rfl ⟨rfl,rfl⟩
 by_cases h1:b=0
 ·subst h1
  rw [Int.mul_zero]
  unfold ovV
  rw [inI_pos (show In64 0 from ⟨by decide,by decide⟩)]
  simp only [if_true]
  have ha0:(a == 0)=false:=by simpa using h0
  go_enter Tryz.func106,Tryz.ntmps106
  go_wp2
  exact bodyPost_ret (v:=.tuple #[.int .i64 (0),.int .i64 0]) (by simp [results,Tryz.results106,go_sem]) rfl ⟨rfl,rfl⟩
 have ha0:(a == 0)=false:=by simpa using h0
 have hb0:(b == 0)=false:=by simpa using h1
 unfold ovV
 by_cases h:In64 (a * b)
 ·rw [inI_pos h]
  simp only [if_true]
  have hq:(a * b).tdiv b=a:=Int.mul_tdiv_cancel a h1
  have n1:a=-1→(b == -9223372036854775808)=false:=fun e=>by
   rw [beq_eq_false_iff_ne]
   rintro rfl
   rw [e] at h
   exact absurd h.2 (by decide)
  have n2:b=-1→(a == -9223372036854775808)=false:=fun e=>by
   rw [beq_eq_false_iff_ne]
   rintro rfl
   rw [e] at h
   exact absurd h.2 (by decide)
  obtain ⟨hi1,hi2⟩:=h
  obtain ⟨ha1,ha2⟩:=ha
  by_cases e1:a=-1
  ·have x1:(a == -1)=true:=by simpa using e1
   have y1:=n1 e1
   by_cases e2:b=-1
   ·have x2:(b == -1)=true:=by simpa using e2
    have y2:=n2 e2
    clear e1 e2 n1 n2
    go_enter Tryz.func106,Tryz.ntmps106
    go_wp2
    exact bodyPost_ret (v:=.tuple #[.int .i64 (a * b),.int .i64 0]) (by simp [results,Tryz.results106,go_sem]) rfl ⟨rfl,rfl⟩
   ·have x2:(b == -1)=false:=by simpa using e2
    clear e1 e2 n1 n2
    go_enter Tryz.func106,Tryz.ntmps106
    go_wp2
    exact bodyPost_ret (v:=.tuple #[.int .i64 (a * b),.int .i64 0]) (by simp [results,Tryz.results106,go_sem]) rfl ⟨rfl,rfl⟩
  ·have x1:(a == -1)=false:=by simpa using e1
   by_cases e2:b=-1
   ·have x2:(b == -1)=true:=by simpa using e2
    have y2:=n2 e2
    clear e1 e2 n1 n2
    go_enter Tryz.func106,Tryz.ntmps106
    go_wp2
    exact bodyPost_ret (v:=.tuple #[.int .i64 (a * b),.int .i64 0]) (by simp [results,Tryz.results106,go_sem]) rfl ⟨rfl,rfl⟩
   ·have x2:(b == -1)=false:=by simpa using e2
    clear e1 e2 n1 n2
    go_enter Tryz.func106,Tryz.ntmps106
    go_wp2
    exact bodyPost_ret (v:=.tuple #[.int .i64 (a * b),.int .i64 0]) (by simp [results,Tryz.results106,go_sem]) rfl ⟨rfl,rfl⟩
 ·rw [inI_neg h]
  simp only [Bool.false_eq_true,if_false]
  by_cases m1:a=-1∧b=-9223372036854775808
  ·have x1:(a == -1)=true:=by simpa using m1.1
   have y1:(b == -9223372036854775808)=true:=by simpa using m1.2
   clear m1 h
   go_enter Tryz.func106,Tryz.ntmps106
   go_wp2
   exact bodyPost_ret (v:=.tuple #[.int .i64 (0),.int .i64 1]) (by simp [results,Tryz.results106,go_sem]) rfl ⟨rfl,rfl⟩
  by_cases m2:b=-1∧a=-9223372036854775808
  ·have x1:(a == -1)=false:=by rw [m2.2];decide
   have x2:(b == -1)=true:=by simpa using m2.1
   have y2:(a == -9223372036854775808)=true:=by simpa using m2.2
   clear m1 m2 h
   go_enter Tryz.func106,Tryz.ntmps106
   go_wp2
   exact bodyPost_ret (v:=.tuple #[.int .i64 (0),.int .i64 1]) (by simp [results,Tryz.results106,go_sem]) rfl ⟨rfl,rfl⟩
  have hq:¬ (wrap64 (a * b)).tdiv b=a:=fun hq=>mul_round ha hb h1 h hq
  have hp:In64 (wrap64 (a * b)):=by unfold In64 wrap64;omega
  have hx:¬ (wrap64 (a * b)=-9223372036854775808∧b=-1):=by
   rintro ⟨h2,rfl⟩
   obtain ⟨ha1,ha2⟩:=ha
   unfold In64 at h
   unfold wrap64 at h2
   omega
  obtain ⟨hi1,hi2⟩:=tdiv_in hp h1 hx
  have n1:a=-1→(b == -9223372036854775808)=false:=fun e=>by
   rw [beq_eq_false_iff_ne]
   exact fun e2=>m1 ⟨e,e2⟩
  have n2:b=-1→(a == -9223372036854775808)=false:=fun e=>by
   rw [beq_eq_false_iff_ne]
   exact fun e2=>m2 ⟨e,e2⟩
  clear m1 m2 hx h
  by_cases e1:a=-1
  ·have x1:(a == -1)=true:=by simpa using e1
   have y1:=n1 e1
   by_cases e2:b=-1
   ·have x2:(b == -1)=true:=by simpa using e2
    have y2:=n2 e2
    clear e1 e2 n1 n2
    go_enter Tryz.func106,Tryz.ntmps106
    go_wp2
    exact bodyPost_ret (v:=.tuple #[.int .i64 (0),.int .i64 1]) (by simp [results,Tryz.results106,go_sem]) rfl ⟨rfl,rfl⟩
   ·have x2:(b == -1)=false:=by simpa using e2
    clear e1 e2 n1 n2
    go_enter Tryz.func106,Tryz.ntmps106
    go_wp2
    exact bodyPost_ret (v:=.tuple #[.int .i64 (0),.int .i64 1]) (by simp [results,Tryz.results106,go_sem]) rfl ⟨rfl,rfl⟩
  ·have x1:(a == -1)=false:=by simpa using e1
   by_cases e2:b=-1
   ·have x2:(b == -1)=true:=by simpa using e2
    have y2:=n2 e2
    clear e1 e2 n1 n2
    go_enter Tryz.func106,Tryz.ntmps106
    go_wp2
    exact bodyPost_ret (v:=.tuple #[.int .i64 (0),.int .i64 1]) (by simp [results,Tryz.results106,go_sem]) rfl ⟨rfl,rfl⟩
   ·have x2:(b == -1)=false:=by simpa using e2
    clear e1 e2 n1 n2
    go_enter Tryz.func106,Tryz.ntmps106
    go_wp2
    exact bodyPost_ret (v:=.tuple #[.int .i64 (0),.int .i64 1]) (by simp [results,Tryz.results106,go_sem]) rfl ⟨rfl,rfl⟩
set_option maxRecDepth 100000 in
theorem reck11_c {a b:Int} (ha:In64 a) (hb:In64 b) (w:World):Calls Tryz.prog 106 #[.int .i64 11,.int .i64 a,.int .i64 b] w fun e w'=>e=.returned (wrV 11 a b)∧w'=w:=by
 rw [qu_wr]
 unfold quV
 by_cases h0:b=0
 ·subst h0
  rw [if_pos rfl]
  go_enter Tryz.func106,Tryz.ntmps106
  go_wp2
  exact bodyPost_ret (v:=.tuple #[.int .i64 (0),.int .i64 4]) (by simp [results,Tryz.results106,go_sem]) rfl ⟨rfl,rfl⟩
 ·rw [if_neg h0]
  have hb0:(b == 0)=false:=by simpa using h0
  by_cases h1:b=-1
  ·have hv:ovV (a.tdiv b)=wrV 9 0 a:=by
    rw [h1,show wrV 9 0 a=ovV (0 - a) from ov_wr (by simp [rckP]) (by omega),show a.tdiv (-1)=0 - a by rw [Int.tdiv_neg,Int.tdiv_one];omega]
   have c:=reck9_c (a:=0) (b:=a) ⟨by decide,by decide⟩ ha w
   have x1:(b == -1)=true:=by simpa using h1
   rw [hv]
   obtain ⟨p,q,hw⟩:∃ p q,wrV 9 0 a=.tuple #[.int .i64 p,.int .i64 q]:=⟨_,_,rfl⟩
   rw [hw] at c ⊢
   clear hv hw h1 h0 ha hb
   go_enter Tryz.func106,Tryz.ntmps106
   go_wp2_with fail
   refine c.mono ?_
   rintro u w2 ⟨rfl,rfl⟩
   go_wp2
   exact bodyPost_ret (v:=.tuple #[.int .i64 p,.int .i64 q]) (by simp [results,Tryz.results106,go_sem]) rfl ⟨rfl,rfl⟩
  ·have hn:=tdiv_in ha h0 (fun h=>h1 h.2)
   have x1:(b == -1)=false:=by simpa using h1
   unfold ovV
   rw [inI_pos hn]
   simp only [if_true]
   obtain ⟨hi1,hi2⟩:=hn
   clear h1
   go_enter Tryz.func106,Tryz.ntmps106
   go_wp2
   exact bodyPost_ret (v:=.tuple #[.int .i64 (a.tdiv b),.int .i64 0]) (by simp [results,Tryz.results106,go_sem]) rfl ⟨rfl,rfl⟩
set_option maxRecDepth 100000 in
theorem reck12_c {a b:Int} (ha:In64 a) (hb:In64 b) (w:World):Calls Tryz.prog 106 #[.int .i64 12,.int .i64 a,.int .i64 b] w fun e w'=>e=.returned (wrV 12 a b)∧w'=w:=by
 rw [re_wr]
 unfold reV
 by_cases h0:b=0
 ·subst h0
  rw [if_pos rfl]
  go_enter Tryz.func106,Tryz.ntmps106
  go_wp2
  exact bodyPost_ret (v:=.tuple #[.int .i64 (0),.int .i64 4]) (by simp [results,Tryz.results106,go_sem]) rfl ⟨rfl,rfl⟩
 ·rw [if_neg h0]
  have hb0:(b == 0)=false:=by simpa using h0
  obtain ⟨hi1,hi2⟩:=tmod_in ha h0
  by_cases h1:b=-1
  ·have x1:(b == -1)=true:=by simpa using h1
   rw [show a.tmod b=0 by rw [h1,Int.tmod_neg,Int.tmod_one]]
   clear h1
   go_enter Tryz.func106,Tryz.ntmps106
   go_wp2
   exact bodyPost_ret (v:=.tuple #[.int .i64 (0),.int .i64 0]) (by simp [results,Tryz.results106,go_sem]) rfl ⟨rfl,rfl⟩
  ·have x1:(b == -1)=false:=by simpa using h1
   clear h1
   go_enter Tryz.func106,Tryz.ntmps106
   go_wp2
   exact bodyPost_ret (v:=.tuple #[.int .i64 (a.tmod b),.int .i64 0]) (by simp [results,Tryz.results106,go_sem]) rfl ⟨rfl,rfl⟩
theorem reck_c {k a b:Int} (hk:8≤k∧k≤12) (ha:In64 a) (hb:In64 b) (w:World):Calls Tryz.prog 106 #[.int .i64 k,.int .i64 a,.int .i64 b] w fun e w'=>e=.returned (wrV k a b)∧w'=w:=by
 have:k=8∨k=9∨k=10∨k=11∨k=12:=by omega
 rcases this with rfl | rfl | rfl | rfl | rfl
 ·exact reck8_c ha hb w
 ·exact reck9_c ha hb w
 ·exact reck10_c ha hb w
 ·exact reck11_c ha hb w
 ·exact reck12_c ha hb w
set_option maxRecDepth 100000 in
theorem isr_c (e:Ex) (ao:Option Addr) (cap:Nat) (k n:Int) (w:World):Calls Tryz.prog 107 #[exN e ao cap,.int .i64 k,.int .i64 n] w fun x w'=>x=.returned (.bool (isE e k n))∧Below w.heap.size w w':=by
 have B0:Below w.heap.size w (w.alloc (.cells #[.int .i64 e.k,.int .i64 e.n,stv e.nm,.slice ao e.kids.len cap] 34)):=(Below.refl _ w).alloc (Nat.le_refl _) _
 have E0:(w.alloc (.cells #[.int .i64 e.k,.int .i64 e.n,stv e.nm,.slice ao e.kids.len cap] 34)).heap[w.heap.size]?=some (.cells #[.int .i64 e.k,.int .i64 e.n,stv e.nm,.slice ao e.kids.len cap] 34):=heap_alloc_new w _
 rw [exN_out]
 unfold isE
 go_enter Tryz.func107,Tryz.ntmps107
 go_upto_region 1 with fail
 generalize w.alloc (.cells #[.int .i64 e.k,.int .i64 e.n,stv e.nm,.slice ao e.kids.len cap] 34)=w0 at *
 obtain ⟨bx,hbx⟩:∃ bx,bx=w.heap.size:=⟨_,rfl⟩
 rw [←hbx] at E0 B0 ⊢
 have HB:Hid (bx=w.heap.size):=hbx
 clear hbx
 obtain ⟨p0,p1,p2,p3,pf⟩:=box4 E0
 cases hk:(e.k == k) with
 | true =>
  go_wp2
  go_ret
  exact ⟨by simp [hk],by rw [←HB.out];exact B0⟩
 | false =>
  go_wp2
  go_ret
  exact ⟨by simp [hk],by rw [←HB.out];exact B0⟩
set_option maxRecDepth 100000 in
theorem isnum_c (e:Ex) (ao:Option Addr) (cap:Nat) (n:Int) (w:World):Calls Tryz.prog 164 #[exN e ao cap,.int .i64 n] w fun x w'=>x=.returned (.bool (isE e 1 n))∧Below w.heap.size w w':=by
 have B0:Below w.heap.size w (w.alloc (.cells #[.int .i64 e.k,.int .i64 e.n,stv e.nm,.slice ao e.kids.len cap] 34)):=(Below.refl _ w).alloc (Nat.le_refl _) _
 have E0:(w.alloc (.cells #[.int .i64 e.k,.int .i64 e.n,stv e.nm,.slice ao e.kids.len cap] 34)).heap[w.heap.size]?=some (.cells #[.int .i64 e.k,.int .i64 e.n,stv e.nm,.slice ao e.kids.len cap] 34):=heap_alloc_new w _
 rw [exN_out]
 unfold isE
 go_enter Tryz.func164,Tryz.ntmps164
 go_upto_region 1 with fail
 generalize w.alloc (.cells #[.int .i64 e.k,.int .i64 e.n,stv e.nm,.slice ao e.kids.len cap] 34)=w0 at *
 obtain ⟨bx,hbx⟩:∃ bx,bx=w.heap.size:=⟨_,rfl⟩
 rw [←hbx] at E0 B0 ⊢
 have HB:Hid (bx=w.heap.size):=hbx
 clear hbx
 obtain ⟨p0,p1,p2,p3,pf⟩:=box4 E0
 cases hk:(e.k == 1) with
 | true =>
  go_wp2
  go_ret
  exact ⟨by simp [hk],by rw [←HB.out];exact B0⟩
 | false =>
  go_wp2
  go_ret
  exact ⟨by simp [hk],by rw [←HB.out];exact B0⟩
set_option maxRecDepth 100000 in
theorem istru_c (e:Ex) (ao:Option Addr) (cap:Nat) (n:Int) (w:World):Calls Tryz.prog 165 #[exN e ao cap,.int .i64 n] w fun x w'=>x=.returned (.bool (isE e 2 n))∧Below w.heap.size w w':=by
 have B0:Below w.heap.size w (w.alloc (.cells #[.int .i64 e.k,.int .i64 e.n,stv e.nm,.slice ao e.kids.len cap] 34)):=(Below.refl _ w).alloc (Nat.le_refl _) _
 have E0:(w.alloc (.cells #[.int .i64 e.k,.int .i64 e.n,stv e.nm,.slice ao e.kids.len cap] 34)).heap[w.heap.size]?=some (.cells #[.int .i64 e.k,.int .i64 e.n,stv e.nm,.slice ao e.kids.len cap] 34):=heap_alloc_new w _
 rw [exN_out]
 unfold isE
 go_enter Tryz.func165,Tryz.ntmps165
 go_upto_region 1 with fail
 generalize w.alloc (.cells #[.int .i64 e.k,.int .i64 e.n,stv e.nm,.slice ao e.kids.len cap] 34)=w0 at *
 obtain ⟨bx,hbx⟩:∃ bx,bx=w.heap.size:=⟨_,rfl⟩
 rw [←hbx] at E0 B0 ⊢
 have HB:Hid (bx=w.heap.size):=hbx
 clear hbx
 obtain ⟨p0,p1,p2,p3,pf⟩:=box4 E0
 cases hk:(e.k == 2) with
 | true =>
  go_wp2
  go_ret
  exact ⟨by simp [hk],by rw [←HB.out];exact B0⟩
 | false =>
  go_wp2
  go_ret
  exact ⟨by simp [hk],by rw [←HB.out];exact B0⟩
set_option maxRecDepth 100000 in
theorem iscon_c (e:Ex) (ao:Option Addr) (cap:Nat) (w:World):Calls Tryz.prog 115 #[exN e ao cap] w fun x w'=>x=.returned (.bool (cnE e))∧Below w.heap.size w w':=by
 have B0:Below w.heap.size w (w.alloc (.cells #[.int .i64 e.k,.int .i64 e.n,stv e.nm,.slice ao e.kids.len cap] 34)):=(Below.refl _ w).alloc (Nat.le_refl _) _
 have E0:(w.alloc (.cells #[.int .i64 e.k,.int .i64 e.n,stv e.nm,.slice ao e.kids.len cap] 34)).heap[w.heap.size]?=some (.cells #[.int .i64 e.k,.int .i64 e.n,stv e.nm,.slice ao e.kids.len cap] 34):=heap_alloc_new w _
 rw [exN_out]
 unfold cnE
 go_enter Tryz.func115,Tryz.ntmps115
 go_upto_region 1 with fail
 generalize w.alloc (.cells #[.int .i64 e.k,.int .i64 e.n,stv e.nm,.slice ao e.kids.len cap] 34)=w0 at *
 obtain ⟨bx,hbx⟩:∃ bx,bx=w.heap.size:=⟨_,rfl⟩
 rw [←hbx] at E0 B0 ⊢
 have HB:Hid (bx=w.heap.size):=hbx
 clear hbx
 obtain ⟨p0,p1,p2,p3,pf⟩:=box4 E0
 cases hk:(e.k == 1) with
 | true =>
  go_wp2
  go_ret
  exact ⟨by simp [hk],by rw [←HB.out];exact B0⟩
 | false =>
  go_wp2
  go_ret
  exact ⟨by simp [hk],by rw [←HB.out];exact B0⟩
def ckE (k:Int):Int:=if k=6∨(8≤k∧k≤12) then 1 else 2
theorem conkind_c {k:Int} (hk:6≤k∧k≤16) (w:World):Calls Tryz.prog 163 #[.int .i64 k] w fun x w'=>x=.returned (.int .i64 (ckE k))∧w'=w:=by
 have:k=6∨k=7∨k=8∨k=9∨k=10∨k=11∨k=12∨k=13∨k=14∨k=15∨k=16:=by omega
 rcases this with rfl | rfl | rfl | rfl | rfl | rfl | rfl | rfl | rfl | rfl | rfl
 ·go_enter Tryz.func163,Tryz.ntmps163
  go_wp2
  go_ret
  exact ⟨rfl,rfl⟩
 ·go_enter Tryz.func163,Tryz.ntmps163
  go_wp2
  go_ret
  exact ⟨rfl,rfl⟩
 ·go_enter Tryz.func163,Tryz.ntmps163
  go_wp2
  go_ret
  exact ⟨rfl,rfl⟩
 ·go_enter Tryz.func163,Tryz.ntmps163
  go_wp2
  go_ret
  exact ⟨rfl,rfl⟩
 ·go_enter Tryz.func163,Tryz.ntmps163
  go_wp2
  go_ret
  exact ⟨rfl,rfl⟩
 ·go_enter Tryz.func163,Tryz.ntmps163
  go_wp2
  go_ret
  exact ⟨rfl,rfl⟩
 ·go_enter Tryz.func163,Tryz.ntmps163
  go_wp2
  go_ret
  exact ⟨rfl,rfl⟩
 ·go_enter Tryz.func163,Tryz.ntmps163
  go_wp2
  go_ret
  exact ⟨rfl,rfl⟩
 ·go_enter Tryz.func163,Tryz.ntmps163
  go_wp2
  go_ret
  exact ⟨rfl,rfl⟩
 ·go_enter Tryz.func163,Tryz.ntmps163
  go_wp2
  go_ret
  exact ⟨rfl,rfl⟩
 ·go_enter Tryz.func163,Tryz.ntmps163
  go_wp2
  go_ret
  exact ⟨rfl,rfl⟩
set_option maxRecDepth 100000 in
theorem number_c (n:Int) (w:World):Calls Tryz.prog 104 #[.int .i64 n] w fun x w'=>x=.returned (exN (numE n) none 0)∧Below w.heap.size w w':=by
 have B0:Below w.heap.size w (w.alloc (.cells #[.int .i64 0,.int .i64 0,.string ⟨#[]⟩,.slice none 0 0] 34)):=(Below.refl _ w).alloc (Nat.le_refl _) _
 have E0:(w.alloc (.cells #[.int .i64 0,.int .i64 0,.string ⟨#[]⟩,.slice none 0 0] 34)).heap[w.heap.size]?=some (.cells #[.int .i64 0,.int .i64 0,.string ⟨#[]⟩,.slice none 0 0] 34):=heap_alloc_new w _
 have B1:=(((B0.setCell (p:=⟨w.heap.size,0,none⟩) (Nat.le_refl _) (.int .i64 1)).setCell (p:=⟨w.heap.size,1,none⟩) (Nat.le_refl _) (.int .i64 n)).setCell (p:=⟨w.heap.size,2,none⟩) (Nat.le_refl _) (.string ⟨#[]⟩)).setCell (p:=⟨w.heap.size,3,none⟩) (Nat.le_refl _) (.slice none 0 0)
 have E1:=set4k (b0:=.int .i64 1) (b1:=.int .i64 n) (b2:=.string ⟨#[]⟩) (b3:=.slice none 0 0) E0
 go_enter Tryz.func104,Tryz.ntmps104
 go_upto_region 1 with fail
 generalize w.alloc (.cells #[.int .i64 0,.int .i64 0,.string ⟨#[]⟩,.slice none 0 0] 34)=w0 at *
 obtain ⟨bx,hbx⟩:∃ bx,bx=w.heap.size:=⟨_,rfl⟩
 rw [←hbx] at E0 E1 B0 B1 ⊢
 have HB:Hid (bx=w.heap.size):=hbx
 clear hbx
 obtain ⟨p0,p1,p2,p3,pf⟩:=box4 E0
 have HU:Hid (∃ wz,wz=(((w0.setCell ⟨bx,0,none⟩ (.int .i64 1)).setCell ⟨bx,1,none⟩ (.int .i64 n)).setCell ⟨bx,2,none⟩ (.string ⟨#[]⟩)).setCell ⟨bx,3,none⟩ (.slice none 0 0)∧wz.heap[bx]?=some (.cells #[.int .i64 1,.int .i64 n,.string ⟨#[]⟩,.slice none 0 0] 34)∧Below bx w wz):=⟨_,rfl,E1,B1⟩
 clear B0 E0 B1 E1
 go_wp2
 obtain ⟨wz,hwz,E2,B2⟩:=HU.out
 rw [←hwz]
 obtain ⟨v0,v1,v2,v3,-⟩:=box4 E2
 refine bodyPost_ret (v:=exN (numE n) none 0) (by simp [results,Tryz.results104,go_sem,v0,v1,v2,v3,exN,numE,stv,Fs.nil,Fs.len]) rfl ⟨rfl,by rw [←HB.out];exact B2⟩
set_option maxRecDepth 100000 in
theorem truthr_c (b:Bool) (w:World):Calls Tryz.prog 105 #[.bool b] w fun x w'=>x=.returned (exN (truE b) none 0)∧Below w.heap.size w w':=by
 have B0:Below w.heap.size w (w.alloc (.cells #[.int .i64 0,.int .i64 0,.string ⟨#[]⟩,.slice none 0 0] 34)):=(Below.refl _ w).alloc (Nat.le_refl _) _
 have E0:(w.alloc (.cells #[.int .i64 0,.int .i64 0,.string ⟨#[]⟩,.slice none 0 0] 34)).heap[w.heap.size]?=some (.cells #[.int .i64 0,.int .i64 0,.string ⟨#[]⟩,.slice none 0 0] 34):=heap_alloc_new w _
 cases b with
 | true =>
  have B1:=(((B0.setCell (p:=⟨w.heap.size,0,none⟩) (Nat.le_refl _) (.int .i64 2)).setCell (p:=⟨w.heap.size,1,none⟩) (Nat.le_refl _) (.int .i64 1)).setCell (p:=⟨w.heap.size,2,none⟩) (Nat.le_refl _) (.string ⟨#[]⟩)).setCell (p:=⟨w.heap.size,3,none⟩) (Nat.le_refl _) (.slice none 0 0)
  have E1:=set4k (b0:=.int .i64 2) (b1:=.int .i64 1) (b2:=.string ⟨#[]⟩) (b3:=.slice none 0 0) E0
  go_enter Tryz.func105,Tryz.ntmps105
  go_upto_region 1 with fail
  generalize w.alloc (.cells #[.int .i64 0,.int .i64 0,.string ⟨#[]⟩,.slice none 0 0] 34)=w0 at *
  obtain ⟨bx,hbx⟩:∃ bx,bx=w.heap.size:=⟨_,rfl⟩
  rw [←hbx] at E0 E1 B0 B1 ⊢
  have HB:Hid (bx=w.heap.size):=hbx
  clear hbx
  obtain ⟨p0,p1,p2,p3,pf⟩:=box4 E0
  have HU:Hid (∃ wz,wz=(((w0.setCell ⟨bx,0,none⟩ (.int .i64 2)).setCell ⟨bx,1,none⟩ (.int .i64 1)).setCell ⟨bx,2,none⟩ (.string ⟨#[]⟩)).setCell ⟨bx,3,none⟩ (.slice none 0 0)∧wz.heap[bx]?=some (.cells #[.int .i64 2,.int .i64 1,.string ⟨#[]⟩,.slice none 0 0] 34)∧Below bx w wz):=⟨_,rfl,E1,B1⟩
  clear B0 E0 B1 E1
  go_wp2
  obtain ⟨wz,hwz,E2,B2⟩:=HU.out
  rw [←hwz]
  obtain ⟨v0,v1,v2,v3,-⟩:=box4 E2
  refine bodyPost_ret (v:=exN (truE true) none 0) (by simp [results,Tryz.results105,go_sem,v0,v1,v2,v3,exN,truE,trI,stv,Fs.nil,Fs.len]) rfl ⟨rfl,by rw [←HB.out];exact B2⟩
 | false =>
  have B1:=(((B0.setCell (p:=⟨w.heap.size,0,none⟩) (Nat.le_refl _) (.int .i64 2)).setCell (p:=⟨w.heap.size,1,none⟩) (Nat.le_refl _) (.int .i64 0)).setCell (p:=⟨w.heap.size,2,none⟩) (Nat.le_refl _) (.string ⟨#[]⟩)).setCell (p:=⟨w.heap.size,3,none⟩) (Nat.le_refl _) (.slice none 0 0)
  have E1:=set4k (b0:=.int .i64 2) (b1:=.int .i64 0) (b2:=.string ⟨#[]⟩) (b3:=.slice none 0 0) E0
  go_enter Tryz.func105,Tryz.ntmps105
  go_upto_region 1 with fail
  generalize w.alloc (.cells #[.int .i64 0,.int .i64 0,.string ⟨#[]⟩,.slice none 0 0] 34)=w0 at *
  obtain ⟨bx,hbx⟩:∃ bx,bx=w.heap.size:=⟨_,rfl⟩
  rw [←hbx] at E0 E1 B0 B1 ⊢
  have HB:Hid (bx=w.heap.size):=hbx
  clear hbx
  obtain ⟨p0,p1,p2,p3,pf⟩:=box4 E0
  have HU:Hid (∃ wz,wz=(((w0.setCell ⟨bx,0,none⟩ (.int .i64 2)).setCell ⟨bx,1,none⟩ (.int .i64 0)).setCell ⟨bx,2,none⟩ (.string ⟨#[]⟩)).setCell ⟨bx,3,none⟩ (.slice none 0 0)∧wz.heap[bx]?=some (.cells #[.int .i64 2,.int .i64 0,.string ⟨#[]⟩,.slice none 0 0] 34)∧Below bx w wz):=⟨_,rfl,E1,B1⟩
  clear B0 E0 B1 E1
  go_wp2
  obtain ⟨wz,hwz,E2,B2⟩:=HU.out
  rw [←hwz]
  obtain ⟨v0,v1,v2,v3,-⟩:=box4 E2
  refine bodyPost_ret (v:=exN (truE false) none 0) (by simp [results,Tryz.results105,go_sem,v0,v1,v2,v3,exN,truE,trI,stv,Fs.nil,Fs.len]) rfl ⟨rfl,by rw [←HB.out];exact B2⟩
theorem FcNC.split {w:World} {P:Nat→Prop}:∀ {x y:Fs} {zs:List Value},FcNC w P (x.app y) zs→∃ zx zy,zs=zx++zy∧FcNC w P x zx∧FcNC w P y zy
 | ⟨none⟩,y,zs,h=>⟨[],zs,rfl,rfl,h⟩
 | ⟨some ⟨k,n,nm,a,ks,r⟩⟩,y,zs,h=>by
  obtain ⟨ao,cap,ys,rfl,h1,h2⟩:=h
  obtain ⟨zx,zy,rfl,h3,h4⟩:=FcNC.split h2
  exact ⟨_,zy,rfl,⟨ao,cap,zx,rfl,h1,h3⟩,h4⟩
theorem SlcN.kidC {P:Nat→Prop} {w:World} {x r:Fs} {k n:Int} {nm:List UInt8} {a:Int} {ks:Fs} {ao:Option Addr} {cap:Nat} (h:SlcN w P (x.app (.cons k n nm a ks r)) ao cap) :
  ∃ b ak ck,ao=some ⟨b,0,none⟩∧b < w.heap.size∧w.cell? ⟨b,x.len * 4,none⟩=some (.int .i64 k)∧w.cell? ⟨b,x.len * 4+1,none⟩=some (.int .i64 n)∧w.cell? ⟨b,x.len * 4+2,none⟩=some (stv nm)∧w.cell? ⟨b,x.len * 4+3,none⟩=some (.slice ak ks.len ck)∧SlcN w P ks ak ck:=by
 rcases h with h | ⟨b,zs,cur,rfl,hp,hlt,h4,h5,h6,h7,hf⟩
 ·cases x using Fs.on with
  | nil=>cases h.1
  | cons k n nm a ks r=>cases h.1
 ·obtain ⟨zx,zy,rfl,h8,h9⟩:=FcNC.split hf
  have hl:=h8.len
  obtain ⟨ak,ck,ys,rfl,h10,h11⟩:=h9
  have hc':∀ j u,(.int .i64 k :: .int .i64 n :: stv nm :: .slice ak ks.len ck :: ys:List Value)[j]?=some u→w.cell? ⟨b,x.len * 4+j,none⟩=some u:=fun j u hu=>by
   rw [cell_of_row _ b _ _ _ (0,0) h5]
   exact h7 (x.len * 4+j) u (by rw [List.getElem?_append_right (by omega),hl,Nat.add_sub_cancel_left];exact hu)
  exact ⟨b,ak,ck,rfl,hlt,hc' 0 _ rfl,hc' 1 _ rfl,hc' 2 _ rfl,hc' 3 _ rfl,h10⟩
def PostRu (v w:World) (P:Nat→Prop) (y:Ex) (x:Ending) (w':World):Prop:=∃ ao cap,x=.returned (exN y ao cap)∧SlcN v P y.kids ao cap∧Below w.heap.size w w'
theorem SlcN.below {P:Nat→Prop} {w w':World} {f:Fs} {ao:Option Addr} {cap:Nat} (h:SlcN w P f ao cap) (b:Below w.heap.size w w'):SlcN w' P f ao cap:=h.mono (fun i _ hl=>b.block i hl) b.size (fun _ h _=>h)
def chE (e x y z:Ex):Ex:=if isE x 2 1 then y else if isE x 2 0 then z else e
set_option maxRecDepth 100000 in
set_option maxHeartbeats 1000000 in
theorem choice_c (e x y z:Ex) (ao:Option Addr) (cap:Nat) (P:Nat→Prop) (w:World) (hk:e.kids=.cons x.k x.n x.nm x.a x.kids (.cons y.k y.n y.nm y.a y.kids (.cons z.k z.n z.nm z.a z.kids .nil))) (S:SlcN w P e.kids ao cap) :
  Calls Tryz.prog 113 #[exN e ao cap] w (PostRu w w P (chE e x y z)):=by
 have hl:e.kids.len=3:=by rw [hk];rfl
 have HL:Hid (e.kids.len=3):=hl
 have S1:=S
 rw [hk] at S1
 obtain ⟨b,a0,c0,rfl,hb,x0,x1,x2,x3,SX⟩:=SlcN.kidC (x:=.nil) S1
 obtain ⟨b',a1,c1,hb1,-,y0,y1,y2,y3,SY⟩:=SlcN.kidC (x:=.cons x.k x.n x.nm x.a x.kids .nil) S1
 cases hb1
 obtain ⟨b',a2,c2,hb1,-,z0,z1,z2,z3,SZ⟩:=SlcN.kidC (x:=.cons x.k x.n x.nm x.a x.kids (.cons y.k y.n y.nm y.a y.kids .nil)) S1
 cases hb1
 simp only [Fs.len,Fs.nil,Fs.cons,Nat.zero_mul,Nat.zero_add,Nat.reduceMul,Nat.reduceAdd] at x0 x1 x2 x3 y0 y1 y2 y3 z0 z1 z2 z3
 obtain ⟨w0,hw0⟩:∃ w0,w0=(w.alloc (.cells #[.int .i64 e.k,.int .i64 e.n,stv e.nm,.slice (some ⟨b,0,none⟩) 3 cap] 34)).alloc (.cells #[.int .i64 0,.int .i64 0,.string ⟨#[]⟩,.slice none 0 0] 34):=⟨_,rfl⟩
 have B0:Below w.heap.size w w0:=by rw [hw0];exact ((Below.refl _ w).alloc (Nat.le_refl _) _).alloc (by simp) _
 have E0:w0.heap[w.heap.size]?=some (.cells #[.int .i64 e.k,.int .i64 e.n,stv e.nm,.slice (some ⟨b,0,none⟩) 3 cap] 34):=by rw [hw0];exact (Below.heap_alloc _ _ _ (by simp)).trans (heap_alloc_new w _)
 have Z0:w0.heap[w.heap.size+1]?=some (.cells #[.int .i64 0,.int .i64 0,.string ⟨#[]⟩,.slice none 0 0] 34):=by
  rw [hw0]
  have:=heap_alloc_new (w.alloc (.cells #[.int .i64 e.k,.int .i64 e.n,stv e.nm,.slice (some ⟨b,0,none⟩) 3 cap] 34)) (.cells #[.int .i64 0,.int .i64 0,.string ⟨#[]⟩,.slice none 0 0] 34)
  simpa using this
 rw [exN_out,hl]
 go_enter Tryz.func113,Tryz.ntmps113
 go_upto_region 1 with fail
 rw [←hw0]
 obtain ⟨bx,hbx⟩:∃ bx,bx=w.heap.size:=⟨_,rfl⟩
 rw [←hbx] at E0 Z0 B0 hb ⊢
 have HB:Hid (bx=w.heap.size):=hbx
 clear hbx hw0 S1 hk hl
 have x0:=(B0.cell (p:=⟨b,0,none⟩) hb).trans x0
 have x1:=(B0.cell (p:=⟨b,1,none⟩) hb).trans x1
 have x2:=(B0.cell (p:=⟨b,2,none⟩) hb).trans x2
 have x3:=(B0.cell (p:=⟨b,3,none⟩) hb).trans x3
 have y0:=(B0.cell (p:=⟨b,4,none⟩) hb).trans y0
 have y1:=(B0.cell (p:=⟨b,5,none⟩) hb).trans y1
 have y2:=(B0.cell (p:=⟨b,6,none⟩) hb).trans y2
 have y3:=(B0.cell (p:=⟨b,7,none⟩) hb).trans y3
 have z0:=(B0.cell (p:=⟨b,8,none⟩) hb).trans z0
 have z1:=(B0.cell (p:=⟨b,9,none⟩) hb).trans z1
 have z2:=(B0.cell (p:=⟨b,10,none⟩) hb).trans z2
 have z3:=(B0.cell (p:=⟨b,11,none⟩) hb).trans z3
 have hb0:b < w0.heap.size:=Nat.lt_trans hb (lt_of_block E0)
 obtain ⟨p0,p1,p2,p3,pf⟩:=box4 E0
 have hc1:=istru_c x a0 c0 1 w0
 rw [exN_out] at hc1
 go_wp2_with fail
 refine hc1.mono ?_
 rintro u w2 ⟨rfl,b2⟩
 have B2:Below bx w w2:=B0.trans (b2.mono (Nat.le_of_lt (lt_of_block E0)))
 have E2:=(b2.block bx (lt_of_block E0)).trans E0
 have Z2:=(b2.block (bx+1) (lt_of_block Z0)).trans Z0
 have x0:=(b2.cell (p:=⟨b,0,none⟩) hb0).trans x0
 have x1:=(b2.cell (p:=⟨b,1,none⟩) hb0).trans x1
 have x2:=(b2.cell (p:=⟨b,2,none⟩) hb0).trans x2
 have x3:=(b2.cell (p:=⟨b,3,none⟩) hb0).trans x3
 have y0:=(b2.cell (p:=⟨b,4,none⟩) hb0).trans y0
 have y1:=(b2.cell (p:=⟨b,5,none⟩) hb0).trans y1
 have y2:=(b2.cell (p:=⟨b,6,none⟩) hb0).trans y2
 have y3:=(b2.cell (p:=⟨b,7,none⟩) hb0).trans y3
 have z0:=(b2.cell (p:=⟨b,8,none⟩) hb0).trans z0
 have z1:=(b2.cell (p:=⟨b,9,none⟩) hb0).trans z1
 have z2:=(b2.cell (p:=⟨b,10,none⟩) hb0).trans z2
 have z3:=(b2.cell (p:=⟨b,11,none⟩) hb0).trans z3
 have hb2:b < w2.heap.size:=Nat.lt_of_lt_of_le hb0 b2.size
 clear B0 E0 Z0 hc1 b2 p0 p1 p2 p3 pf hb0
 cases h1:isE x 2 1 with
 | true =>
  have hans:chE e x y z=y:=by simp [chE,h1]
  have BS:=(((B2.setCell (p:=⟨bx+1,0,none⟩) (Nat.le_succ _) (.int .i64 y.k)).setCell (p:=⟨bx+1,1,none⟩) (Nat.le_succ _) (.int .i64 y.n)).setCell (p:=⟨bx+1,2,none⟩) (Nat.le_succ _) (stv y.nm)).setCell (p:=⟨bx+1,3,none⟩) (Nat.le_succ _) (.slice a1 y.kids.len c1)
  have ES:=set4k (b0:=(.int .i64 y.k)) (b1:=(.int .i64 y.n)) (b2:=(stv y.nm)) (b3:=(.slice a1 y.kids.len c1)) Z2
  have HU:Hid (∃ wz,wz=(((w2.setCell ⟨bx+1,0,none⟩ (.int .i64 y.k)).setCell ⟨bx+1,1,none⟩ (.int .i64 y.n)).setCell ⟨bx+1,2,none⟩ (stv y.nm)).setCell ⟨bx+1,3,none⟩ (.slice a1 y.kids.len c1)∧wz.heap[bx+1]?=some (.cells #[(.int .i64 y.k),(.int .i64 y.n),(stv y.nm),(.slice a1 y.kids.len c1)] 34)∧Below bx w wz):=⟨_,rfl,ES,BS⟩
  obtain ⟨q0,q1,q2,q3,qf⟩:=box4 Z2
  obtain ⟨p0,p1,p2,p3,pf⟩:=box4 E2
  clear BS ES Z2 E2
  go_wp2
  obtain ⟨wz,hwz,EZ,BZ⟩:=HU.out
  rw [←hwz]
  obtain ⟨v0,v1,v2,v3,-⟩:=box4 EZ
  rw [HB.out] at BZ
  exact bodyPost_ret (v:=exN y a1 c1) (by simp [results,Tryz.results113,go_sem,v0,v1,v2,v3,exN]) rfl ⟨a1,c1,by rw [hans],by rw [hans];exact SY,BZ⟩
 | false =>
  have hc2:=istru_c x a0 c0 0 w2
  rw [exN_out] at hc2
  obtain ⟨p0,p1,p2,p3,pf⟩:=box4 E2
  go_wp2_with fail
  refine hc2.mono ?_
  rintro u w3 ⟨rfl,b3⟩
  have B3:Below bx w w3:=B2.trans (b3.mono (Nat.le_of_lt (lt_of_block E2)))
  have lE:=lt_of_block E2
  have lZ:=lt_of_block Z2
  have E2:=(b3.block bx lE).trans E2
  have Z2:=(b3.block (bx+1) lZ).trans Z2
  have z0:=(b3.cell (p:=⟨b,8,none⟩) hb2).trans z0
  have z1:=(b3.cell (p:=⟨b,9,none⟩) hb2).trans z1
  have z2:=(b3.cell (p:=⟨b,10,none⟩) hb2).trans z2
  have z3:=(b3.cell (p:=⟨b,11,none⟩) hb2).trans z3
  clear hc2 b3 B2 p0 p1 p2 p3 pf x0 x1 x2 x3 y0 y1 y2 y3 lE lZ
  cases h2:isE x 2 0 with
  | true =>
   have hans:chE e x y z=z:=by simp [chE,h1,h2]
   have BS:=(((B3.setCell (p:=⟨bx+1,0,none⟩) (Nat.le_succ _) (.int .i64 z.k)).setCell (p:=⟨bx+1,1,none⟩) (Nat.le_succ _) (.int .i64 z.n)).setCell (p:=⟨bx+1,2,none⟩) (Nat.le_succ _) (stv z.nm)).setCell (p:=⟨bx+1,3,none⟩) (Nat.le_succ _) (.slice a2 z.kids.len c2)
   have ES:=set4k (b0:=(.int .i64 z.k)) (b1:=(.int .i64 z.n)) (b2:=(stv z.nm)) (b3:=(.slice a2 z.kids.len c2)) Z2
   have HU:Hid (∃ wz,wz=(((w3.setCell ⟨bx+1,0,none⟩ (.int .i64 z.k)).setCell ⟨bx+1,1,none⟩ (.int .i64 z.n)).setCell ⟨bx+1,2,none⟩ (stv z.nm)).setCell ⟨bx+1,3,none⟩ (.slice a2 z.kids.len c2)∧wz.heap[bx+1]?=some (.cells #[(.int .i64 z.k),(.int .i64 z.n),(stv z.nm),(.slice a2 z.kids.len c2)] 34)∧Below bx w wz):=⟨_,rfl,ES,BS⟩
   obtain ⟨q0,q1,q2,q3,qf⟩:=box4 Z2
   obtain ⟨p0,p1,p2,p3,pf⟩:=box4 E2
   clear BS ES Z2 E2
   go_wp2
   obtain ⟨wz,hwz,EZ,BZ⟩:=HU.out
   rw [←hwz]
   obtain ⟨v0,v1,v2,v3,-⟩:=box4 EZ
   rw [HB.out] at BZ
   exact bodyPost_ret (v:=exN z a2 c2) (by simp [results,Tryz.results113,go_sem,v0,v1,v2,v3,exN]) rfl ⟨a2,c2,by rw [hans],by rw [hans];exact SZ,BZ⟩
  | false =>
   have hans:chE e x y z=e:=by simp [chE,h1,h2]
   have BS:=(((B3.setCell (p:=⟨bx+1,0,none⟩) (Nat.le_succ _) (.int .i64 e.k)).setCell (p:=⟨bx+1,1,none⟩) (Nat.le_succ _) (.int .i64 e.n)).setCell (p:=⟨bx+1,2,none⟩) (Nat.le_succ _) (stv e.nm)).setCell (p:=⟨bx+1,3,none⟩) (Nat.le_succ _) (.slice (some ⟨b,0,none⟩) 3 cap)
   have ES:=set4k (b0:=(.int .i64 e.k)) (b1:=(.int .i64 e.n)) (b2:=(stv e.nm)) (b3:=(.slice (some ⟨b,0,none⟩) 3 cap)) Z2
   have HU:Hid (∃ wz,wz=(((w3.setCell ⟨bx+1,0,none⟩ (.int .i64 e.k)).setCell ⟨bx+1,1,none⟩ (.int .i64 e.n)).setCell ⟨bx+1,2,none⟩ (stv e.nm)).setCell ⟨bx+1,3,none⟩ (.slice (some ⟨b,0,none⟩) 3 cap)∧wz.heap[bx+1]?=some (.cells #[(.int .i64 e.k),(.int .i64 e.n),(stv e.nm),(.slice (some ⟨b,0,none⟩) 3 cap)] 34)∧Below bx w wz):=⟨_,rfl,ES,BS⟩
   obtain ⟨q0,q1,q2,q3,qf⟩:=box4 Z2
   obtain ⟨p0,p1,p2,p3,pf⟩:=box4 E2
   clear BS ES Z2 E2
   go_wp2
   obtain ⟨wz,hwz,EZ,BZ⟩:=HU.out
   rw [←hwz]
   obtain ⟨v0,v1,v2,v3,-⟩:=box4 EZ
   rw [HB.out] at BZ
   exact bodyPost_ret (v:=exN e (some ⟨b,0,none⟩) cap) (by simp [results,Tryz.results113,go_sem,v0,v1,v2,v3,exN,HL.out]) rfl ⟨(some ⟨b,0,none⟩),cap,by rw [hans],by rw [hans];exact S,BZ⟩
end Go.Proofs.YtaihhnlfcndecaaGreatDoor

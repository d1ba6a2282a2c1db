import Derived.Test.YtlojiclhoiddlaaDoorGdY
set_option maxRecDepth 100000
set_option maxHeartbeats 8000000
namespace Go.Proofs.YtlojiclhoiddlaaDoor
open Go.ChangeShapes Go.WideShapes Go.ChangeAt Go.RowKit
set_option linter.unusedVariables false
set_option linter.unusedSimpArgs false
theorem bd_test2 {b f:Int}(hb:0<b):(4611686018427387904:Int) / b<f ↔ 4611686018427387904<b*f:=by
 rw[Int.mul_comm];exact Int.ediv_lt_iff_lt_mul hb
theorem rnI_big {r:Int}(hr:¬r<0)(gr:4<r):rnI r=4:=by
 unfold rnI cntI;rw[if_neg hr];by_cases h:2147483648<r
 ·rw[if_pos h];rfl
 ·rw[if_neg h,if_pos gr]
theorem rb000 (x r v:Int)(w:World)(hx:x<0)(hr:r<0)(hv:v<0):Calls Tryd.prog 15 #[.int .i64 x,.int .i64 r,.int .i64 v] w fun e w'=>e=.returned (.int .i64 (bdA x r v))/\w'=w:=by
 have hN:rnI r=0:=by unfold rnI cntI;rw[if_pos hr];rfl
 have hX:cntI x=0:=by unfold cntI;rw[if_pos hx]
 have hV:1+cntI v=1:=by unfold cntI;rw[if_pos hv]<;>omega
 obtain⟨R,hR⟩:∃R,R=bdA x r v:=⟨_,rfl⟩
 rw[<-hR];unfold bdA at hR;rw[hX,hV,hN] at hR;have HR:=Lib.hid hR;clear hR hX hV hN;go_enter Tryd.func15,Tryd.ntmps15;go_wp2;go_loopw [7,9] (fun v7 v9 wr=>∃(k:Nat) (b:Int),v9=.int .i64 (k:Nat)/\k<=0/\v7=.int .i64 b/\0<=b/\b<=4611686018427387904/\Hid (bdL 1 (0-k) b=R)/\wr=w) (fun _ v _=>0-(intOf v).toNat)
 case atStart=>exact⟨0,0,by go_num,by omega,rfl,by omega,by omega,HR.out.symm,rfl⟩
 case round =>
  obtain⟨k,b,rfl,hk,rfl,hb0,hb1,HB,rfl⟩:=hrel;by_cases hlt:k<0
  ·have hkI:(k:Int)<0:=by omega
   obtain⟨j,hj⟩:∃j,0-k=j+1:=⟨0-k-1,by omega⟩
   have HB2:=HB.out;rw[hj,bdL] at HB2;have hP0:0<=b*1:=Int.mul_nonneg hb0 (by omega);by_cases hpos:0<b
   ·obtain⟨Q,hQ⟩:∃Q,(4611686018427387904:Int) / b=Q:=⟨_,rfl⟩
    have hQ2:(4611686018427387904:Int).tdiv b=Q:=by rw[Int.tdiv_eq_ediv_of_nonneg (by omega)];exact hQ
    have htest:=bd_test2 (f:=1) hpos;rw[hQ] at htest;have hQ0:0<=Q/\Q<=4611686018427387904:=by
     rw[<-hQ];exact⟨Int.ediv_nonneg (by omega) (by omega),Int.ediv_le_self _ (by omega)⟩
    obtain⟨hQ00,hQ01⟩:=hQ0;have hb00:¬b=0:=by omega
    obtain⟨P,hP⟩:∃P,b*1=P:=⟨_,rfl⟩
    rw[hP] at HB2 htest hP0;by_cases ht:4611686018427387904<P
    ·rw[if_pos ht] at HB2;have htI:Q<1:=htest.2 ht;have HY:=Lib.hid HB2;clear htest HB HB2 hj ht hP hQ;go_wp2;go_ret;exact⟨by rw[<-HY.out];rfl,rfl⟩
    ·rw[if_neg ht] at HB2;have htI:¬Q<1:=fun h=>ht (htest.1 h);have HY:Hid (bdL 1 (0-(k+1)) P=R):=by
      show _=_;rw[show 0-(k+1)=j by omega];exact HB2
     have hP1:P<=4611686018427387904:=by omega
     clear htest HB HB2 hj ht hQ;go_wp2;go_roundw
     case rel=>(try ((repeat apply Exists.intro);refine⟨?_,rfl⟩));exact⟨k+1,P,by go_num,by omega,by first|rfl|simp,hP0,hP1,HY,by trivial⟩
     case measure=>simp[intOf];omega
   ·obtain rfl:b=0:=by omega
    rw[if_neg (by simp),Int.zero_mul] at HB2;have HY:Hid (bdL 1 (0-(k+1)) 0=R):=by
     show _=_;rw[show 0-(k+1)=j by omega];exact HB2
    clear HB HB2 hj hP0;go_wp2;go_roundw
    case rel=>(try ((repeat apply Exists.intro);refine⟨?_,rfl⟩));exact⟨k+1,0,by go_num,by omega,by first|rfl|simp,by omega,by omega,HY,by trivial⟩
    case measure=>simp[intOf];omega
  ·have hkI:¬(k:Int)<0:=by omega
   have hz:0-k=0:=by omega
   have HB2:=HB.out;rw[hz,bdL] at HB2;have HY:=Lib.hid HB2;clear HB HB2 hz;go_wp2
   all_goals go_ret
   all_goals exact⟨by rw[<-HY.out];first|rfl|(congr 2;omega),rfl⟩
theorem rb010 (x r v:Int)(w:World)(hx:x<0)(hr:¬r<0)(gr:4<r)(hv:v<0):Calls Tryd.prog 15 #[.int .i64 x,.int .i64 r,.int .i64 v] w fun e w'=>e=.returned (.int .i64 (bdA x r v))/\w'=w:=by
 have hN:rnI r=4:=rnI_big hr gr;have hX:cntI x=0:=by unfold cntI;rw[if_pos hx]
 have hV:1+cntI v=1:=by unfold cntI;rw[if_pos hv]<;>omega
 obtain⟨R,hR⟩:∃R,R=bdA x r v:=⟨_,rfl⟩
 rw[<-hR];unfold bdA at hR;rw[hX,hV,hN] at hR;have HR:=Lib.hid hR;clear hR hX hV hN;go_enter Tryd.func15,Tryd.ntmps15;go_wp2;go_loopw [7,9] (fun v7 v9 wr=>∃(k:Nat) (b:Int),v9=.int .i64 (k:Nat)/\k<=4/\v7=.int .i64 b/\0<=b/\b<=4611686018427387904/\Hid (bdL 1 (4-k) b=R)/\wr=w) (fun _ v _=>4-(intOf v).toNat)
 case atStart=>exact⟨0,0,by go_num,by omega,rfl,by omega,by omega,HR.out.symm,rfl⟩
 case round =>
  obtain⟨k,b,rfl,hk,rfl,hb0,hb1,HB,rfl⟩:=hrel;by_cases hlt:k<4
  ·have hkI:(k:Int)<4:=by omega
   obtain⟨j,hj⟩:∃j,4-k=j+1:=⟨4-k-1,by omega⟩
   have HB2:=HB.out;rw[hj,bdL] at HB2;have hP0:0<=b*1:=Int.mul_nonneg hb0 (by omega);by_cases hpos:0<b
   ·obtain⟨Q,hQ⟩:∃Q,(4611686018427387904:Int) / b=Q:=⟨_,rfl⟩
    have hQ2:(4611686018427387904:Int).tdiv b=Q:=by rw[Int.tdiv_eq_ediv_of_nonneg (by omega)];exact hQ
    have htest:=bd_test2 (f:=1) hpos;rw[hQ] at htest;have hQ0:0<=Q/\Q<=4611686018427387904:=by
     rw[<-hQ];exact⟨Int.ediv_nonneg (by omega) (by omega),Int.ediv_le_self _ (by omega)⟩
    obtain⟨hQ00,hQ01⟩:=hQ0;have hb00:¬b=0:=by omega
    obtain⟨P,hP⟩:∃P,b*1=P:=⟨_,rfl⟩
    rw[hP] at HB2 htest hP0;by_cases ht:4611686018427387904<P
    ·rw[if_pos ht] at HB2;have htI:Q<1:=htest.2 ht;have HY:=Lib.hid HB2;clear htest HB HB2 hj ht hP hQ;go_wp2;go_ret;exact⟨by rw[<-HY.out];rfl,rfl⟩
    ·rw[if_neg ht] at HB2;have htI:¬Q<1:=fun h=>ht (htest.1 h);have HY:Hid (bdL 1 (4-(k+1)) P=R):=by
      show _=_;rw[show 4-(k+1)=j by omega];exact HB2
     have hP1:P<=4611686018427387904:=by omega
     clear htest HB HB2 hj ht hQ;go_wp2;go_roundw
     case rel=>(try ((repeat apply Exists.intro);refine⟨?_,rfl⟩));exact⟨k+1,P,by go_num,by omega,by first|rfl|simp,hP0,hP1,HY,by trivial⟩
     case measure=>simp[intOf];omega
   ·obtain rfl:b=0:=by omega
    rw[if_neg (by simp),Int.zero_mul] at HB2;have HY:Hid (bdL 1 (4-(k+1)) 0=R):=by
     show _=_;rw[show 4-(k+1)=j by omega];exact HB2
    clear HB HB2 hj hP0;go_wp2;go_roundw
    case rel=>(try ((repeat apply Exists.intro);refine⟨?_,rfl⟩));exact⟨k+1,0,by go_num,by omega,by first|rfl|simp,by omega,by omega,HY,by trivial⟩
    case measure=>simp[intOf];omega
  ·have hkI:¬(k:Int)<4:=by omega
   have hz:4-k=0:=by omega
   have HB2:=HB.out;rw[hz,bdL] at HB2;have HY:=Lib.hid HB2;clear HB HB2 hz;go_wp2
   all_goals go_ret
   all_goals exact⟨by rw[<-HY.out];first|rfl|(congr 2;omega),rfl⟩
theorem rb020 (x r v:Int)(w:World)(hx:x<0)(hr:¬r<0)(gr:¬4<r)(hv:v<0):Calls Tryd.prog 15 #[.int .i64 x,.int .i64 r,.int .i64 v] w fun e w'=>e=.returned (.int .i64 (bdA x r v))/\w'=w:=by
 obtain⟨n,rfl⟩:∃n:Nat,r=n:=⟨r.toNat,by omega⟩
 have hN:rnI (n:Int)=n:=by unfold rnI cntI;rw[if_neg hr,if_neg (by omega:¬(2147483648:Int)<n),if_neg gr];rfl
 have hX:cntI x=0:=by unfold cntI;rw[if_pos hx]
 have hV:1+cntI v=1:=by unfold cntI;rw[if_pos hv]<;>omega
 obtain⟨R,hR⟩:∃R,R=bdA x n v:=⟨_,rfl⟩
 rw[<-hR];unfold bdA at hR;rw[hX,hV,hN] at hR;have HR:=Lib.hid hR;clear hR hX hV hN;go_enter Tryd.func15,Tryd.ntmps15;go_wp2;go_loopw [7,9] (fun v7 v9 wr=>∃(k:Nat) (b:Int),v9=.int .i64 (k:Nat)/\k<=n/\v7=.int .i64 b/\0<=b/\b<=4611686018427387904/\Hid (bdL 1 (n-k) b=R)/\wr=w) (fun _ v _=>n-(intOf v).toNat)
 case atStart=>exact⟨0,0,by go_num,by omega,rfl,by omega,by omega,HR.out.symm,rfl⟩
 case round =>
  obtain⟨k,b,rfl,hk,rfl,hb0,hb1,HB,rfl⟩:=hrel;by_cases hlt:k<n
  ·have hkI:(k:Int)<n:=by omega
   obtain⟨j,hj⟩:∃j,n-k=j+1:=⟨n-k-1,by omega⟩
   have HB2:=HB.out;rw[hj,bdL] at HB2;have hP0:0<=b*1:=Int.mul_nonneg hb0 (by omega);by_cases hpos:0<b
   ·obtain⟨Q,hQ⟩:∃Q,(4611686018427387904:Int) / b=Q:=⟨_,rfl⟩
    have hQ2:(4611686018427387904:Int).tdiv b=Q:=by rw[Int.tdiv_eq_ediv_of_nonneg (by omega)];exact hQ
    have htest:=bd_test2 (f:=1) hpos;rw[hQ] at htest;have hQ0:0<=Q/\Q<=4611686018427387904:=by
     rw[<-hQ];exact⟨Int.ediv_nonneg (by omega) (by omega),Int.ediv_le_self _ (by omega)⟩
    obtain⟨hQ00,hQ01⟩:=hQ0;have hb00:¬b=0:=by omega
    obtain⟨P,hP⟩:∃P,b*1=P:=⟨_,rfl⟩
    rw[hP] at HB2 htest hP0;by_cases ht:4611686018427387904<P
    ·rw[if_pos ht] at HB2;have htI:Q<1:=htest.2 ht;have HY:=Lib.hid HB2;clear htest HB HB2 hj ht hP hQ;go_wp2;go_ret;exact⟨by rw[<-HY.out];rfl,rfl⟩
    ·rw[if_neg ht] at HB2;have htI:¬Q<1:=fun h=>ht (htest.1 h);have HY:Hid (bdL 1 (n-(k+1)) P=R):=by
      show _=_;rw[show n-(k+1)=j by omega];exact HB2
     have hP1:P<=4611686018427387904:=by omega
     clear htest HB HB2 hj ht hQ;go_wp2;go_roundw
     case rel=>(try ((repeat apply Exists.intro);refine⟨?_,rfl⟩));exact⟨k+1,P,by go_num,by omega,by first|rfl|simp,hP0,hP1,HY,by trivial⟩
     case measure=>simp[intOf];omega
   ·obtain rfl:b=0:=by omega
    rw[if_neg (by simp),Int.zero_mul] at HB2;have HY:Hid (bdL 1 (n-(k+1)) 0=R):=by
     show _=_;rw[show n-(k+1)=j by omega];exact HB2
    clear HB HB2 hj hP0;go_wp2;go_roundw
    case rel=>(try ((repeat apply Exists.intro);refine⟨?_,rfl⟩));exact⟨k+1,0,by go_num,by omega,by first|rfl|simp,by omega,by omega,HY,by trivial⟩
    case measure=>simp[intOf];omega
  ·have hkI:¬(k:Int)<n:=by omega
   have hz:n-k=0:=by omega
   have HB2:=HB.out;rw[hz,bdL] at HB2;have HY:=Lib.hid HB2;clear HB HB2 hz;go_wp2
   all_goals go_ret
   all_goals exact⟨by rw[<-HY.out];first|rfl|(congr 2;omega),rfl⟩
theorem rb001 (x r v:Int)(w:World)(hx:x<0)(hr:r<0)(hv:¬v<0)(gv:2147483648<v):Calls Tryd.prog 15 #[.int .i64 x,.int .i64 r,.int .i64 v] w fun e w'=>e=.returned (.int .i64 (bdA x r v))/\w'=w:=by
 have hN:rnI r=0:=by unfold rnI cntI;rw[if_pos hr];rfl
 have hX:cntI x=0:=by unfold cntI;rw[if_pos hx]
 have hV:1+cntI v=2147483649:=by unfold cntI;rw[if_neg hv,if_pos gv]<;>omega
 obtain⟨R,hR⟩:∃R,R=bdA x r v:=⟨_,rfl⟩
 rw[<-hR];unfold bdA at hR;rw[hX,hV,hN] at hR;have HR:=Lib.hid hR;clear hR hX hV hN;go_enter Tryd.func15,Tryd.ntmps15;go_wp2;go_loopw [7,9] (fun v7 v9 wr=>∃(k:Nat) (b:Int),v9=.int .i64 (k:Nat)/\k<=0/\v7=.int .i64 b/\0<=b/\b<=4611686018427387904/\Hid (bdL 2147483649 (0-k) b=R)/\wr=w) (fun _ v _=>0-(intOf v).toNat)
 case atStart=>exact⟨0,0,by go_num,by omega,rfl,by omega,by omega,HR.out.symm,rfl⟩
 case round =>
  obtain⟨k,b,rfl,hk,rfl,hb0,hb1,HB,rfl⟩:=hrel;by_cases hlt:k<0
  ·have hkI:(k:Int)<0:=by omega
   obtain⟨j,hj⟩:∃j,0-k=j+1:=⟨0-k-1,by omega⟩
   have HB2:=HB.out;rw[hj,bdL] at HB2;have hP0:0<=b*2147483649:=Int.mul_nonneg hb0 (by omega);by_cases hpos:0<b
   ·obtain⟨Q,hQ⟩:∃Q,(4611686018427387904:Int) / b=Q:=⟨_,rfl⟩
    have hQ2:(4611686018427387904:Int).tdiv b=Q:=by rw[Int.tdiv_eq_ediv_of_nonneg (by omega)];exact hQ
    have htest:=bd_test2 (f:=2147483649) hpos;rw[hQ] at htest;have hQ0:0<=Q/\Q<=4611686018427387904:=by
     rw[<-hQ];exact⟨Int.ediv_nonneg (by omega) (by omega),Int.ediv_le_self _ (by omega)⟩
    obtain⟨hQ00,hQ01⟩:=hQ0;have hb00:¬b=0:=by omega
    obtain⟨P,hP⟩:∃P,b*2147483649=P:=⟨_,rfl⟩
    rw[hP] at HB2 htest hP0;by_cases ht:4611686018427387904<P
    ·rw[if_pos ht] at HB2;have htI:Q<2147483649:=htest.2 ht;have HY:=Lib.hid HB2;clear htest HB HB2 hj ht hP hQ;go_wp2;go_ret;exact⟨by rw[<-HY.out];rfl,rfl⟩
    ·rw[if_neg ht] at HB2;have htI:¬Q<2147483649:=fun h=>ht (htest.1 h);have HY:Hid (bdL 2147483649 (0-(k+1)) P=R):=by
      show _=_;rw[show 0-(k+1)=j by omega];exact HB2
     have hP1:P<=4611686018427387904:=by omega
     clear htest HB HB2 hj ht hQ;go_wp2;go_roundw
     case rel=>(try ((repeat apply Exists.intro);refine⟨?_,rfl⟩));exact⟨k+1,P,by go_num,by omega,by first|rfl|simp,hP0,hP1,HY,by trivial⟩
     case measure=>simp[intOf];omega
   ·obtain rfl:b=0:=by omega
    rw[if_neg (by simp),Int.zero_mul] at HB2;have HY:Hid (bdL 2147483649 (0-(k+1)) 0=R):=by
     show _=_;rw[show 0-(k+1)=j by omega];exact HB2
    clear HB HB2 hj hP0;go_wp2;go_roundw
    case rel=>(try ((repeat apply Exists.intro);refine⟨?_,rfl⟩));exact⟨k+1,0,by go_num,by omega,by first|rfl|simp,by omega,by omega,HY,by trivial⟩
    case measure=>simp[intOf];omega
  ·have hkI:¬(k:Int)<0:=by omega
   have hz:0-k=0:=by omega
   have HB2:=HB.out;rw[hz,bdL] at HB2;have HY:=Lib.hid HB2;clear HB HB2 hz;go_wp2
   all_goals go_ret
   all_goals exact⟨by rw[<-HY.out];first|rfl|(congr 2;omega),rfl⟩
theorem rb011 (x r v:Int)(w:World)(hx:x<0)(hr:¬r<0)(gr:4<r)(hv:¬v<0)(gv:2147483648<v):Calls Tryd.prog 15 #[.int .i64 x,.int .i64 r,.int .i64 v] w fun e w'=>e=.returned (.int .i64 (bdA x r v))/\w'=w:=by
 have hN:rnI r=4:=rnI_big hr gr;have hX:cntI x=0:=by unfold cntI;rw[if_pos hx]
 have hV:1+cntI v=2147483649:=by unfold cntI;rw[if_neg hv,if_pos gv]<;>omega
 obtain⟨R,hR⟩:∃R,R=bdA x r v:=⟨_,rfl⟩
 rw[<-hR];unfold bdA at hR;rw[hX,hV,hN] at hR;have HR:=Lib.hid hR;clear hR hX hV hN;go_enter Tryd.func15,Tryd.ntmps15;go_wp2;go_loopw [7,9] (fun v7 v9 wr=>∃(k:Nat) (b:Int),v9=.int .i64 (k:Nat)/\k<=4/\v7=.int .i64 b/\0<=b/\b<=4611686018427387904/\Hid (bdL 2147483649 (4-k) b=R)/\wr=w) (fun _ v _=>4-(intOf v).toNat)
 case atStart=>exact⟨0,0,by go_num,by omega,rfl,by omega,by omega,HR.out.symm,rfl⟩
 case round =>
  obtain⟨k,b,rfl,hk,rfl,hb0,hb1,HB,rfl⟩:=hrel;by_cases hlt:k<4
  ·have hkI:(k:Int)<4:=by omega
   obtain⟨j,hj⟩:∃j,4-k=j+1:=⟨4-k-1,by omega⟩
   have HB2:=HB.out;rw[hj,bdL] at HB2;have hP0:0<=b*2147483649:=Int.mul_nonneg hb0 (by omega);by_cases hpos:0<b
   ·obtain⟨Q,hQ⟩:∃Q,(4611686018427387904:Int) / b=Q:=⟨_,rfl⟩
    have hQ2:(4611686018427387904:Int).tdiv b=Q:=by rw[Int.tdiv_eq_ediv_of_nonneg (by omega)];exact hQ
    have htest:=bd_test2 (f:=2147483649) hpos;rw[hQ] at htest;have hQ0:0<=Q/\Q<=4611686018427387904:=by
     rw[<-hQ];exact⟨Int.ediv_nonneg (by omega) (by omega),Int.ediv_le_self _ (by omega)⟩
    obtain⟨hQ00,hQ01⟩:=hQ0;have hb00:¬b=0:=by omega
    obtain⟨P,hP⟩:∃P,b*2147483649=P:=⟨_,rfl⟩
    rw[hP] at HB2 htest hP0;by_cases ht:4611686018427387904<P
    ·rw[if_pos ht] at HB2;have htI:Q<2147483649:=htest.2 ht;have HY:=Lib.hid HB2;clear htest HB HB2 hj ht hP hQ;go_wp2;go_ret;exact⟨by rw[<-HY.out];rfl,rfl⟩
    ·rw[if_neg ht] at HB2;have htI:¬Q<2147483649:=fun h=>ht (htest.1 h);have HY:Hid (bdL 2147483649 (4-(k+1)) P=R):=by
      show _=_;rw[show 4-(k+1)=j by omega];exact HB2
     have hP1:P<=4611686018427387904:=by omega
     clear htest HB HB2 hj ht hQ;go_wp2;go_roundw
     case rel=>(try ((repeat apply Exists.intro);refine⟨?_,rfl⟩));exact⟨k+1,P,by go_num,by omega,by first|rfl|simp,hP0,hP1,HY,by trivial⟩
     case measure=>simp[intOf];omega
   ·obtain rfl:b=0:=by omega
    rw[if_neg (by simp),Int.zero_mul] at HB2;have HY:Hid (bdL 2147483649 (4-(k+1)) 0=R):=by
     show _=_;rw[show 4-(k+1)=j by omega];exact HB2
    clear HB HB2 hj hP0;go_wp2;go_roundw
    case rel=>(try ((repeat apply Exists.intro);refine⟨?_,rfl⟩));exact⟨k+1,0,by go_num,by omega,by first|rfl|simp,by omega,by omega,HY,by trivial⟩
    case measure=>simp[intOf];omega
  ·have hkI:¬(k:Int)<4:=by omega
   have hz:4-k=0:=by omega
   have HB2:=HB.out;rw[hz,bdL] at HB2;have HY:=Lib.hid HB2;clear HB HB2 hz;go_wp2
   all_goals go_ret
   all_goals exact⟨by rw[<-HY.out];first|rfl|(congr 2;omega),rfl⟩
theorem rb021 (x r v:Int)(w:World)(hx:x<0)(hr:¬r<0)(gr:¬4<r)(hv:¬v<0)(gv:2147483648<v):Calls Tryd.prog 15 #[.int .i64 x,.int .i64 r,.int .i64 v] w fun e w'=>e=.returned (.int .i64 (bdA x r v))/\w'=w:=by
 obtain⟨n,rfl⟩:∃n:Nat,r=n:=⟨r.toNat,by omega⟩
 have hN:rnI (n:Int)=n:=by unfold rnI cntI;rw[if_neg hr,if_neg (by omega:¬(2147483648:Int)<n),if_neg gr];rfl
 have hX:cntI x=0:=by unfold cntI;rw[if_pos hx]
 have hV:1+cntI v=2147483649:=by unfold cntI;rw[if_neg hv,if_pos gv]<;>omega
 obtain⟨R,hR⟩:∃R,R=bdA x n v:=⟨_,rfl⟩
 rw[<-hR];unfold bdA at hR;rw[hX,hV,hN] at hR;have HR:=Lib.hid hR;clear hR hX hV hN;go_enter Tryd.func15,Tryd.ntmps15;go_wp2;go_loopw [7,9] (fun v7 v9 wr=>∃(k:Nat) (b:Int),v9=.int .i64 (k:Nat)/\k<=n/\v7=.int .i64 b/\0<=b/\b<=4611686018427387904/\Hid (bdL 2147483649 (n-k) b=R)/\wr=w) (fun _ v _=>n-(intOf v).toNat)
 case atStart=>exact⟨0,0,by go_num,by omega,rfl,by omega,by omega,HR.out.symm,rfl⟩
 case round =>
  obtain⟨k,b,rfl,hk,rfl,hb0,hb1,HB,rfl⟩:=hrel;by_cases hlt:k<n
  ·have hkI:(k:Int)<n:=by omega
   obtain⟨j,hj⟩:∃j,n-k=j+1:=⟨n-k-1,by omega⟩
   have HB2:=HB.out;rw[hj,bdL] at HB2;have hP0:0<=b*2147483649:=Int.mul_nonneg hb0 (by omega);by_cases hpos:0<b
   ·obtain⟨Q,hQ⟩:∃Q,(4611686018427387904:Int) / b=Q:=⟨_,rfl⟩
    have hQ2:(4611686018427387904:Int).tdiv b=Q:=by rw[Int.tdiv_eq_ediv_of_nonneg (by omega)];exact hQ
    have htest:=bd_test2 (f:=2147483649) hpos;rw[hQ] at htest;have hQ0:0<=Q/\Q<=4611686018427387904:=by
     rw[<-hQ];exact⟨Int.ediv_nonneg (by omega) (by omega),Int.ediv_le_self _ (by omega)⟩
    obtain⟨hQ00,hQ01⟩:=hQ0;have hb00:¬b=0:=by omega
    obtain⟨P,hP⟩:∃P,b*2147483649=P:=⟨_,rfl⟩
    rw[hP] at HB2 htest hP0;by_cases ht:4611686018427387904<P
    ·rw[if_pos ht] at HB2;have htI:Q<2147483649:=htest.2 ht;have HY:=Lib.hid HB2;clear htest HB HB2 hj ht hP hQ;go_wp2;go_ret;exact⟨by rw[<-HY.out];rfl,rfl⟩
    ·rw[if_neg ht] at HB2;have htI:¬Q<2147483649:=fun h=>ht (htest.1 h);have HY:Hid (bdL 2147483649 (n-(k+1)) P=R):=by
      show _=_;rw[show n-(k+1)=j by omega];exact HB2
     have hP1:P<=4611686018427387904:=by omega
     clear htest HB HB2 hj ht hQ;go_wp2;go_roundw
     case rel=>(try ((repeat apply Exists.intro);refine⟨?_,rfl⟩));exact⟨k+1,P,by go_num,by omega,by first|rfl|simp,hP0,hP1,HY,by trivial⟩
     case measure=>simp[intOf];omega
   ·obtain rfl:b=0:=by omega
    rw[if_neg (by simp),Int.zero_mul] at HB2;have HY:Hid (bdL 2147483649 (n-(k+1)) 0=R):=by
     show _=_;rw[show n-(k+1)=j by omega];exact HB2
    clear HB HB2 hj hP0;go_wp2;go_roundw
    case rel=>(try ((repeat apply Exists.intro);refine⟨?_,rfl⟩));exact⟨k+1,0,by go_num,by omega,by first|rfl|simp,by omega,by omega,HY,by trivial⟩
    case measure=>simp[intOf];omega
  ·have hkI:¬(k:Int)<n:=by omega
   have hz:n-k=0:=by omega
   have HB2:=HB.out;rw[hz,bdL] at HB2;have HY:=Lib.hid HB2;clear HB HB2 hz;go_wp2
   all_goals go_ret
   all_goals exact⟨by rw[<-HY.out];first|rfl|(congr 2;omega),rfl⟩
theorem rb002 (x r v:Int)(w:World)(hx:x<0)(hr:r<0)(hv:¬v<0)(gv:¬2147483648<v):Calls Tryd.prog 15 #[.int .i64 x,.int .i64 r,.int .i64 v] w fun e w'=>e=.returned (.int .i64 (bdA x r v))/\w'=w:=by
 have hN:rnI r=0:=by unfold rnI cntI;rw[if_pos hr];rfl
 have hX:cntI x=0:=by unfold cntI;rw[if_pos hx]
 have hV:1+cntI v=(v+1):=by unfold cntI;rw[if_neg hv,if_neg gv]<;>omega
 obtain⟨R,hR⟩:∃R,R=bdA x r v:=⟨_,rfl⟩
 rw[<-hR];unfold bdA at hR;rw[hX,hV,hN] at hR;have HR:=Lib.hid hR;clear hR hX hV hN;go_enter Tryd.func15,Tryd.ntmps15;go_wp2;go_loopw [7,9] (fun v7 v9 wr=>∃(k:Nat) (b:Int),v9=.int .i64 (k:Nat)/\k<=0/\v7=.int .i64 b/\0<=b/\b<=4611686018427387904/\Hid (bdL (v+1) (0-k) b=R)/\wr=w) (fun _ v _=>0-(intOf v).toNat)
 case atStart=>exact⟨0,0,by go_num,by omega,rfl,by omega,by omega,HR.out.symm,rfl⟩
 case round =>
  obtain⟨k,b,rfl,hk,rfl,hb0,hb1,HB,rfl⟩:=hrel;by_cases hlt:k<0
  ·have hkI:(k:Int)<0:=by omega
   obtain⟨j,hj⟩:∃j,0-k=j+1:=⟨0-k-1,by omega⟩
   have HB2:=HB.out;rw[hj,bdL] at HB2;have hP0:0<=b*(v+1):=Int.mul_nonneg hb0 (by omega);by_cases hpos:0<b
   ·obtain⟨Q,hQ⟩:∃Q,(4611686018427387904:Int) / b=Q:=⟨_,rfl⟩
    have hQ2:(4611686018427387904:Int).tdiv b=Q:=by rw[Int.tdiv_eq_ediv_of_nonneg (by omega)];exact hQ
    have htest:=bd_test2 (f:=(v+1)) hpos;rw[hQ] at htest;have hQ0:0<=Q/\Q<=4611686018427387904:=by
     rw[<-hQ];exact⟨Int.ediv_nonneg (by omega) (by omega),Int.ediv_le_self _ (by omega)⟩
    obtain⟨hQ00,hQ01⟩:=hQ0;have hb00:¬b=0:=by omega
    obtain⟨P,hP⟩:∃P,b*(v+1)=P:=⟨_,rfl⟩
    rw[hP] at HB2 htest hP0;by_cases ht:4611686018427387904<P
    ·rw[if_pos ht] at HB2;have htI:Q<(v+1):=htest.2 ht;have HY:=Lib.hid HB2;clear htest HB HB2 hj ht hP hQ;go_wp2;go_ret;exact⟨by rw[<-HY.out];rfl,rfl⟩
    ·rw[if_neg ht] at HB2;have htI:¬Q<(v+1):=fun h=>ht (htest.1 h);have HY:Hid (bdL (v+1) (0-(k+1)) P=R):=by
      show _=_;rw[show 0-(k+1)=j by omega];exact HB2
     have hP1:P<=4611686018427387904:=by omega
     clear htest HB HB2 hj ht hQ;go_wp2;go_roundw
     case rel=>(try ((repeat apply Exists.intro);refine⟨?_,rfl⟩));exact⟨k+1,P,by go_num,by omega,by first|rfl|simp,hP0,hP1,HY,by trivial⟩
     case measure=>simp[intOf];omega
   ·obtain rfl:b=0:=by omega
    rw[if_neg (by simp),Int.zero_mul] at HB2;have HY:Hid (bdL (v+1) (0-(k+1)) 0=R):=by
     show _=_;rw[show 0-(k+1)=j by omega];exact HB2
    clear HB HB2 hj hP0;go_wp2;go_roundw
    case rel=>(try ((repeat apply Exists.intro);refine⟨?_,rfl⟩));exact⟨k+1,0,by go_num,by omega,by first|rfl|simp,by omega,by omega,HY,by trivial⟩
    case measure=>simp[intOf];omega
  ·have hkI:¬(k:Int)<0:=by omega
   have hz:0-k=0:=by omega
   have HB2:=HB.out;rw[hz,bdL] at HB2;have HY:=Lib.hid HB2;clear HB HB2 hz;go_wp2
   all_goals go_ret
   all_goals exact⟨by rw[<-HY.out];first|rfl|(congr 2;omega),rfl⟩
theorem rb012 (x r v:Int)(w:World)(hx:x<0)(hr:¬r<0)(gr:4<r)(hv:¬v<0)(gv:¬2147483648<v):Calls Tryd.prog 15 #[.int .i64 x,.int .i64 r,.int .i64 v] w fun e w'=>e=.returned (.int .i64 (bdA x r v))/\w'=w:=by
 have hN:rnI r=4:=rnI_big hr gr;have hX:cntI x=0:=by unfold cntI;rw[if_pos hx]
 have hV:1+cntI v=(v+1):=by unfold cntI;rw[if_neg hv,if_neg gv]<;>omega
 obtain⟨R,hR⟩:∃R,R=bdA x r v:=⟨_,rfl⟩
 rw[<-hR];unfold bdA at hR;rw[hX,hV,hN] at hR;have HR:=Lib.hid hR;clear hR hX hV hN;go_enter Tryd.func15,Tryd.ntmps15;go_wp2;go_loopw [7,9] (fun v7 v9 wr=>∃(k:Nat) (b:Int),v9=.int .i64 (k:Nat)/\k<=4/\v7=.int .i64 b/\0<=b/\b<=4611686018427387904/\Hid (bdL (v+1) (4-k) b=R)/\wr=w) (fun _ v _=>4-(intOf v).toNat)
 case atStart=>exact⟨0,0,by go_num,by omega,rfl,by omega,by omega,HR.out.symm,rfl⟩
 case round =>
  obtain⟨k,b,rfl,hk,rfl,hb0,hb1,HB,rfl⟩:=hrel;by_cases hlt:k<4
  ·have hkI:(k:Int)<4:=by omega
   obtain⟨j,hj⟩:∃j,4-k=j+1:=⟨4-k-1,by omega⟩
   have HB2:=HB.out;rw[hj,bdL] at HB2;have hP0:0<=b*(v+1):=Int.mul_nonneg hb0 (by omega);by_cases hpos:0<b
   ·obtain⟨Q,hQ⟩:∃Q,(4611686018427387904:Int) / b=Q:=⟨_,rfl⟩
    have hQ2:(4611686018427387904:Int).tdiv b=Q:=by rw[Int.tdiv_eq_ediv_of_nonneg (by omega)];exact hQ
    have htest:=bd_test2 (f:=(v+1)) hpos;rw[hQ] at htest;have hQ0:0<=Q/\Q<=4611686018427387904:=by
     rw[<-hQ];exact⟨Int.ediv_nonneg (by omega) (by omega),Int.ediv_le_self _ (by omega)⟩
    obtain⟨hQ00,hQ01⟩:=hQ0;have hb00:¬b=0:=by omega
    obtain⟨P,hP⟩:∃P,b*(v+1)=P:=⟨_,rfl⟩
    rw[hP] at HB2 htest hP0;by_cases ht:4611686018427387904<P
    ·rw[if_pos ht] at HB2;have htI:Q<(v+1):=htest.2 ht;have HY:=Lib.hid HB2;clear htest HB HB2 hj ht hP hQ;go_wp2;go_ret;exact⟨by rw[<-HY.out];rfl,rfl⟩
    ·rw[if_neg ht] at HB2;have htI:¬Q<(v+1):=fun h=>ht (htest.1 h);have HY:Hid (bdL (v+1) (4-(k+1)) P=R):=by
      show _=_;rw[show 4-(k+1)=j by omega];exact HB2
     have hP1:P<=4611686018427387904:=by omega
     clear htest HB HB2 hj ht hQ;go_wp2;go_roundw
     case rel=>(try ((repeat apply Exists.intro);refine⟨?_,rfl⟩));exact⟨k+1,P,by go_num,by omega,by first|rfl|simp,hP0,hP1,HY,by trivial⟩
     case measure=>simp[intOf];omega
   ·obtain rfl:b=0:=by omega
    rw[if_neg (by simp),Int.zero_mul] at HB2;have HY:Hid (bdL (v+1) (4-(k+1)) 0=R):=by
     show _=_;rw[show 4-(k+1)=j by omega];exact HB2
    clear HB HB2 hj hP0;go_wp2;go_roundw
    case rel=>(try ((repeat apply Exists.intro);refine⟨?_,rfl⟩));exact⟨k+1,0,by go_num,by omega,by first|rfl|simp,by omega,by omega,HY,by trivial⟩
    case measure=>simp[intOf];omega
  ·have hkI:¬(k:Int)<4:=by omega
   have hz:4-k=0:=by omega
   have HB2:=HB.out;rw[hz,bdL] at HB2;have HY:=Lib.hid HB2;clear HB HB2 hz;go_wp2
   all_goals go_ret
   all_goals exact⟨by rw[<-HY.out];first|rfl|(congr 2;omega),rfl⟩
theorem rb022 (x r v:Int)(w:World)(hx:x<0)(hr:¬r<0)(gr:¬4<r)(hv:¬v<0)(gv:¬2147483648<v):Calls Tryd.prog 15 #[.int .i64 x,.int .i64 r,.int .i64 v] w fun e w'=>e=.returned (.int .i64 (bdA x r v))/\w'=w:=by
 obtain⟨n,rfl⟩:∃n:Nat,r=n:=⟨r.toNat,by omega⟩
 have hN:rnI (n:Int)=n:=by unfold rnI cntI;rw[if_neg hr,if_neg (by omega:¬(2147483648:Int)<n),if_neg gr];rfl
 have hX:cntI x=0:=by unfold cntI;rw[if_pos hx]
 have hV:1+cntI v=(v+1):=by unfold cntI;rw[if_neg hv,if_neg gv]<;>omega
 obtain⟨R,hR⟩:∃R,R=bdA x n v:=⟨_,rfl⟩
 rw[<-hR];unfold bdA at hR;rw[hX,hV,hN] at hR;have HR:=Lib.hid hR;clear hR hX hV hN;go_enter Tryd.func15,Tryd.ntmps15;go_wp2;go_loopw [7,9] (fun v7 v9 wr=>∃(k:Nat) (b:Int),v9=.int .i64 (k:Nat)/\k<=n/\v7=.int .i64 b/\0<=b/\b<=4611686018427387904/\Hid (bdL (v+1) (n-k) b=R)/\wr=w) (fun _ v _=>n-(intOf v).toNat)
 case atStart=>exact⟨0,0,by go_num,by omega,rfl,by omega,by omega,HR.out.symm,rfl⟩
 case round =>
  obtain⟨k,b,rfl,hk,rfl,hb0,hb1,HB,rfl⟩:=hrel;by_cases hlt:k<n
  ·have hkI:(k:Int)<n:=by omega
   obtain⟨j,hj⟩:∃j,n-k=j+1:=⟨n-k-1,by omega⟩
   have HB2:=HB.out;rw[hj,bdL] at HB2;have hP0:0<=b*(v+1):=Int.mul_nonneg hb0 (by omega);by_cases hpos:0<b
   ·obtain⟨Q,hQ⟩:∃Q,(4611686018427387904:Int) / b=Q:=⟨_,rfl⟩
    have hQ2:(4611686018427387904:Int).tdiv b=Q:=by rw[Int.tdiv_eq_ediv_of_nonneg (by omega)];exact hQ
    have htest:=bd_test2 (f:=(v+1)) hpos;rw[hQ] at htest;have hQ0:0<=Q/\Q<=4611686018427387904:=by
     rw[<-hQ];exact⟨Int.ediv_nonneg (by omega) (by omega),Int.ediv_le_self _ (by omega)⟩
    obtain⟨hQ00,hQ01⟩:=hQ0;have hb00:¬b=0:=by omega
    obtain⟨P,hP⟩:∃P,b*(v+1)=P:=⟨_,rfl⟩
    rw[hP] at HB2 htest hP0;by_cases ht:4611686018427387904<P
    ·rw[if_pos ht] at HB2;have htI:Q<(v+1):=htest.2 ht;have HY:=Lib.hid HB2;clear htest HB HB2 hj ht hP hQ;go_wp2;go_ret;exact⟨by rw[<-HY.out];rfl,rfl⟩
    ·rw[if_neg ht] at HB2;have htI:¬Q<(v+1):=fun h=>ht (htest.1 h);have HY:Hid (bdL (v+1) (n-(k+1)) P=R):=by
      show _=_;rw[show n-(k+1)=j by omega];exact HB2
     have hP1:P<=4611686018427387904:=by omega
     clear htest HB HB2 hj ht hQ;go_wp2;go_roundw
     case rel=>(try ((repeat apply Exists.intro);refine⟨?_,rfl⟩));exact⟨k+1,P,by go_num,by omega,by first|rfl|simp,hP0,hP1,HY,by trivial⟩
     case measure=>simp[intOf];omega
   ·obtain rfl:b=0:=by omega
    rw[if_neg (by simp),Int.zero_mul] at HB2;have HY:Hid (bdL (v+1) (n-(k+1)) 0=R):=by
     show _=_;rw[show n-(k+1)=j by omega];exact HB2
    clear HB HB2 hj hP0;go_wp2;go_roundw
    case rel=>(try ((repeat apply Exists.intro);refine⟨?_,rfl⟩));exact⟨k+1,0,by go_num,by omega,by first|rfl|simp,by omega,by omega,HY,by trivial⟩
    case measure=>simp[intOf];omega
  ·have hkI:¬(k:Int)<n:=by omega
   have hz:n-k=0:=by omega
   have HB2:=HB.out;rw[hz,bdL] at HB2;have HY:=Lib.hid HB2;clear HB HB2 hz;go_wp2
   all_goals go_ret
   all_goals exact⟨by rw[<-HY.out];first|rfl|(congr 2;omega),rfl⟩
theorem rb100 (x r v:Int)(w:World)(hx:¬x<0)(gx:2147483648<x)(hr:r<0)(hv:v<0):Calls Tryd.prog 15 #[.int .i64 x,.int .i64 r,.int .i64 v] w fun e w'=>e=.returned (.int .i64 (bdA x r v))/\w'=w:=by
 have hN:rnI r=0:=by unfold rnI cntI;rw[if_pos hr];rfl
 have hX:cntI x=2147483648:=by unfold cntI;rw[if_neg hx,if_pos gx]
 have hV:1+cntI v=1:=by unfold cntI;rw[if_pos hv]<;>omega
 obtain⟨R,hR⟩:∃R,R=bdA x r v:=⟨_,rfl⟩
 rw[<-hR];unfold bdA at hR;rw[hX,hV,hN] at hR;have HR:=Lib.hid hR;clear hR hX hV hN;go_enter Tryd.func15,Tryd.ntmps15;go_wp2;go_loopw [7,9] (fun v7 v9 wr=>∃(k:Nat) (b:Int),v9=.int .i64 (k:Nat)/\k<=0/\v7=.int .i64 b/\0<=b/\b<=4611686018427387904/\Hid (bdL 1 (0-k) b=R)/\wr=w) (fun _ v _=>0-(intOf v).toNat)
 case atStart=>exact⟨0,2147483648,by go_num,by omega,rfl,by omega,by omega,HR.out.symm,rfl⟩
 case round =>
  obtain⟨k,b,rfl,hk,rfl,hb0,hb1,HB,rfl⟩:=hrel;by_cases hlt:k<0
  ·have hkI:(k:Int)<0:=by omega
   obtain⟨j,hj⟩:∃j,0-k=j+1:=⟨0-k-1,by omega⟩
   have HB2:=HB.out;rw[hj,bdL] at HB2;have hP0:0<=b*1:=Int.mul_nonneg hb0 (by omega);by_cases hpos:0<b
   ·obtain⟨Q,hQ⟩:∃Q,(4611686018427387904:Int) / b=Q:=⟨_,rfl⟩
    have hQ2:(4611686018427387904:Int).tdiv b=Q:=by rw[Int.tdiv_eq_ediv_of_nonneg (by omega)];exact hQ
    have htest:=bd_test2 (f:=1) hpos;rw[hQ] at htest;have hQ0:0<=Q/\Q<=4611686018427387904:=by
     rw[<-hQ];exact⟨Int.ediv_nonneg (by omega) (by omega),Int.ediv_le_self _ (by omega)⟩
    obtain⟨hQ00,hQ01⟩:=hQ0;have hb00:¬b=0:=by omega
    obtain⟨P,hP⟩:∃P,b*1=P:=⟨_,rfl⟩
    rw[hP] at HB2 htest hP0;by_cases ht:4611686018427387904<P
    ·rw[if_pos ht] at HB2;have htI:Q<1:=htest.2 ht;have HY:=Lib.hid HB2;clear htest HB HB2 hj ht hP hQ;go_wp2;go_ret;exact⟨by rw[<-HY.out];rfl,rfl⟩
    ·rw[if_neg ht] at HB2;have htI:¬Q<1:=fun h=>ht (htest.1 h);have HY:Hid (bdL 1 (0-(k+1)) P=R):=by
      show _=_;rw[show 0-(k+1)=j by omega];exact HB2
     have hP1:P<=4611686018427387904:=by omega
     clear htest HB HB2 hj ht hQ;go_wp2;go_roundw
     case rel=>(try ((repeat apply Exists.intro);refine⟨?_,rfl⟩));exact⟨k+1,P,by go_num,by omega,by first|rfl|simp,hP0,hP1,HY,by trivial⟩
     case measure=>simp[intOf];omega
   ·obtain rfl:b=0:=by omega
    rw[if_neg (by simp),Int.zero_mul] at HB2;have HY:Hid (bdL 1 (0-(k+1)) 0=R):=by
     show _=_;rw[show 0-(k+1)=j by omega];exact HB2
    clear HB HB2 hj hP0;go_wp2;go_roundw
    case rel=>(try ((repeat apply Exists.intro);refine⟨?_,rfl⟩));exact⟨k+1,0,by go_num,by omega,by first|rfl|simp,by omega,by omega,HY,by trivial⟩
    case measure=>simp[intOf];omega
  ·have hkI:¬(k:Int)<0:=by omega
   have hz:0-k=0:=by omega
   have HB2:=HB.out;rw[hz,bdL] at HB2;have HY:=Lib.hid HB2;clear HB HB2 hz;go_wp2
   all_goals go_ret
   all_goals exact⟨by rw[<-HY.out];first|rfl|(congr 2;omega),rfl⟩
theorem rb110 (x r v:Int)(w:World)(hx:¬x<0)(gx:2147483648<x)(hr:¬r<0)(gr:4<r)(hv:v<0):Calls Tryd.prog 15 #[.int .i64 x,.int .i64 r,.int .i64 v] w fun e w'=>e=.returned (.int .i64 (bdA x r v))/\w'=w:=by
 have hN:rnI r=4:=rnI_big hr gr;have hX:cntI x=2147483648:=by unfold cntI;rw[if_neg hx,if_pos gx]
 have hV:1+cntI v=1:=by unfold cntI;rw[if_pos hv]<;>omega
 obtain⟨R,hR⟩:∃R,R=bdA x r v:=⟨_,rfl⟩
 rw[<-hR];unfold bdA at hR;rw[hX,hV,hN] at hR;have HR:=Lib.hid hR;clear hR hX hV hN;go_enter Tryd.func15,Tryd.ntmps15;go_wp2;go_loopw [7,9] (fun v7 v9 wr=>∃(k:Nat) (b:Int),v9=.int .i64 (k:Nat)/\k<=4/\v7=.int .i64 b/\0<=b/\b<=4611686018427387904/\Hid (bdL 1 (4-k) b=R)/\wr=w) (fun _ v _=>4-(intOf v).toNat)
 case atStart=>exact⟨0,2147483648,by go_num,by omega,rfl,by omega,by omega,HR.out.symm,rfl⟩
 case round =>
  obtain⟨k,b,rfl,hk,rfl,hb0,hb1,HB,rfl⟩:=hrel;by_cases hlt:k<4
  ·have hkI:(k:Int)<4:=by omega
   obtain⟨j,hj⟩:∃j,4-k=j+1:=⟨4-k-1,by omega⟩
   have HB2:=HB.out;rw[hj,bdL] at HB2;have hP0:0<=b*1:=Int.mul_nonneg hb0 (by omega);by_cases hpos:0<b
   ·obtain⟨Q,hQ⟩:∃Q,(4611686018427387904:Int) / b=Q:=⟨_,rfl⟩
    have hQ2:(4611686018427387904:Int).tdiv b=Q:=by rw[Int.tdiv_eq_ediv_of_nonneg (by omega)];exact hQ
    have htest:=bd_test2 (f:=1) hpos;rw[hQ] at htest;have hQ0:0<=Q/\Q<=4611686018427387904:=by
     rw[<-hQ];exact⟨Int.ediv_nonneg (by omega) (by omega),Int.ediv_le_self _ (by omega)⟩
    obtain⟨hQ00,hQ01⟩:=hQ0;have hb00:¬b=0:=by omega
    obtain⟨P,hP⟩:∃P,b*1=P:=⟨_,rfl⟩
    rw[hP] at HB2 htest hP0;by_cases ht:4611686018427387904<P
    ·rw[if_pos ht] at HB2;have htI:Q<1:=htest.2 ht;have HY:=Lib.hid HB2;clear htest HB HB2 hj ht hP hQ;go_wp2;go_ret;exact⟨by rw[<-HY.out];rfl,rfl⟩
    ·rw[if_neg ht] at HB2;have htI:¬Q<1:=fun h=>ht (htest.1 h);have HY:Hid (bdL 1 (4-(k+1)) P=R):=by
      show _=_;rw[show 4-(k+1)=j by omega];exact HB2
     have hP1:P<=4611686018427387904:=by omega
     clear htest HB HB2 hj ht hQ;go_wp2;go_roundw
     case rel=>(try ((repeat apply Exists.intro);refine⟨?_,rfl⟩));exact⟨k+1,P,by go_num,by omega,by first|rfl|simp,hP0,hP1,HY,by trivial⟩
     case measure=>simp[intOf];omega
   ·obtain rfl:b=0:=by omega
    rw[if_neg (by simp),Int.zero_mul] at HB2;have HY:Hid (bdL 1 (4-(k+1)) 0=R):=by
     show _=_;rw[show 4-(k+1)=j by omega];exact HB2
    clear HB HB2 hj hP0;go_wp2;go_roundw
    case rel=>(try ((repeat apply Exists.intro);refine⟨?_,rfl⟩));exact⟨k+1,0,by go_num,by omega,by first|rfl|simp,by omega,by omega,HY,by trivial⟩
    case measure=>simp[intOf];omega
  ·have hkI:¬(k:Int)<4:=by omega
   have hz:4-k=0:=by omega
   have HB2:=HB.out;rw[hz,bdL] at HB2;have HY:=Lib.hid HB2;clear HB HB2 hz;go_wp2
   all_goals go_ret
   all_goals exact⟨by rw[<-HY.out];first|rfl|(congr 2;omega),rfl⟩
theorem rb120 (x r v:Int)(w:World)(hx:¬x<0)(gx:2147483648<x)(hr:¬r<0)(gr:¬4<r)(hv:v<0):Calls Tryd.prog 15 #[.int .i64 x,.int .i64 r,.int .i64 v] w fun e w'=>e=.returned (.int .i64 (bdA x r v))/\w'=w:=by
 obtain⟨n,rfl⟩:∃n:Nat,r=n:=⟨r.toNat,by omega⟩
 have hN:rnI (n:Int)=n:=by unfold rnI cntI;rw[if_neg hr,if_neg (by omega:¬(2147483648:Int)<n),if_neg gr];rfl
 have hX:cntI x=2147483648:=by unfold cntI;rw[if_neg hx,if_pos gx]
 have hV:1+cntI v=1:=by unfold cntI;rw[if_pos hv]<;>omega
 obtain⟨R,hR⟩:∃R,R=bdA x n v:=⟨_,rfl⟩
 rw[<-hR];unfold bdA at hR;rw[hX,hV,hN] at hR;have HR:=Lib.hid hR;clear hR hX hV hN;go_enter Tryd.func15,Tryd.ntmps15;go_wp2;go_loopw [7,9] (fun v7 v9 wr=>∃(k:Nat) (b:Int),v9=.int .i64 (k:Nat)/\k<=n/\v7=.int .i64 b/\0<=b/\b<=4611686018427387904/\Hid (bdL 1 (n-k) b=R)/\wr=w) (fun _ v _=>n-(intOf v).toNat)
 case atStart=>exact⟨0,2147483648,by go_num,by omega,rfl,by omega,by omega,HR.out.symm,rfl⟩
 case round =>
  obtain⟨k,b,rfl,hk,rfl,hb0,hb1,HB,rfl⟩:=hrel;by_cases hlt:k<n
  ·have hkI:(k:Int)<n:=by omega
   obtain⟨j,hj⟩:∃j,n-k=j+1:=⟨n-k-1,by omega⟩
   have HB2:=HB.out;rw[hj,bdL] at HB2;have hP0:0<=b*1:=Int.mul_nonneg hb0 (by omega);by_cases hpos:0<b
   ·obtain⟨Q,hQ⟩:∃Q,(4611686018427387904:Int) / b=Q:=⟨_,rfl⟩
    have hQ2:(4611686018427387904:Int).tdiv b=Q:=by rw[Int.tdiv_eq_ediv_of_nonneg (by omega)];exact hQ
    have htest:=bd_test2 (f:=1) hpos;rw[hQ] at htest;have hQ0:0<=Q/\Q<=4611686018427387904:=by
     rw[<-hQ];exact⟨Int.ediv_nonneg (by omega) (by omega),Int.ediv_le_self _ (by omega)⟩
    obtain⟨hQ00,hQ01⟩:=hQ0;have hb00:¬b=0:=by omega
    obtain⟨P,hP⟩:∃P,b*1=P:=⟨_,rfl⟩
    rw[hP] at HB2 htest hP0;by_cases ht:4611686018427387904<P
    ·rw[if_pos ht] at HB2;have htI:Q<1:=htest.2 ht;have HY:=Lib.hid HB2;clear htest HB HB2 hj ht hP hQ;go_wp2;go_ret;exact⟨by rw[<-HY.out];rfl,rfl⟩
    ·rw[if_neg ht] at HB2;have htI:¬Q<1:=fun h=>ht (htest.1 h);have HY:Hid (bdL 1 (n-(k+1)) P=R):=by
      show _=_;rw[show n-(k+1)=j by omega];exact HB2
     have hP1:P<=4611686018427387904:=by omega
     clear htest HB HB2 hj ht hQ;go_wp2;go_roundw
     case rel=>(try ((repeat apply Exists.intro);refine⟨?_,rfl⟩));exact⟨k+1,P,by go_num,by omega,by first|rfl|simp,hP0,hP1,HY,by trivial⟩
     case measure=>simp[intOf];omega
   ·obtain rfl:b=0:=by omega
    rw[if_neg (by simp),Int.zero_mul] at HB2;have HY:Hid (bdL 1 (n-(k+1)) 0=R):=by
     show _=_;rw[show n-(k+1)=j by omega];exact HB2
    clear HB HB2 hj hP0;go_wp2;go_roundw
    case rel=>(try ((repeat apply Exists.intro);refine⟨?_,rfl⟩));exact⟨k+1,0,by go_num,by omega,by first|rfl|simp,by omega,by omega,HY,by trivial⟩
    case measure=>simp[intOf];omega
  ·have hkI:¬(k:Int)<n:=by omega
   have hz:n-k=0:=by omega
   have HB2:=HB.out;rw[hz,bdL] at HB2;have HY:=Lib.hid HB2;clear HB HB2 hz;go_wp2
   all_goals go_ret
   all_goals exact⟨by rw[<-HY.out];first|rfl|(congr 2;omega),rfl⟩
theorem rb101 (x r v:Int)(w:World)(hx:¬x<0)(gx:2147483648<x)(hr:r<0)(hv:¬v<0)(gv:2147483648<v):Calls Tryd.prog 15 #[.int .i64 x,.int .i64 r,.int .i64 v] w fun e w'=>e=.returned (.int .i64 (bdA x r v))/\w'=w:=by
 have hN:rnI r=0:=by unfold rnI cntI;rw[if_pos hr];rfl
 have hX:cntI x=2147483648:=by unfold cntI;rw[if_neg hx,if_pos gx]
 have hV:1+cntI v=2147483649:=by unfold cntI;rw[if_neg hv,if_pos gv]<;>omega
 obtain⟨R,hR⟩:∃R,R=bdA x r v:=⟨_,rfl⟩
 rw[<-hR];unfold bdA at hR;rw[hX,hV,hN] at hR;have HR:=Lib.hid hR;clear hR hX hV hN;go_enter Tryd.func15,Tryd.ntmps15;go_wp2;go_loopw [7,9] (fun v7 v9 wr=>∃(k:Nat) (b:Int),v9=.int .i64 (k:Nat)/\k<=0/\v7=.int .i64 b/\0<=b/\b<=4611686018427387904/\Hid (bdL 2147483649 (0-k) b=R)/\wr=w) (fun _ v _=>0-(intOf v).toNat)
 case atStart=>exact⟨0,2147483648,by go_num,by omega,rfl,by omega,by omega,HR.out.symm,rfl⟩
 case round =>
  obtain⟨k,b,rfl,hk,rfl,hb0,hb1,HB,rfl⟩:=hrel;by_cases hlt:k<0
  ·have hkI:(k:Int)<0:=by omega
   obtain⟨j,hj⟩:∃j,0-k=j+1:=⟨0-k-1,by omega⟩
   have HB2:=HB.out;rw[hj,bdL] at HB2;have hP0:0<=b*2147483649:=Int.mul_nonneg hb0 (by omega);by_cases hpos:0<b
   ·obtain⟨Q,hQ⟩:∃Q,(4611686018427387904:Int) / b=Q:=⟨_,rfl⟩
    have hQ2:(4611686018427387904:Int).tdiv b=Q:=by rw[Int.tdiv_eq_ediv_of_nonneg (by omega)];exact hQ
    have htest:=bd_test2 (f:=2147483649) hpos;rw[hQ] at htest;have hQ0:0<=Q/\Q<=4611686018427387904:=by
     rw[<-hQ];exact⟨Int.ediv_nonneg (by omega) (by omega),Int.ediv_le_self _ (by omega)⟩
    obtain⟨hQ00,hQ01⟩:=hQ0;have hb00:¬b=0:=by omega
    obtain⟨P,hP⟩:∃P,b*2147483649=P:=⟨_,rfl⟩
    rw[hP] at HB2 htest hP0;by_cases ht:4611686018427387904<P
    ·rw[if_pos ht] at HB2;have htI:Q<2147483649:=htest.2 ht;have HY:=Lib.hid HB2;clear htest HB HB2 hj ht hP hQ;go_wp2;go_ret;exact⟨by rw[<-HY.out];rfl,rfl⟩
    ·rw[if_neg ht] at HB2;have htI:¬Q<2147483649:=fun h=>ht (htest.1 h);have HY:Hid (bdL 2147483649 (0-(k+1)) P=R):=by
      show _=_;rw[show 0-(k+1)=j by omega];exact HB2
     have hP1:P<=4611686018427387904:=by omega
     clear htest HB HB2 hj ht hQ;go_wp2;go_roundw
     case rel=>(try ((repeat apply Exists.intro);refine⟨?_,rfl⟩));exact⟨k+1,P,by go_num,by omega,by first|rfl|simp,hP0,hP1,HY,by trivial⟩
     case measure=>simp[intOf];omega
   ·obtain rfl:b=0:=by omega
    rw[if_neg (by simp),Int.zero_mul] at HB2;have HY:Hid (bdL 2147483649 (0-(k+1)) 0=R):=by
     show _=_;rw[show 0-(k+1)=j by omega];exact HB2
    clear HB HB2 hj hP0;go_wp2;go_roundw
    case rel=>(try ((repeat apply Exists.intro);refine⟨?_,rfl⟩));exact⟨k+1,0,by go_num,by omega,by first|rfl|simp,by omega,by omega,HY,by trivial⟩
    case measure=>simp[intOf];omega
  ·have hkI:¬(k:Int)<0:=by omega
   have hz:0-k=0:=by omega
   have HB2:=HB.out;rw[hz,bdL] at HB2;have HY:=Lib.hid HB2;clear HB HB2 hz;go_wp2
   all_goals go_ret
   all_goals exact⟨by rw[<-HY.out];first|rfl|(congr 2;omega),rfl⟩
theorem rb111 (x r v:Int)(w:World)(hx:¬x<0)(gx:2147483648<x)(hr:¬r<0)(gr:4<r)(hv:¬v<0)(gv:2147483648<v):Calls Tryd.prog 15 #[.int .i64 x,.int .i64 r,.int .i64 v] w fun e w'=>e=.returned (.int .i64 (bdA x r v))/\w'=w:=by
 have hN:rnI r=4:=rnI_big hr gr;have hX:cntI x=2147483648:=by unfold cntI;rw[if_neg hx,if_pos gx]
 have hV:1+cntI v=2147483649:=by unfold cntI;rw[if_neg hv,if_pos gv]<;>omega
 obtain⟨R,hR⟩:∃R,R=bdA x r v:=⟨_,rfl⟩
 rw[<-hR];unfold bdA at hR;rw[hX,hV,hN] at hR;have HR:=Lib.hid hR;clear hR hX hV hN;go_enter Tryd.func15,Tryd.ntmps15;go_wp2;go_loopw [7,9] (fun v7 v9 wr=>∃(k:Nat) (b:Int),v9=.int .i64 (k:Nat)/\k<=4/\v7=.int .i64 b/\0<=b/\b<=4611686018427387904/\Hid (bdL 2147483649 (4-k) b=R)/\wr=w) (fun _ v _=>4-(intOf v).toNat)
 case atStart=>exact⟨0,2147483648,by go_num,by omega,rfl,by omega,by omega,HR.out.symm,rfl⟩
 case round =>
  obtain⟨k,b,rfl,hk,rfl,hb0,hb1,HB,rfl⟩:=hrel;by_cases hlt:k<4
  ·have hkI:(k:Int)<4:=by omega
   obtain⟨j,hj⟩:∃j,4-k=j+1:=⟨4-k-1,by omega⟩
   have HB2:=HB.out;rw[hj,bdL] at HB2;have hP0:0<=b*2147483649:=Int.mul_nonneg hb0 (by omega);by_cases hpos:0<b
   ·obtain⟨Q,hQ⟩:∃Q,(4611686018427387904:Int) / b=Q:=⟨_,rfl⟩
    have hQ2:(4611686018427387904:Int).tdiv b=Q:=by rw[Int.tdiv_eq_ediv_of_nonneg (by omega)];exact hQ
    have htest:=bd_test2 (f:=2147483649) hpos;rw[hQ] at htest;have hQ0:0<=Q/\Q<=4611686018427387904:=by
     rw[<-hQ];exact⟨Int.ediv_nonneg (by omega) (by omega),Int.ediv_le_self _ (by omega)⟩
    obtain⟨hQ00,hQ01⟩:=hQ0;have hb00:¬b=0:=by omega
    obtain⟨P,hP⟩:∃P,b*2147483649=P:=⟨_,rfl⟩
    rw[hP] at HB2 htest hP0;by_cases ht:4611686018427387904<P
    ·rw[if_pos ht] at HB2;have htI:Q<2147483649:=htest.2 ht;have HY:=Lib.hid HB2;clear htest HB HB2 hj ht hP hQ;go_wp2;go_ret;exact⟨by rw[<-HY.out];rfl,rfl⟩
    ·rw[if_neg ht] at HB2;have htI:¬Q<2147483649:=fun h=>ht (htest.1 h);have HY:Hid (bdL 2147483649 (4-(k+1)) P=R):=by
      show _=_;rw[show 4-(k+1)=j by omega];exact HB2
     have hP1:P<=4611686018427387904:=by omega
     clear htest HB HB2 hj ht hQ;go_wp2;go_roundw
     case rel=>(try ((repeat apply Exists.intro);refine⟨?_,rfl⟩));exact⟨k+1,P,by go_num,by omega,by first|rfl|simp,hP0,hP1,HY,by trivial⟩
     case measure=>simp[intOf];omega
   ·obtain rfl:b=0:=by omega
    rw[if_neg (by simp),Int.zero_mul] at HB2;have HY:Hid (bdL 2147483649 (4-(k+1)) 0=R):=by
     show _=_;rw[show 4-(k+1)=j by omega];exact HB2
    clear HB HB2 hj hP0;go_wp2;go_roundw
    case rel=>(try ((repeat apply Exists.intro);refine⟨?_,rfl⟩));exact⟨k+1,0,by go_num,by omega,by first|rfl|simp,by omega,by omega,HY,by trivial⟩
    case measure=>simp[intOf];omega
  ·have hkI:¬(k:Int)<4:=by omega
   have hz:4-k=0:=by omega
   have HB2:=HB.out;rw[hz,bdL] at HB2;have HY:=Lib.hid HB2;clear HB HB2 hz;go_wp2
   all_goals go_ret
   all_goals exact⟨by rw[<-HY.out];first|rfl|(congr 2;omega),rfl⟩
theorem rb121 (x r v:Int)(w:World)(hx:¬x<0)(gx:2147483648<x)(hr:¬r<0)(gr:¬4<r)(hv:¬v<0)(gv:2147483648<v):Calls Tryd.prog 15 #[.int .i64 x,.int .i64 r,.int .i64 v] w fun e w'=>e=.returned (.int .i64 (bdA x r v))/\w'=w:=by
 obtain⟨n,rfl⟩:∃n:Nat,r=n:=⟨r.toNat,by omega⟩
 have hN:rnI (n:Int)=n:=by unfold rnI cntI;rw[if_neg hr,if_neg (by omega:¬(2147483648:Int)<n),if_neg gr];rfl
 have hX:cntI x=2147483648:=by unfold cntI;rw[if_neg hx,if_pos gx]
 have hV:1+cntI v=2147483649:=by unfold cntI;rw[if_neg hv,if_pos gv]<;>omega
 obtain⟨R,hR⟩:∃R,R=bdA x n v:=⟨_,rfl⟩
 rw[<-hR];unfold bdA at hR;rw[hX,hV,hN] at hR;have HR:=Lib.hid hR;clear hR hX hV hN;go_enter Tryd.func15,Tryd.ntmps15;go_wp2;go_loopw [7,9] (fun v7 v9 wr=>∃(k:Nat) (b:Int),v9=.int .i64 (k:Nat)/\k<=n/\v7=.int .i64 b/\0<=b/\b<=4611686018427387904/\Hid (bdL 2147483649 (n-k) b=R)/\wr=w) (fun _ v _=>n-(intOf v).toNat)
 case atStart=>exact⟨0,2147483648,by go_num,by omega,rfl,by omega,by omega,HR.out.symm,rfl⟩
 case round =>
  obtain⟨k,b,rfl,hk,rfl,hb0,hb1,HB,rfl⟩:=hrel;by_cases hlt:k<n
  ·have hkI:(k:Int)<n:=by omega
   obtain⟨j,hj⟩:∃j,n-k=j+1:=⟨n-k-1,by omega⟩
   have HB2:=HB.out;rw[hj,bdL] at HB2;have hP0:0<=b*2147483649:=Int.mul_nonneg hb0 (by omega);by_cases hpos:0<b
   ·obtain⟨Q,hQ⟩:∃Q,(4611686018427387904:Int) / b=Q:=⟨_,rfl⟩
    have hQ2:(4611686018427387904:Int).tdiv b=Q:=by rw[Int.tdiv_eq_ediv_of_nonneg (by omega)];exact hQ
    have htest:=bd_test2 (f:=2147483649) hpos;rw[hQ] at htest;have hQ0:0<=Q/\Q<=4611686018427387904:=by
     rw[<-hQ];exact⟨Int.ediv_nonneg (by omega) (by omega),Int.ediv_le_self _ (by omega)⟩
    obtain⟨hQ00,hQ01⟩:=hQ0;have hb00:¬b=0:=by omega
    obtain⟨P,hP⟩:∃P,b*2147483649=P:=⟨_,rfl⟩
    rw[hP] at HB2 htest hP0;by_cases ht:4611686018427387904<P
    ·rw[if_pos ht] at HB2;have htI:Q<2147483649:=htest.2 ht;have HY:=Lib.hid HB2;clear htest HB HB2 hj ht hP hQ;go_wp2;go_ret;exact⟨by rw[<-HY.out];rfl,rfl⟩
    ·rw[if_neg ht] at HB2;have htI:¬Q<2147483649:=fun h=>ht (htest.1 h);have HY:Hid (bdL 2147483649 (n-(k+1)) P=R):=by
      show _=_;rw[show n-(k+1)=j by omega];exact HB2
     have hP1:P<=4611686018427387904:=by omega
     clear htest HB HB2 hj ht hQ;go_wp2;go_roundw
     case rel=>(try ((repeat apply Exists.intro);refine⟨?_,rfl⟩));exact⟨k+1,P,by go_num,by omega,by first|rfl|simp,hP0,hP1,HY,by trivial⟩
     case measure=>simp[intOf];omega
   ·obtain rfl:b=0:=by omega
    rw[if_neg (by simp),Int.zero_mul] at HB2;have HY:Hid (bdL 2147483649 (n-(k+1)) 0=R):=by
     show _=_;rw[show n-(k+1)=j by omega];exact HB2
    clear HB HB2 hj hP0;go_wp2;go_roundw
    case rel=>(try ((repeat apply Exists.intro);refine⟨?_,rfl⟩));exact⟨k+1,0,by go_num,by omega,by first|rfl|simp,by omega,by omega,HY,by trivial⟩
    case measure=>simp[intOf];omega
  ·have hkI:¬(k:Int)<n:=by omega
   have hz:n-k=0:=by omega
   have HB2:=HB.out;rw[hz,bdL] at HB2;have HY:=Lib.hid HB2;clear HB HB2 hz;go_wp2
   all_goals go_ret
   all_goals exact⟨by rw[<-HY.out];first|rfl|(congr 2;omega),rfl⟩
theorem rb102 (x r v:Int)(w:World)(hx:¬x<0)(gx:2147483648<x)(hr:r<0)(hv:¬v<0)(gv:¬2147483648<v):Calls Tryd.prog 15 #[.int .i64 x,.int .i64 r,.int .i64 v] w fun e w'=>e=.returned (.int .i64 (bdA x r v))/\w'=w:=by
 have hN:rnI r=0:=by unfold rnI cntI;rw[if_pos hr];rfl
 have hX:cntI x=2147483648:=by unfold cntI;rw[if_neg hx,if_pos gx]
 have hV:1+cntI v=(v+1):=by unfold cntI;rw[if_neg hv,if_neg gv]<;>omega
 obtain⟨R,hR⟩:∃R,R=bdA x r v:=⟨_,rfl⟩
 rw[<-hR];unfold bdA at hR;rw[hX,hV,hN] at hR;have HR:=Lib.hid hR;clear hR hX hV hN;go_enter Tryd.func15,Tryd.ntmps15;go_wp2;go_loopw [7,9] (fun v7 v9 wr=>∃(k:Nat) (b:Int),v9=.int .i64 (k:Nat)/\k<=0/\v7=.int .i64 b/\0<=b/\b<=4611686018427387904/\Hid (bdL (v+1) (0-k) b=R)/\wr=w) (fun _ v _=>0-(intOf v).toNat)
 case atStart=>exact⟨0,2147483648,by go_num,by omega,rfl,by omega,by omega,HR.out.symm,rfl⟩
 case round =>
  obtain⟨k,b,rfl,hk,rfl,hb0,hb1,HB,rfl⟩:=hrel;by_cases hlt:k<0
  ·have hkI:(k:Int)<0:=by omega
   obtain⟨j,hj⟩:∃j,0-k=j+1:=⟨0-k-1,by omega⟩
   have HB2:=HB.out;rw[hj,bdL] at HB2;have hP0:0<=b*(v+1):=Int.mul_nonneg hb0 (by omega);by_cases hpos:0<b
   ·obtain⟨Q,hQ⟩:∃Q,(4611686018427387904:Int) / b=Q:=⟨_,rfl⟩
    have hQ2:(4611686018427387904:Int).tdiv b=Q:=by rw[Int.tdiv_eq_ediv_of_nonneg (by omega)];exact hQ
    have htest:=bd_test2 (f:=(v+1)) hpos;rw[hQ] at htest;have hQ0:0<=Q/\Q<=4611686018427387904:=by
     rw[<-hQ];exact⟨Int.ediv_nonneg (by omega) (by omega),Int.ediv_le_self _ (by omega)⟩
    obtain⟨hQ00,hQ01⟩:=hQ0;have hb00:¬b=0:=by omega
    obtain⟨P,hP⟩:∃P,b*(v+1)=P:=⟨_,rfl⟩
    rw[hP] at HB2 htest hP0;by_cases ht:4611686018427387904<P
    ·rw[if_pos ht] at HB2;have htI:Q<(v+1):=htest.2 ht;have HY:=Lib.hid HB2;clear htest HB HB2 hj ht hP hQ;go_wp2;go_ret;exact⟨by rw[<-HY.out];rfl,rfl⟩
    ·rw[if_neg ht] at HB2;have htI:¬Q<(v+1):=fun h=>ht (htest.1 h);have HY:Hid (bdL (v+1) (0-(k+1)) P=R):=by
      show _=_;rw[show 0-(k+1)=j by omega];exact HB2
     have hP1:P<=4611686018427387904:=by omega
     clear htest HB HB2 hj ht hQ;go_wp2;go_roundw
     case rel=>(try ((repeat apply Exists.intro);refine⟨?_,rfl⟩));exact⟨k+1,P,by go_num,by omega,by first|rfl|simp,hP0,hP1,HY,by trivial⟩
     case measure=>simp[intOf];omega
   ·obtain rfl:b=0:=by omega
    rw[if_neg (by simp),Int.zero_mul] at HB2;have HY:Hid (bdL (v+1) (0-(k+1)) 0=R):=by
     show _=_;rw[show 0-(k+1)=j by omega];exact HB2
    clear HB HB2 hj hP0;go_wp2;go_roundw
    case rel=>(try ((repeat apply Exists.intro);refine⟨?_,rfl⟩));exact⟨k+1,0,by go_num,by omega,by first|rfl|simp,by omega,by omega,HY,by trivial⟩
    case measure=>simp[intOf];omega
  ·have hkI:¬(k:Int)<0:=by omega
   have hz:0-k=0:=by omega
   have HB2:=HB.out;rw[hz,bdL] at HB2;have HY:=Lib.hid HB2;clear HB HB2 hz;go_wp2
   all_goals go_ret
   all_goals exact⟨by rw[<-HY.out];first|rfl|(congr 2;omega),rfl⟩
theorem rb112 (x r v:Int)(w:World)(hx:¬x<0)(gx:2147483648<x)(hr:¬r<0)(gr:4<r)(hv:¬v<0)(gv:¬2147483648<v):Calls Tryd.prog 15 #[.int .i64 x,.int .i64 r,.int .i64 v] w fun e w'=>e=.returned (.int .i64 (bdA x r v))/\w'=w:=by
 have hN:rnI r=4:=rnI_big hr gr;have hX:cntI x=2147483648:=by unfold cntI;rw[if_neg hx,if_pos gx]
 have hV:1+cntI v=(v+1):=by unfold cntI;rw[if_neg hv,if_neg gv]<;>omega
 obtain⟨R,hR⟩:∃R,R=bdA x r v:=⟨_,rfl⟩
 rw[<-hR];unfold bdA at hR;rw[hX,hV,hN] at hR;have HR:=Lib.hid hR;clear hR hX hV hN;go_enter Tryd.func15,Tryd.ntmps15;go_wp2;go_loopw [7,9] (fun v7 v9 wr=>∃(k:Nat) (b:Int),v9=.int .i64 (k:Nat)/\k<=4/\v7=.int .i64 b/\0<=b/\b<=4611686018427387904/\Hid (bdL (v+1) (4-k) b=R)/\wr=w) (fun _ v _=>4-(intOf v).toNat)
 case atStart=>exact⟨0,2147483648,by go_num,by omega,rfl,by omega,by omega,HR.out.symm,rfl⟩
 case round =>
  obtain⟨k,b,rfl,hk,rfl,hb0,hb1,HB,rfl⟩:=hrel;by_cases hlt:k<4
  ·have hkI:(k:Int)<4:=by omega
   obtain⟨j,hj⟩:∃j,4-k=j+1:=⟨4-k-1,by omega⟩
   have HB2:=HB.out;rw[hj,bdL] at HB2;have hP0:0<=b*(v+1):=Int.mul_nonneg hb0 (by omega);by_cases hpos:0<b
   ·obtain⟨Q,hQ⟩:∃Q,(4611686018427387904:Int) / b=Q:=⟨_,rfl⟩
    have hQ2:(4611686018427387904:Int).tdiv b=Q:=by rw[Int.tdiv_eq_ediv_of_nonneg (by omega)];exact hQ
    have htest:=bd_test2 (f:=(v+1)) hpos;rw[hQ] at htest;have hQ0:0<=Q/\Q<=4611686018427387904:=by
     rw[<-hQ];exact⟨Int.ediv_nonneg (by omega) (by omega),Int.ediv_le_self _ (by omega)⟩
    obtain⟨hQ00,hQ01⟩:=hQ0;have hb00:¬b=0:=by omega
    obtain⟨P,hP⟩:∃P,b*(v+1)=P:=⟨_,rfl⟩
    rw[hP] at HB2 htest hP0;by_cases ht:4611686018427387904<P
    ·rw[if_pos ht] at HB2;have htI:Q<(v+1):=htest.2 ht;have HY:=Lib.hid HB2;clear htest HB HB2 hj ht hP hQ;go_wp2;go_ret;exact⟨by rw[<-HY.out];rfl,rfl⟩
    ·rw[if_neg ht] at HB2;have htI:¬Q<(v+1):=fun h=>ht (htest.1 h);have HY:Hid (bdL (v+1) (4-(k+1)) P=R):=by
      show _=_;rw[show 4-(k+1)=j by omega];exact HB2
     have hP1:P<=4611686018427387904:=by omega
     clear htest HB HB2 hj ht hQ;go_wp2;go_roundw
     case rel=>(try ((repeat apply Exists.intro);refine⟨?_,rfl⟩));exact⟨k+1,P,by go_num,by omega,by first|rfl|simp,hP0,hP1,HY,by trivial⟩
     case measure=>simp[intOf];omega
   ·obtain rfl:b=0:=by omega
    rw[if_neg (by simp),Int.zero_mul] at HB2;have HY:Hid (bdL (v+1) (4-(k+1)) 0=R):=by
     show _=_;rw[show 4-(k+1)=j by omega];exact HB2
    clear HB HB2 hj hP0;go_wp2;go_roundw
    case rel=>(try ((repeat apply Exists.intro);refine⟨?_,rfl⟩));exact⟨k+1,0,by go_num,by omega,by first|rfl|simp,by omega,by omega,HY,by trivial⟩
    case measure=>simp[intOf];omega
  ·have hkI:¬(k:Int)<4:=by omega
   have hz:4-k=0:=by omega
   have HB2:=HB.out;rw[hz,bdL] at HB2;have HY:=Lib.hid HB2;clear HB HB2 hz;go_wp2
   all_goals go_ret
   all_goals exact⟨by rw[<-HY.out];first|rfl|(congr 2;omega),rfl⟩
theorem rb122 (x r v:Int)(w:World)(hx:¬x<0)(gx:2147483648<x)(hr:¬r<0)(gr:¬4<r)(hv:¬v<0)(gv:¬2147483648<v):Calls Tryd.prog 15 #[.int .i64 x,.int .i64 r,.int .i64 v] w fun e w'=>e=.returned (.int .i64 (bdA x r v))/\w'=w:=by
 obtain⟨n,rfl⟩:∃n:Nat,r=n:=⟨r.toNat,by omega⟩
 have hN:rnI (n:Int)=n:=by unfold rnI cntI;rw[if_neg hr,if_neg (by omega:¬(2147483648:Int)<n),if_neg gr];rfl
 have hX:cntI x=2147483648:=by unfold cntI;rw[if_neg hx,if_pos gx]
 have hV:1+cntI v=(v+1):=by unfold cntI;rw[if_neg hv,if_neg gv]<;>omega
 obtain⟨R,hR⟩:∃R,R=bdA x n v:=⟨_,rfl⟩
 rw[<-hR];unfold bdA at hR;rw[hX,hV,hN] at hR;have HR:=Lib.hid hR;clear hR hX hV hN;go_enter Tryd.func15,Tryd.ntmps15;go_wp2;go_loopw [7,9] (fun v7 v9 wr=>∃(k:Nat) (b:Int),v9=.int .i64 (k:Nat)/\k<=n/\v7=.int .i64 b/\0<=b/\b<=4611686018427387904/\Hid (bdL (v+1) (n-k) b=R)/\wr=w) (fun _ v _=>n-(intOf v).toNat)
 case atStart=>exact⟨0,2147483648,by go_num,by omega,rfl,by omega,by omega,HR.out.symm,rfl⟩
 case round =>
  obtain⟨k,b,rfl,hk,rfl,hb0,hb1,HB,rfl⟩:=hrel;by_cases hlt:k<n
  ·have hkI:(k:Int)<n:=by omega
   obtain⟨j,hj⟩:∃j,n-k=j+1:=⟨n-k-1,by omega⟩
   have HB2:=HB.out;rw[hj,bdL] at HB2;have hP0:0<=b*(v+1):=Int.mul_nonneg hb0 (by omega);by_cases hpos:0<b
   ·obtain⟨Q,hQ⟩:∃Q,(4611686018427387904:Int) / b=Q:=⟨_,rfl⟩
    have hQ2:(4611686018427387904:Int).tdiv b=Q:=by rw[Int.tdiv_eq_ediv_of_nonneg (by omega)];exact hQ
    have htest:=bd_test2 (f:=(v+1)) hpos;rw[hQ] at htest;have hQ0:0<=Q/\Q<=4611686018427387904:=by
     rw[<-hQ];exact⟨Int.ediv_nonneg (by omega) (by omega),Int.ediv_le_self _ (by omega)⟩
    obtain⟨hQ00,hQ01⟩:=hQ0;have hb00:¬b=0:=by omega
    obtain⟨P,hP⟩:∃P,b*(v+1)=P:=⟨_,rfl⟩
    rw[hP] at HB2 htest hP0;by_cases ht:4611686018427387904<P
    ·rw[if_pos ht] at HB2;have htI:Q<(v+1):=htest.2 ht;have HY:=Lib.hid HB2;clear htest HB HB2 hj ht hP hQ;go_wp2;go_ret;exact⟨by rw[<-HY.out];rfl,rfl⟩
    ·rw[if_neg ht] at HB2;have htI:¬Q<(v+1):=fun h=>ht (htest.1 h);have HY:Hid (bdL (v+1) (n-(k+1)) P=R):=by
      show _=_;rw[show n-(k+1)=j by omega];exact HB2
     have hP1:P<=4611686018427387904:=by omega
     clear htest HB HB2 hj ht hQ;go_wp2;go_roundw
     case rel=>(try ((repeat apply Exists.intro);refine⟨?_,rfl⟩));exact⟨k+1,P,by go_num,by omega,by first|rfl|simp,hP0,hP1,HY,by trivial⟩
     case measure=>simp[intOf];omega
   ·obtain rfl:b=0:=by omega
    rw[if_neg (by simp),Int.zero_mul] at HB2;have HY:Hid (bdL (v+1) (n-(k+1)) 0=R):=by
     show _=_;rw[show n-(k+1)=j by omega];exact HB2
    clear HB HB2 hj hP0;go_wp2;go_roundw
    case rel=>(try ((repeat apply Exists.intro);refine⟨?_,rfl⟩));exact⟨k+1,0,by go_num,by omega,by first|rfl|simp,by omega,by omega,HY,by trivial⟩
    case measure=>simp[intOf];omega
  ·have hkI:¬(k:Int)<n:=by omega
   have hz:n-k=0:=by omega
   have HB2:=HB.out;rw[hz,bdL] at HB2;have HY:=Lib.hid HB2;clear HB HB2 hz;go_wp2
   all_goals go_ret
   all_goals exact⟨by rw[<-HY.out];first|rfl|(congr 2;omega),rfl⟩
theorem rb200 (x r v:Int)(w:World)(hx:¬x<0)(gx:¬2147483648<x)(hr:r<0)(hv:v<0):Calls Tryd.prog 15 #[.int .i64 x,.int .i64 r,.int .i64 v] w fun e w'=>e=.returned (.int .i64 (bdA x r v))/\w'=w:=by
 have hN:rnI r=0:=by unfold rnI cntI;rw[if_pos hr];rfl
 have hX:cntI x=x:=by unfold cntI;rw[if_neg hx,if_neg gx]
 have hV:1+cntI v=1:=by unfold cntI;rw[if_pos hv]<;>omega
 obtain⟨R,hR⟩:∃R,R=bdA x r v:=⟨_,rfl⟩
 rw[<-hR];unfold bdA at hR;rw[hX,hV,hN] at hR;have HR:=Lib.hid hR;clear hR hX hV hN;go_enter Tryd.func15,Tryd.ntmps15;go_wp2;go_loopw [7,9] (fun v7 v9 wr=>∃(k:Nat) (b:Int),v9=.int .i64 (k:Nat)/\k<=0/\v7=.int .i64 b/\0<=b/\b<=4611686018427387904/\Hid (bdL 1 (0-k) b=R)/\wr=w) (fun _ v _=>0-(intOf v).toNat)
 case atStart=>exact⟨0,x,by go_num,by omega,rfl,by omega,by omega,HR.out.symm,rfl⟩
 case round =>
  obtain⟨k,b,rfl,hk,rfl,hb0,hb1,HB,rfl⟩:=hrel;by_cases hlt:k<0
  ·have hkI:(k:Int)<0:=by omega
   obtain⟨j,hj⟩:∃j,0-k=j+1:=⟨0-k-1,by omega⟩
   have HB2:=HB.out;rw[hj,bdL] at HB2;have hP0:0<=b*1:=Int.mul_nonneg hb0 (by omega);by_cases hpos:0<b
   ·obtain⟨Q,hQ⟩:∃Q,(4611686018427387904:Int) / b=Q:=⟨_,rfl⟩
    have hQ2:(4611686018427387904:Int).tdiv b=Q:=by rw[Int.tdiv_eq_ediv_of_nonneg (by omega)];exact hQ
    have htest:=bd_test2 (f:=1) hpos;rw[hQ] at htest;have hQ0:0<=Q/\Q<=4611686018427387904:=by
     rw[<-hQ];exact⟨Int.ediv_nonneg (by omega) (by omega),Int.ediv_le_self _ (by omega)⟩
    obtain⟨hQ00,hQ01⟩:=hQ0;have hb00:¬b=0:=by omega
    obtain⟨P,hP⟩:∃P,b*1=P:=⟨_,rfl⟩
    rw[hP] at HB2 htest hP0;by_cases ht:4611686018427387904<P
    ·rw[if_pos ht] at HB2;have htI:Q<1:=htest.2 ht;have HY:=Lib.hid HB2;clear htest HB HB2 hj ht hP hQ;go_wp2;go_ret;exact⟨by rw[<-HY.out];rfl,rfl⟩
    ·rw[if_neg ht] at HB2;have htI:¬Q<1:=fun h=>ht (htest.1 h);have HY:Hid (bdL 1 (0-(k+1)) P=R):=by
      show _=_;rw[show 0-(k+1)=j by omega];exact HB2
     have hP1:P<=4611686018427387904:=by omega
     clear htest HB HB2 hj ht hQ;go_wp2;go_roundw
     case rel=>(try ((repeat apply Exists.intro);refine⟨?_,rfl⟩));exact⟨k+1,P,by go_num,by omega,by first|rfl|simp,hP0,hP1,HY,by trivial⟩
     case measure=>simp[intOf];omega
   ·obtain rfl:b=0:=by omega
    rw[if_neg (by simp),Int.zero_mul] at HB2;have HY:Hid (bdL 1 (0-(k+1)) 0=R):=by
     show _=_;rw[show 0-(k+1)=j by omega];exact HB2
    clear HB HB2 hj hP0;go_wp2;go_roundw
    case rel=>(try ((repeat apply Exists.intro);refine⟨?_,rfl⟩));exact⟨k+1,0,by go_num,by omega,by first|rfl|simp,by omega,by omega,HY,by trivial⟩
    case measure=>simp[intOf];omega
  ·have hkI:¬(k:Int)<0:=by omega
   have hz:0-k=0:=by omega
   have HB2:=HB.out;rw[hz,bdL] at HB2;have HY:=Lib.hid HB2;clear HB HB2 hz;go_wp2
   all_goals go_ret
   all_goals exact⟨by rw[<-HY.out];first|rfl|(congr 2;omega),rfl⟩
theorem rb210 (x r v:Int)(w:World)(hx:¬x<0)(gx:¬2147483648<x)(hr:¬r<0)(gr:4<r)(hv:v<0):Calls Tryd.prog 15 #[.int .i64 x,.int .i64 r,.int .i64 v] w fun e w'=>e=.returned (.int .i64 (bdA x r v))/\w'=w:=by
 have hN:rnI r=4:=rnI_big hr gr;have hX:cntI x=x:=by unfold cntI;rw[if_neg hx,if_neg gx]
 have hV:1+cntI v=1:=by unfold cntI;rw[if_pos hv]<;>omega
 obtain⟨R,hR⟩:∃R,R=bdA x r v:=⟨_,rfl⟩
 rw[<-hR];unfold bdA at hR;rw[hX,hV,hN] at hR;have HR:=Lib.hid hR;clear hR hX hV hN;go_enter Tryd.func15,Tryd.ntmps15;go_wp2;go_loopw [7,9] (fun v7 v9 wr=>∃(k:Nat) (b:Int),v9=.int .i64 (k:Nat)/\k<=4/\v7=.int .i64 b/\0<=b/\b<=4611686018427387904/\Hid (bdL 1 (4-k) b=R)/\wr=w) (fun _ v _=>4-(intOf v).toNat)
 case atStart=>exact⟨0,x,by go_num,by omega,rfl,by omega,by omega,HR.out.symm,rfl⟩
 case round =>
  obtain⟨k,b,rfl,hk,rfl,hb0,hb1,HB,rfl⟩:=hrel;by_cases hlt:k<4
  ·have hkI:(k:Int)<4:=by omega
   obtain⟨j,hj⟩:∃j,4-k=j+1:=⟨4-k-1,by omega⟩
   have HB2:=HB.out;rw[hj,bdL] at HB2;have hP0:0<=b*1:=Int.mul_nonneg hb0 (by omega);by_cases hpos:0<b
   ·obtain⟨Q,hQ⟩:∃Q,(4611686018427387904:Int) / b=Q:=⟨_,rfl⟩
    have hQ2:(4611686018427387904:Int).tdiv b=Q:=by rw[Int.tdiv_eq_ediv_of_nonneg (by omega)];exact hQ
    have htest:=bd_test2 (f:=1) hpos;rw[hQ] at htest;have hQ0:0<=Q/\Q<=4611686018427387904:=by
     rw[<-hQ];exact⟨Int.ediv_nonneg (by omega) (by omega),Int.ediv_le_self _ (by omega)⟩
    obtain⟨hQ00,hQ01⟩:=hQ0;have hb00:¬b=0:=by omega
    obtain⟨P,hP⟩:∃P,b*1=P:=⟨_,rfl⟩
    rw[hP] at HB2 htest hP0;by_cases ht:4611686018427387904<P
    ·rw[if_pos ht] at HB2;have htI:Q<1:=htest.2 ht;have HY:=Lib.hid HB2;clear htest HB HB2 hj ht hP hQ;go_wp2;go_ret;exact⟨by rw[<-HY.out];rfl,rfl⟩
    ·rw[if_neg ht] at HB2;have htI:¬Q<1:=fun h=>ht (htest.1 h);have HY:Hid (bdL 1 (4-(k+1)) P=R):=by
      show _=_;rw[show 4-(k+1)=j by omega];exact HB2
     have hP1:P<=4611686018427387904:=by omega
     clear htest HB HB2 hj ht hQ;go_wp2;go_roundw
     case rel=>(try ((repeat apply Exists.intro);refine⟨?_,rfl⟩));exact⟨k+1,P,by go_num,by omega,by first|rfl|simp,hP0,hP1,HY,by trivial⟩
     case measure=>simp[intOf];omega
   ·obtain rfl:b=0:=by omega
    rw[if_neg (by simp),Int.zero_mul] at HB2;have HY:Hid (bdL 1 (4-(k+1)) 0=R):=by
     show _=_;rw[show 4-(k+1)=j by omega];exact HB2
    clear HB HB2 hj hP0;go_wp2;go_roundw
    case rel=>(try ((repeat apply Exists.intro);refine⟨?_,rfl⟩));exact⟨k+1,0,by go_num,by omega,by first|rfl|simp,by omega,by omega,HY,by trivial⟩
    case measure=>simp[intOf];omega
  ·have hkI:¬(k:Int)<4:=by omega
   have hz:4-k=0:=by omega
   have HB2:=HB.out;rw[hz,bdL] at HB2;have HY:=Lib.hid HB2;clear HB HB2 hz;go_wp2
   all_goals go_ret
   all_goals exact⟨by rw[<-HY.out];first|rfl|(congr 2;omega),rfl⟩
theorem rb220 (x r v:Int)(w:World)(hx:¬x<0)(gx:¬2147483648<x)(hr:¬r<0)(gr:¬4<r)(hv:v<0):Calls Tryd.prog 15 #[.int .i64 x,.int .i64 r,.int .i64 v] w fun e w'=>e=.returned (.int .i64 (bdA x r v))/\w'=w:=by
 obtain⟨n,rfl⟩:∃n:Nat,r=n:=⟨r.toNat,by omega⟩
 have hN:rnI (n:Int)=n:=by unfold rnI cntI;rw[if_neg hr,if_neg (by omega:¬(2147483648:Int)<n),if_neg gr];rfl
 have hX:cntI x=x:=by unfold cntI;rw[if_neg hx,if_neg gx]
 have hV:1+cntI v=1:=by unfold cntI;rw[if_pos hv]<;>omega
 obtain⟨R,hR⟩:∃R,R=bdA x n v:=⟨_,rfl⟩
 rw[<-hR];unfold bdA at hR;rw[hX,hV,hN] at hR;have HR:=Lib.hid hR;clear hR hX hV hN;go_enter Tryd.func15,Tryd.ntmps15;go_wp2;go_loopw [7,9] (fun v7 v9 wr=>∃(k:Nat) (b:Int),v9=.int .i64 (k:Nat)/\k<=n/\v7=.int .i64 b/\0<=b/\b<=4611686018427387904/\Hid (bdL 1 (n-k) b=R)/\wr=w) (fun _ v _=>n-(intOf v).toNat)
 case atStart=>exact⟨0,x,by go_num,by omega,rfl,by omega,by omega,HR.out.symm,rfl⟩
 case round =>
  obtain⟨k,b,rfl,hk,rfl,hb0,hb1,HB,rfl⟩:=hrel;by_cases hlt:k<n
  ·have hkI:(k:Int)<n:=by omega
   obtain⟨j,hj⟩:∃j,n-k=j+1:=⟨n-k-1,by omega⟩
   have HB2:=HB.out;rw[hj,bdL] at HB2;have hP0:0<=b*1:=Int.mul_nonneg hb0 (by omega);by_cases hpos:0<b
   ·obtain⟨Q,hQ⟩:∃Q,(4611686018427387904:Int) / b=Q:=⟨_,rfl⟩
    have hQ2:(4611686018427387904:Int).tdiv b=Q:=by rw[Int.tdiv_eq_ediv_of_nonneg (by omega)];exact hQ
    have htest:=bd_test2 (f:=1) hpos;rw[hQ] at htest;have hQ0:0<=Q/\Q<=4611686018427387904:=by
     rw[<-hQ];exact⟨Int.ediv_nonneg (by omega) (by omega),Int.ediv_le_self _ (by omega)⟩
    obtain⟨hQ00,hQ01⟩:=hQ0;have hb00:¬b=0:=by omega
    obtain⟨P,hP⟩:∃P,b*1=P:=⟨_,rfl⟩
    rw[hP] at HB2 htest hP0;by_cases ht:4611686018427387904<P
    ·rw[if_pos ht] at HB2;have htI:Q<1:=htest.2 ht;have HY:=Lib.hid HB2;clear htest HB HB2 hj ht hP hQ;go_wp2;go_ret;exact⟨by rw[<-HY.out];rfl,rfl⟩
    ·rw[if_neg ht] at HB2;have htI:¬Q<1:=fun h=>ht (htest.1 h);have HY:Hid (bdL 1 (n-(k+1)) P=R):=by
      show _=_;rw[show n-(k+1)=j by omega];exact HB2
     have hP1:P<=4611686018427387904:=by omega
     clear htest HB HB2 hj ht hQ;go_wp2;go_roundw
     case rel=>(try ((repeat apply Exists.intro);refine⟨?_,rfl⟩));exact⟨k+1,P,by go_num,by omega,by first|rfl|simp,hP0,hP1,HY,by trivial⟩
     case measure=>simp[intOf];omega
   ·obtain rfl:b=0:=by omega
    rw[if_neg (by simp),Int.zero_mul] at HB2;have HY:Hid (bdL 1 (n-(k+1)) 0=R):=by
     show _=_;rw[show n-(k+1)=j by omega];exact HB2
    clear HB HB2 hj hP0;go_wp2;go_roundw
    case rel=>(try ((repeat apply Exists.intro);refine⟨?_,rfl⟩));exact⟨k+1,0,by go_num,by omega,by first|rfl|simp,by omega,by omega,HY,by trivial⟩
    case measure=>simp[intOf];omega
  ·have hkI:¬(k:Int)<n:=by omega
   have hz:n-k=0:=by omega
   have HB2:=HB.out;rw[hz,bdL] at HB2;have HY:=Lib.hid HB2;clear HB HB2 hz;go_wp2
   all_goals go_ret
   all_goals exact⟨by rw[<-HY.out];first|rfl|(congr 2;omega),rfl⟩
theorem rb201 (x r v:Int)(w:World)(hx:¬x<0)(gx:¬2147483648<x)(hr:r<0)(hv:¬v<0)(gv:2147483648<v):Calls Tryd.prog 15 #[.int .i64 x,.int .i64 r,.int .i64 v] w fun e w'=>e=.returned (.int .i64 (bdA x r v))/\w'=w:=by
 have hN:rnI r=0:=by unfold rnI cntI;rw[if_pos hr];rfl
 have hX:cntI x=x:=by unfold cntI;rw[if_neg hx,if_neg gx]
 have hV:1+cntI v=2147483649:=by unfold cntI;rw[if_neg hv,if_pos gv]<;>omega
 obtain⟨R,hR⟩:∃R,R=bdA x r v:=⟨_,rfl⟩
 rw[<-hR];unfold bdA at hR;rw[hX,hV,hN] at hR;have HR:=Lib.hid hR;clear hR hX hV hN;go_enter Tryd.func15,Tryd.ntmps15;go_wp2;go_loopw [7,9] (fun v7 v9 wr=>∃(k:Nat) (b:Int),v9=.int .i64 (k:Nat)/\k<=0/\v7=.int .i64 b/\0<=b/\b<=4611686018427387904/\Hid (bdL 2147483649 (0-k) b=R)/\wr=w) (fun _ v _=>0-(intOf v).toNat)
 case atStart=>exact⟨0,x,by go_num,by omega,rfl,by omega,by omega,HR.out.symm,rfl⟩
 case round =>
  obtain⟨k,b,rfl,hk,rfl,hb0,hb1,HB,rfl⟩:=hrel;by_cases hlt:k<0
  ·have hkI:(k:Int)<0:=by omega
   obtain⟨j,hj⟩:∃j,0-k=j+1:=⟨0-k-1,by omega⟩
   have HB2:=HB.out;rw[hj,bdL] at HB2;have hP0:0<=b*2147483649:=Int.mul_nonneg hb0 (by omega);by_cases hpos:0<b
   ·obtain⟨Q,hQ⟩:∃Q,(4611686018427387904:Int) / b=Q:=⟨_,rfl⟩
    have hQ2:(4611686018427387904:Int).tdiv b=Q:=by rw[Int.tdiv_eq_ediv_of_nonneg (by omega)];exact hQ
    have htest:=bd_test2 (f:=2147483649) hpos;rw[hQ] at htest;have hQ0:0<=Q/\Q<=4611686018427387904:=by
     rw[<-hQ];exact⟨Int.ediv_nonneg (by omega) (by omega),Int.ediv_le_self _ (by omega)⟩
    obtain⟨hQ00,hQ01⟩:=hQ0;have hb00:¬b=0:=by omega
    obtain⟨P,hP⟩:∃P,b*2147483649=P:=⟨_,rfl⟩
    rw[hP] at HB2 htest hP0;by_cases ht:4611686018427387904<P
    ·rw[if_pos ht] at HB2;have htI:Q<2147483649:=htest.2 ht;have HY:=Lib.hid HB2;clear htest HB HB2 hj ht hP hQ;go_wp2;go_ret;exact⟨by rw[<-HY.out];rfl,rfl⟩
    ·rw[if_neg ht] at HB2;have htI:¬Q<2147483649:=fun h=>ht (htest.1 h);have HY:Hid (bdL 2147483649 (0-(k+1)) P=R):=by
      show _=_;rw[show 0-(k+1)=j by omega];exact HB2
     have hP1:P<=4611686018427387904:=by omega
     clear htest HB HB2 hj ht hQ;go_wp2;go_roundw
     case rel=>(try ((repeat apply Exists.intro);refine⟨?_,rfl⟩));exact⟨k+1,P,by go_num,by omega,by first|rfl|simp,hP0,hP1,HY,by trivial⟩
     case measure=>simp[intOf];omega
   ·obtain rfl:b=0:=by omega
    rw[if_neg (by simp),Int.zero_mul] at HB2;have HY:Hid (bdL 2147483649 (0-(k+1)) 0=R):=by
     show _=_;rw[show 0-(k+1)=j by omega];exact HB2
    clear HB HB2 hj hP0;go_wp2;go_roundw
    case rel=>(try ((repeat apply Exists.intro);refine⟨?_,rfl⟩));exact⟨k+1,0,by go_num,by omega,by first|rfl|simp,by omega,by omega,HY,by trivial⟩
    case measure=>simp[intOf];omega
  ·have hkI:¬(k:Int)<0:=by omega
   have hz:0-k=0:=by omega
   have HB2:=HB.out;rw[hz,bdL] at HB2;have HY:=Lib.hid HB2;clear HB HB2 hz;go_wp2
   all_goals go_ret
   all_goals exact⟨by rw[<-HY.out];first|rfl|(congr 2;omega),rfl⟩
theorem rb211 (x r v:Int)(w:World)(hx:¬x<0)(gx:¬2147483648<x)(hr:¬r<0)(gr:4<r)(hv:¬v<0)(gv:2147483648<v):Calls Tryd.prog 15 #[.int .i64 x,.int .i64 r,.int .i64 v] w fun e w'=>e=.returned (.int .i64 (bdA x r v))/\w'=w:=by
 have hN:rnI r=4:=rnI_big hr gr;have hX:cntI x=x:=by unfold cntI;rw[if_neg hx,if_neg gx]
 have hV:1+cntI v=2147483649:=by unfold cntI;rw[if_neg hv,if_pos gv]<;>omega
 obtain⟨R,hR⟩:∃R,R=bdA x r v:=⟨_,rfl⟩
 rw[<-hR];unfold bdA at hR;rw[hX,hV,hN] at hR;have HR:=Lib.hid hR;clear hR hX hV hN;go_enter Tryd.func15,Tryd.ntmps15;go_wp2;go_loopw [7,9] (fun v7 v9 wr=>∃(k:Nat) (b:Int),v9=.int .i64 (k:Nat)/\k<=4/\v7=.int .i64 b/\0<=b/\b<=4611686018427387904/\Hid (bdL 2147483649 (4-k) b=R)/\wr=w) (fun _ v _=>4-(intOf v).toNat)
 case atStart=>exact⟨0,x,by go_num,by omega,rfl,by omega,by omega,HR.out.symm,rfl⟩
 case round =>
  obtain⟨k,b,rfl,hk,rfl,hb0,hb1,HB,rfl⟩:=hrel;by_cases hlt:k<4
  ·have hkI:(k:Int)<4:=by omega
   obtain⟨j,hj⟩:∃j,4-k=j+1:=⟨4-k-1,by omega⟩
   have HB2:=HB.out;rw[hj,bdL] at HB2;have hP0:0<=b*2147483649:=Int.mul_nonneg hb0 (by omega);by_cases hpos:0<b
   ·obtain⟨Q,hQ⟩:∃Q,(4611686018427387904:Int) / b=Q:=⟨_,rfl⟩
    have hQ2:(4611686018427387904:Int).tdiv b=Q:=by rw[Int.tdiv_eq_ediv_of_nonneg (by omega)];exact hQ
    have htest:=bd_test2 (f:=2147483649) hpos;rw[hQ] at htest;have hQ0:0<=Q/\Q<=4611686018427387904:=by
     rw[<-hQ];exact⟨Int.ediv_nonneg (by omega) (by omega),Int.ediv_le_self _ (by omega)⟩
    obtain⟨hQ00,hQ01⟩:=hQ0;have hb00:¬b=0:=by omega
    obtain⟨P,hP⟩:∃P,b*2147483649=P:=⟨_,rfl⟩
    rw[hP] at HB2 htest hP0;by_cases ht:4611686018427387904<P
    ·rw[if_pos ht] at HB2;have htI:Q<2147483649:=htest.2 ht;have HY:=Lib.hid HB2;clear htest HB HB2 hj ht hP hQ;go_wp2;go_ret;exact⟨by rw[<-HY.out];rfl,rfl⟩
    ·rw[if_neg ht] at HB2;have htI:¬Q<2147483649:=fun h=>ht (htest.1 h);have HY:Hid (bdL 2147483649 (4-(k+1)) P=R):=by
      show _=_;rw[show 4-(k+1)=j by omega];exact HB2
     have hP1:P<=4611686018427387904:=by omega
     clear htest HB HB2 hj ht hQ;go_wp2;go_roundw
     case rel=>(try ((repeat apply Exists.intro);refine⟨?_,rfl⟩));exact⟨k+1,P,by go_num,by omega,by first|rfl|simp,hP0,hP1,HY,by trivial⟩
     case measure=>simp[intOf];omega
   ·obtain rfl:b=0:=by omega
    rw[if_neg (by simp),Int.zero_mul] at HB2;have HY:Hid (bdL 2147483649 (4-(k+1)) 0=R):=by
     show _=_;rw[show 4-(k+1)=j by omega];exact HB2
    clear HB HB2 hj hP0;go_wp2;go_roundw
    case rel=>(try ((repeat apply Exists.intro);refine⟨?_,rfl⟩));exact⟨k+1,0,by go_num,by omega,by first|rfl|simp,by omega,by omega,HY,by trivial⟩
    case measure=>simp[intOf];omega
  ·have hkI:¬(k:Int)<4:=by omega
   have hz:4-k=0:=by omega
   have HB2:=HB.out;rw[hz,bdL] at HB2;have HY:=Lib.hid HB2;clear HB HB2 hz;go_wp2
   all_goals go_ret
   all_goals exact⟨by rw[<-HY.out];first|rfl|(congr 2;omega),rfl⟩
theorem rb221 (x r v:Int)(w:World)(hx:¬x<0)(gx:¬2147483648<x)(hr:¬r<0)(gr:¬4<r)(hv:¬v<0)(gv:2147483648<v):Calls Tryd.prog 15 #[.int .i64 x,.int .i64 r,.int .i64 v] w fun e w'=>e=.returned (.int .i64 (bdA x r v))/\w'=w:=by
 obtain⟨n,rfl⟩:∃n:Nat,r=n:=⟨r.toNat,by omega⟩
 have hN:rnI (n:Int)=n:=by unfold rnI cntI;rw[if_neg hr,if_neg (by omega:¬(2147483648:Int)<n),if_neg gr];rfl
 have hX:cntI x=x:=by unfold cntI;rw[if_neg hx,if_neg gx]
 have hV:1+cntI v=2147483649:=by unfold cntI;rw[if_neg hv,if_pos gv]<;>omega
 obtain⟨R,hR⟩:∃R,R=bdA x n v:=⟨_,rfl⟩
 rw[<-hR];unfold bdA at hR;rw[hX,hV,hN] at hR;have HR:=Lib.hid hR;clear hR hX hV hN;go_enter Tryd.func15,Tryd.ntmps15;go_wp2;go_loopw [7,9] (fun v7 v9 wr=>∃(k:Nat) (b:Int),v9=.int .i64 (k:Nat)/\k<=n/\v7=.int .i64 b/\0<=b/\b<=4611686018427387904/\Hid (bdL 2147483649 (n-k) b=R)/\wr=w) (fun _ v _=>n-(intOf v).toNat)
 case atStart=>exact⟨0,x,by go_num,by omega,rfl,by omega,by omega,HR.out.symm,rfl⟩
 case round =>
  obtain⟨k,b,rfl,hk,rfl,hb0,hb1,HB,rfl⟩:=hrel;by_cases hlt:k<n
  ·have hkI:(k:Int)<n:=by omega
   obtain⟨j,hj⟩:∃j,n-k=j+1:=⟨n-k-1,by omega⟩
   have HB2:=HB.out;rw[hj,bdL] at HB2;have hP0:0<=b*2147483649:=Int.mul_nonneg hb0 (by omega);by_cases hpos:0<b
   ·obtain⟨Q,hQ⟩:∃Q,(4611686018427387904:Int) / b=Q:=⟨_,rfl⟩
    have hQ2:(4611686018427387904:Int).tdiv b=Q:=by rw[Int.tdiv_eq_ediv_of_nonneg (by omega)];exact hQ
    have htest:=bd_test2 (f:=2147483649) hpos;rw[hQ] at htest;have hQ0:0<=Q/\Q<=4611686018427387904:=by
     rw[<-hQ];exact⟨Int.ediv_nonneg (by omega) (by omega),Int.ediv_le_self _ (by omega)⟩
    obtain⟨hQ00,hQ01⟩:=hQ0;have hb00:¬b=0:=by omega
    obtain⟨P,hP⟩:∃P,b*2147483649=P:=⟨_,rfl⟩
    rw[hP] at HB2 htest hP0;by_cases ht:4611686018427387904<P
    ·rw[if_pos ht] at HB2;have htI:Q<2147483649:=htest.2 ht;have HY:=Lib.hid HB2;clear htest HB HB2 hj ht hP hQ;go_wp2;go_ret;exact⟨by rw[<-HY.out];rfl,rfl⟩
    ·rw[if_neg ht] at HB2;have htI:¬Q<2147483649:=fun h=>ht (htest.1 h);have HY:Hid (bdL 2147483649 (n-(k+1)) P=R):=by
      show _=_;rw[show n-(k+1)=j by omega];exact HB2
     have hP1:P<=4611686018427387904:=by omega
     clear htest HB HB2 hj ht hQ;go_wp2;go_roundw
     case rel=>(try ((repeat apply Exists.intro);refine⟨?_,rfl⟩));exact⟨k+1,P,by go_num,by omega,by first|rfl|simp,hP0,hP1,HY,by trivial⟩
     case measure=>simp[intOf];omega
   ·obtain rfl:b=0:=by omega
    rw[if_neg (by simp),Int.zero_mul] at HB2;have HY:Hid (bdL 2147483649 (n-(k+1)) 0=R):=by
     show _=_;rw[show n-(k+1)=j by omega];exact HB2
    clear HB HB2 hj hP0;go_wp2;go_roundw
    case rel=>(try ((repeat apply Exists.intro);refine⟨?_,rfl⟩));exact⟨k+1,0,by go_num,by omega,by first|rfl|simp,by omega,by omega,HY,by trivial⟩
    case measure=>simp[intOf];omega
  ·have hkI:¬(k:Int)<n:=by omega
   have hz:n-k=0:=by omega
   have HB2:=HB.out;rw[hz,bdL] at HB2;have HY:=Lib.hid HB2;clear HB HB2 hz;go_wp2
   all_goals go_ret
   all_goals exact⟨by rw[<-HY.out];first|rfl|(congr 2;omega),rfl⟩
theorem rb202 (x r v:Int)(w:World)(hx:¬x<0)(gx:¬2147483648<x)(hr:r<0)(hv:¬v<0)(gv:¬2147483648<v):Calls Tryd.prog 15 #[.int .i64 x,.int .i64 r,.int .i64 v] w fun e w'=>e=.returned (.int .i64 (bdA x r v))/\w'=w:=by
 have hN:rnI r=0:=by unfold rnI cntI;rw[if_pos hr];rfl
 have hX:cntI x=x:=by unfold cntI;rw[if_neg hx,if_neg gx]
 have hV:1+cntI v=(v+1):=by unfold cntI;rw[if_neg hv,if_neg gv]<;>omega
 obtain⟨R,hR⟩:∃R,R=bdA x r v:=⟨_,rfl⟩
 rw[<-hR];unfold bdA at hR;rw[hX,hV,hN] at hR;have HR:=Lib.hid hR;clear hR hX hV hN;go_enter Tryd.func15,Tryd.ntmps15;go_wp2;go_loopw [7,9] (fun v7 v9 wr=>∃(k:Nat) (b:Int),v9=.int .i64 (k:Nat)/\k<=0/\v7=.int .i64 b/\0<=b/\b<=4611686018427387904/\Hid (bdL (v+1) (0-k) b=R)/\wr=w) (fun _ v _=>0-(intOf v).toNat)
 case atStart=>exact⟨0,x,by go_num,by omega,rfl,by omega,by omega,HR.out.symm,rfl⟩
 case round =>
  obtain⟨k,b,rfl,hk,rfl,hb0,hb1,HB,rfl⟩:=hrel;by_cases hlt:k<0
  ·have hkI:(k:Int)<0:=by omega
   obtain⟨j,hj⟩:∃j,0-k=j+1:=⟨0-k-1,by omega⟩
   have HB2:=HB.out;rw[hj,bdL] at HB2;have hP0:0<=b*(v+1):=Int.mul_nonneg hb0 (by omega);by_cases hpos:0<b
   ·obtain⟨Q,hQ⟩:∃Q,(4611686018427387904:Int) / b=Q:=⟨_,rfl⟩
    have hQ2:(4611686018427387904:Int).tdiv b=Q:=by rw[Int.tdiv_eq_ediv_of_nonneg (by omega)];exact hQ
    have htest:=bd_test2 (f:=(v+1)) hpos;rw[hQ] at htest;have hQ0:0<=Q/\Q<=4611686018427387904:=by
     rw[<-hQ];exact⟨Int.ediv_nonneg (by omega) (by omega),Int.ediv_le_self _ (by omega)⟩
    obtain⟨hQ00,hQ01⟩:=hQ0;have hb00:¬b=0:=by omega
    obtain⟨P,hP⟩:∃P,b*(v+1)=P:=⟨_,rfl⟩
    rw[hP] at HB2 htest hP0;by_cases ht:4611686018427387904<P
    ·rw[if_pos ht] at HB2;have htI:Q<(v+1):=htest.2 ht;have HY:=Lib.hid HB2;clear htest HB HB2 hj ht hP hQ;go_wp2;go_ret;exact⟨by rw[<-HY.out];rfl,rfl⟩
    ·rw[if_neg ht] at HB2;have htI:¬Q<(v+1):=fun h=>ht (htest.1 h);have HY:Hid (bdL (v+1) (0-(k+1)) P=R):=by
      show _=_;rw[show 0-(k+1)=j by omega];exact HB2
     have hP1:P<=4611686018427387904:=by omega
     clear htest HB HB2 hj ht hQ;go_wp2;go_roundw
     case rel=>(try ((repeat apply Exists.intro);refine⟨?_,rfl⟩));exact⟨k+1,P,by go_num,by omega,by first|rfl|simp,hP0,hP1,HY,by trivial⟩
     case measure=>simp[intOf];omega
   ·obtain rfl:b=0:=by omega
    rw[if_neg (by simp),Int.zero_mul] at HB2;have HY:Hid (bdL (v+1) (0-(k+1)) 0=R):=by
     show _=_;rw[show 0-(k+1)=j by omega];exact HB2
    clear HB HB2 hj hP0;go_wp2;go_roundw
    case rel=>(try ((repeat apply Exists.intro);refine⟨?_,rfl⟩));exact⟨k+1,0,by go_num,by omega,by first|rfl|simp,by omega,by omega,HY,by trivial⟩
    case measure=>simp[intOf];omega
  ·have hkI:¬(k:Int)<0:=by omega
   have hz:0-k=0:=by omega
   have HB2:=HB.out;rw[hz,bdL] at HB2;have HY:=Lib.hid HB2;clear HB HB2 hz;go_wp2
   all_goals go_ret
   all_goals exact⟨by rw[<-HY.out];first|rfl|(congr 2;omega),rfl⟩
theorem rb212 (x r v:Int)(w:World)(hx:¬x<0)(gx:¬2147483648<x)(hr:¬r<0)(gr:4<r)(hv:¬v<0)(gv:¬2147483648<v):Calls Tryd.prog 15 #[.int .i64 x,.int .i64 r,.int .i64 v] w fun e w'=>e=.returned (.int .i64 (bdA x r v))/\w'=w:=by
 have hN:rnI r=4:=rnI_big hr gr;have hX:cntI x=x:=by unfold cntI;rw[if_neg hx,if_neg gx]
 have hV:1+cntI v=(v+1):=by unfold cntI;rw[if_neg hv,if_neg gv]<;>omega
 obtain⟨R,hR⟩:∃R,R=bdA x r v:=⟨_,rfl⟩
 rw[<-hR];unfold bdA at hR;rw[hX,hV,hN] at hR;have HR:=Lib.hid hR;clear hR hX hV hN;go_enter Tryd.func15,Tryd.ntmps15;go_wp2;go_loopw [7,9] (fun v7 v9 wr=>∃(k:Nat) (b:Int),v9=.int .i64 (k:Nat)/\k<=4/\v7=.int .i64 b/\0<=b/\b<=4611686018427387904/\Hid (bdL (v+1) (4-k) b=R)/\wr=w) (fun _ v _=>4-(intOf v).toNat)
 case atStart=>exact⟨0,x,by go_num,by omega,rfl,by omega,by omega,HR.out.symm,rfl⟩
 case round =>
  obtain⟨k,b,rfl,hk,rfl,hb0,hb1,HB,rfl⟩:=hrel;by_cases hlt:k<4
  ·have hkI:(k:Int)<4:=by omega
   obtain⟨j,hj⟩:∃j,4-k=j+1:=⟨4-k-1,by omega⟩
   have HB2:=HB.out;rw[hj,bdL] at HB2;have hP0:0<=b*(v+1):=Int.mul_nonneg hb0 (by omega);by_cases hpos:0<b
   ·obtain⟨Q,hQ⟩:∃Q,(4611686018427387904:Int) / b=Q:=⟨_,rfl⟩
    have hQ2:(4611686018427387904:Int).tdiv b=Q:=by rw[Int.tdiv_eq_ediv_of_nonneg (by omega)];exact hQ
    have htest:=bd_test2 (f:=(v+1)) hpos;rw[hQ] at htest;have hQ0:0<=Q/\Q<=4611686018427387904:=by
     rw[<-hQ];exact⟨Int.ediv_nonneg (by omega) (by omega),Int.ediv_le_self _ (by omega)⟩
    obtain⟨hQ00,hQ01⟩:=hQ0;have hb00:¬b=0:=by omega
    obtain⟨P,hP⟩:∃P,b*(v+1)=P:=⟨_,rfl⟩
    rw[hP] at HB2 htest hP0;by_cases ht:4611686018427387904<P
    ·rw[if_pos ht] at HB2;have htI:Q<(v+1):=htest.2 ht;have HY:=Lib.hid HB2;clear htest HB HB2 hj ht hP hQ;go_wp2;go_ret;exact⟨by rw[<-HY.out];rfl,rfl⟩
    ·rw[if_neg ht] at HB2;have htI:¬Q<(v+1):=fun h=>ht (htest.1 h);have HY:Hid (bdL (v+1) (4-(k+1)) P=R):=by
      show _=_;rw[show 4-(k+1)=j by omega];exact HB2
     have hP1:P<=4611686018427387904:=by omega
     clear htest HB HB2 hj ht hQ;go_wp2;go_roundw
     case rel=>(try ((repeat apply Exists.intro);refine⟨?_,rfl⟩));exact⟨k+1,P,by go_num,by omega,by first|rfl|simp,hP0,hP1,HY,by trivial⟩
     case measure=>simp[intOf];omega
   ·obtain rfl:b=0:=by omega
    rw[if_neg (by simp),Int.zero_mul] at HB2;have HY:Hid (bdL (v+1) (4-(k+1)) 0=R):=by
     show _=_;rw[show 4-(k+1)=j by omega];exact HB2
    clear HB HB2 hj hP0;go_wp2;go_roundw
    case rel=>(try ((repeat apply Exists.intro);refine⟨?_,rfl⟩));exact⟨k+1,0,by go_num,by omega,by first|rfl|simp,by omega,by omega,HY,by trivial⟩
    case measure=>simp[intOf];omega
  ·have hkI:¬(k:Int)<4:=by omega
   have hz:4-k=0:=by omega
   have HB2:=HB.out;rw[hz,bdL] at HB2;have HY:=Lib.hid HB2;clear HB HB2 hz;go_wp2
   all_goals go_ret
   all_goals exact⟨by rw[<-HY.out];first|rfl|(congr 2;omega),rfl⟩
theorem rb222 (x r v:Int)(w:World)(hx:¬x<0)(gx:¬2147483648<x)(hr:¬r<0)(gr:¬4<r)(hv:¬v<0)(gv:¬2147483648<v):Calls Tryd.prog 15 #[.int .i64 x,.int .i64 r,.int .i64 v] w fun e w'=>e=.returned (.int .i64 (bdA x r v))/\w'=w:=by
 obtain⟨n,rfl⟩:∃n:Nat,r=n:=⟨r.toNat,by omega⟩
 have hN:rnI (n:Int)=n:=by unfold rnI cntI;rw[if_neg hr,if_neg (by omega:¬(2147483648:Int)<n),if_neg gr];rfl
 have hX:cntI x=x:=by unfold cntI;rw[if_neg hx,if_neg gx]
 have hV:1+cntI v=(v+1):=by unfold cntI;rw[if_neg hv,if_neg gv]<;>omega
 obtain⟨R,hR⟩:∃R,R=bdA x n v:=⟨_,rfl⟩
 rw[<-hR];unfold bdA at hR;rw[hX,hV,hN] at hR;have HR:=Lib.hid hR;clear hR hX hV hN;go_enter Tryd.func15,Tryd.ntmps15;go_wp2;go_loopw [7,9] (fun v7 v9 wr=>∃(k:Nat) (b:Int),v9=.int .i64 (k:Nat)/\k<=n/\v7=.int .i64 b/\0<=b/\b<=4611686018427387904/\Hid (bdL (v+1) (n-k) b=R)/\wr=w) (fun _ v _=>n-(intOf v).toNat)
 case atStart=>exact⟨0,x,by go_num,by omega,rfl,by omega,by omega,HR.out.symm,rfl⟩
 case round =>
  obtain⟨k,b,rfl,hk,rfl,hb0,hb1,HB,rfl⟩:=hrel;by_cases hlt:k<n
  ·have hkI:(k:Int)<n:=by omega
   obtain⟨j,hj⟩:∃j,n-k=j+1:=⟨n-k-1,by omega⟩
   have HB2:=HB.out;rw[hj,bdL] at HB2;have hP0:0<=b*(v+1):=Int.mul_nonneg hb0 (by omega);by_cases hpos:0<b
   ·obtain⟨Q,hQ⟩:∃Q,(4611686018427387904:Int) / b=Q:=⟨_,rfl⟩
    have hQ2:(4611686018427387904:Int).tdiv b=Q:=by rw[Int.tdiv_eq_ediv_of_nonneg (by omega)];exact hQ
    have htest:=bd_test2 (f:=(v+1)) hpos;rw[hQ] at htest;have hQ0:0<=Q/\Q<=4611686018427387904:=by
     rw[<-hQ];exact⟨Int.ediv_nonneg (by omega) (by omega),Int.ediv_le_self _ (by omega)⟩
    obtain⟨hQ00,hQ01⟩:=hQ0;have hb00:¬b=0:=by omega
    obtain⟨P,hP⟩:∃P,b*(v+1)=P:=⟨_,rfl⟩
    rw[hP] at HB2 htest hP0;by_cases ht:4611686018427387904<P
    ·rw[if_pos ht] at HB2;have htI:Q<(v+1):=htest.2 ht;have HY:=Lib.hid HB2;clear htest HB HB2 hj ht hP hQ;go_wp2;go_ret;exact⟨by rw[<-HY.out];rfl,rfl⟩
    ·rw[if_neg ht] at HB2;have htI:¬Q<(v+1):=fun h=>ht (htest.1 h);have HY:Hid (bdL (v+1) (n-(k+1)) P=R):=by
      show _=_;rw[show n-(k+1)=j by omega];exact HB2
     have hP1:P<=4611686018427387904:=by omega
     clear htest HB HB2 hj ht hQ;go_wp2;go_roundw
     case rel=>(try ((repeat apply Exists.intro);refine⟨?_,rfl⟩));exact⟨k+1,P,by go_num,by omega,by first|rfl|simp,hP0,hP1,HY,by trivial⟩
     case measure=>simp[intOf];omega
   ·obtain rfl:b=0:=by omega
    rw[if_neg (by simp),Int.zero_mul] at HB2;have HY:Hid (bdL (v+1) (n-(k+1)) 0=R):=by
     show _=_;rw[show n-(k+1)=j by omega];exact HB2
    clear HB HB2 hj hP0;go_wp2;go_roundw
    case rel=>(try ((repeat apply Exists.intro);refine⟨?_,rfl⟩));exact⟨k+1,0,by go_num,by omega,by first|rfl|simp,by omega,by omega,HY,by trivial⟩
    case measure=>simp[intOf];omega
  ·have hkI:¬(k:Int)<n:=by omega
   have hz:n-k=0:=by omega
   have HB2:=HB.out;rw[hz,bdL] at HB2;have HY:=Lib.hid HB2;clear HB HB2 hz;go_wp2
   all_goals go_ret
   all_goals exact⟨by rw[<-HY.out];first|rfl|(congr 2;omega),rfl⟩
theorem refBound_c (x r v:Int)(w:World):Calls Tryd.prog 15 #[.int .i64 x,.int .i64 r,.int .i64 v] w fun e w'=>e=.returned (.int .i64 (bdA x r v))/\w'=w:=by
 by_cases hx:x<0
 ·by_cases hr:r<0
  ·by_cases hv:v<0
   ·exact rb000 x r v w hx hr hv
   ·by_cases gv:2147483648<v
    ·exact rb001 x r v w hx hr hv gv
    ·exact rb002 x r v w hx hr hv gv
  ·by_cases gr:4<r
   ·by_cases hv:v<0
    ·exact rb010 x r v w hx hr gr hv
    ·by_cases gv:2147483648<v
     ·exact rb011 x r v w hx hr gr hv gv
     ·exact rb012 x r v w hx hr gr hv gv
   ·by_cases hv:v<0
    ·exact rb020 x r v w hx hr gr hv
    ·by_cases gv:2147483648<v
     ·exact rb021 x r v w hx hr gr hv gv
     ·exact rb022 x r v w hx hr gr hv gv
 ·by_cases gx:2147483648<x
  ·by_cases hr:r<0
   ·by_cases hv:v<0
    ·exact rb100 x r v w hx gx hr hv
    ·by_cases gv:2147483648<v
     ·exact rb101 x r v w hx gx hr hv gv
     ·exact rb102 x r v w hx gx hr hv gv
   ·by_cases gr:4<r
    ·by_cases hv:v<0
     ·exact rb110 x r v w hx gx hr gr hv
     ·by_cases gv:2147483648<v
      ·exact rb111 x r v w hx gx hr gr hv gv
      ·exact rb112 x r v w hx gx hr gr hv gv
    ·by_cases hv:v<0
     ·exact rb120 x r v w hx gx hr gr hv
     ·by_cases gv:2147483648<v
      ·exact rb121 x r v w hx gx hr gr hv gv
      ·exact rb122 x r v w hx gx hr gr hv gv
  ·by_cases hr:r<0
   ·by_cases hv:v<0
    ·exact rb200 x r v w hx gx hr hv
    ·by_cases gv:2147483648<v
     ·exact rb201 x r v w hx gx hr hv gv
     ·exact rb202 x r v w hx gx hr hv gv
   ·by_cases gr:4<r
    ·by_cases hv:v<0
     ·exact rb210 x r v w hx gx hr gr hv
     ·by_cases gv:2147483648<v
      ·exact rb211 x r v w hx gx hr gr hv gv
      ·exact rb212 x r v w hx gx hr gr hv gv
    ·by_cases hv:v<0
     ·exact rb220 x r v w hx gx hr gr hv
     ·by_cases gv:2147483648<v
      ·exact rb221 x r v w hx gx hr gr hv gv
      ·exact rb222 x r v w hx gx hr gr hv gv
end Go.Proofs.YtlojiclhoiddlaaDoor

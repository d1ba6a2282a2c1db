import Derived.Test.YtpdfdhkdfkhfkaaDoorGdX
set_option maxRecDepth 100000
set_option maxHeartbeats 8000000
namespace Go.Proofs.YtpdfdhkdfkhfkaaDoor
open Go.ChangeShapes Go.WideShapes Go.ChangeAt Go.RowKit
set_option linter.unusedVariables false
set_option linter.unusedSimpArgs false
def cntI (n:Int):Int:=if n<0 then 0 else if 2147483648<n then 2147483648 else n
theorem cntI_bd (n:Int):0<=cntI n/\cntI n<=2147483648:=by
 unfold cntI;by_cases h:n<0
 ·rw[if_pos h];omega
 ·rw[if_neg h];by_cases h2:2147483648<n
  ·rw[if_pos h2];omega
  ·rw[if_neg h2];omega
def bdL (f:Int):Nat->Int->Int
 | 0,b=>b
 | k+1,b=>if 4611686018427387904<b*f then 4611686018427387904 else bdL f k (b*f)
def rnI (rounds:Int):Nat:=if 4<cntI rounds then 4 else (cntI rounds).toNat
def bdA (words rounds vertices:Int):Int:=bdL (1+cntI vertices) (rnI rounds) (cntI words)
theorem rnI_bd (r:Int):rnI r<=4:=by
 have:=cntI_bd r
 unfold rnI;by_cases h:4<cntI r
 ·rw[if_pos h];omega
 ·rw[if_neg h];omega
theorem bd_test {b f:Int}(hf:1<=f):(4611686018427387904:Int) / f<b ↔ 4611686018427387904<b*f:=Int.ediv_lt_iff_lt_mul (by omega)
theorem counted_c (n:Int)(w:World):Calls Tryd.prog 26 #[.int .i64 n] w fun e w'=>e=.returned (.int .i64 (cntI n))/\w'=w:=by
 have HE:∀ x:Int,x=cntI n->Ending.returned (.int .i64 x)=.returned (.int .i64 (cntI n)):=fun x h=>by rw[h]
 have HB:Hid (cntI n=if n<0 then 0 else if 2147483648<n then 2147483648 else n):=rfl;by_cases h:n<0
 ·rw[if_pos h] at HB;go_enter Tryd.func26,Tryd.ntmps26;go_wp2;go_ret;exact⟨HE _ (by rw[HB.out]),rfl⟩
 ·rw[if_neg h] at HB;by_cases h2:2147483648<n
  ·rw[if_pos h2] at HB;go_enter Tryd.func26,Tryd.ntmps26;go_wp2;go_ret;exact⟨HE _ (by rw[HB.out]),rfl⟩
  ·rw[if_neg h2] at HB;go_enter Tryd.func26,Tryd.ntmps26;go_wp2;go_ret;exact⟨HE _ (by rw[HB.out]),rfl⟩
theorem bound_c (x r v:Int)(w:World):Calls Tryd.prog 14 #[.int .i64 x,.int .i64 r,.int .i64 v] w fun e w'=>e=.returned (.int .i64 (bdA x r v))/\w'=w:=by
 have C1:=fun wx=>counted_c x wx;have C2:=fun wx=>counted_c r wx;have C3:=fun wx=>counted_c v wx;have b1:=cntI_bd x;have b2:=cntI_bd r;have b3:=cntI_bd v;obtain⟨R,hR⟩:∃R,R=bdA x r v:=⟨_,rfl⟩
 rw[<-hR];unfold bdA at hR;have HN:Hid ((rnI r:Int)=if 4<cntI r then 4 else cntI r):=by
  show _=_;unfold rnI;by_cases h:4<cntI r
  ·rw[if_pos h,if_pos h];rfl
  ·rw[if_neg h,if_neg h];omega
 have hn4:=rnI_bd r;have HR:=Lib.hid hR;clear hR;generalize rnI r=n at *;generalize cntI x=b0 at *;generalize cntI r=cr at *;generalize hcv:cntI v=cv at *;clear hcv;have hn:∃n':Nat,n'=n:=⟨_,rfl⟩
 have HNN:Hid ((4<cr->(n:Int)=4)/\(¬4<cr->(n:Int)=cr)):=⟨fun h=>by rw[HN.out,if_pos h],fun h=>by rw[HN.out,if_neg h]⟩
 clear hn HN;have hff:(1:Int)<=1+cv:=by omega
 obtain⟨F,hF⟩:∃F:Int,F=1+cv:=⟨_,rfl⟩
 rw[<-hF] at HR hff;have hF2:F<=2147483649:=by omega
 have HF:=Lib.hid hF;clear hF;have key:∀ (wr:World),True:=fun _=>trivial;by_cases h4:4<cr
 ·have hnI:=HNN.out.1 h4;obtain rfl:n=4:=by omega
  clear hnI HNN hn4;go_enter Tryd.func14,Tryd.ntmps14;go_wp2_with (first|(go_at_call 26;refine(C1 _).mono ?_;rintro e wz ⟨rfl,hz⟩;subst hz;clear C1)|(go_at_call 26;refine(C3 _).mono ?_;rintro e wz ⟨rfl,hz⟩;subst hz;clear C3)|(go_at_call 26;refine(C2 _).mono ?_;rintro e wz ⟨rfl,hz⟩;subst hz;clear C2));try rw[<-HF.out]
  go_loopw [7,17] (fun v7 v17 wr=>∃(k:Nat) (b:Int),v17=.int .i64 (k:Nat)/\k<=4/\v7=.int .i64 b/\0<=b/\b<=4611686018427387904/\Hid (bdL F (4-k) b=R)/\wr=wz) (fun _ v _=>4-(intOf v).toNat)
  case atStart=>exact⟨0,b0,by go_num,by omega,rfl,by omega,by omega,HR.out.symm,rfl⟩
  case round =>
   obtain⟨k,b,rfl,hk,rfl,hb0,hb1,HB,rfl⟩:=hrel;clear b1 b2 b3;by_cases hlt:k<4
   ·have hkI:(k:Int)<4:=by omega
    obtain⟨j,hj⟩:∃j,4-k=j+1:=⟨4-k-1,by omega⟩
    have HB2:=HB.out;rw[hj,bdL] at HB2;obtain⟨Q,hQ⟩:∃Q,(4611686018427387904:Int) / F=Q:=⟨_,rfl⟩
    have hQ2:(4611686018427387904:Int).tdiv F=Q:=by rw[Int.tdiv_eq_ediv_of_nonneg (by omega)];exact hQ
    have htest:=bd_test (b:=b) hff;rw[hQ] at htest;have hQ0:0<=Q/\Q<=4611686018427387904:=by
     rw[<-hQ];exact⟨Int.ediv_nonneg (by omega) (by omega),Int.ediv_le_self _ (by omega)⟩
    have hP0:0<=b*F:=Int.mul_nonneg hb0 (by omega);obtain⟨P,hP⟩:∃P,b*F=P:=⟨_,rfl⟩
    rw[hP] at HB2 htest hP0;have hF0:¬F=0:=by omega
    by_cases ht:4611686018427387904<P
    ·rw[if_pos ht] at HB2;have htI:Q<b:=htest.2 ht;have HY:=Lib.hid HB2;clear htest HB HB2 hj ht hP;go_wp2;go_ret;exact⟨by rw[<-HY.out];rfl,rfl⟩
    ·rw[if_neg ht] at HB2;have htI:¬Q<b:=fun h=>ht (htest.1 h);have HY:Hid (bdL F (4-(k+1)) P=R):=by
      show _=_;rw[show 4-(k+1)=j by omega];exact HB2
     have hP1:P<=4611686018427387904:=by omega
     clear htest HB HB2 hj ht;go_wp2;go_roundw
     case rel=>(try ((repeat apply Exists.intro);refine⟨?_,rfl⟩));exact⟨k+1,P,by go_num,by omega,rfl,hP0,hP1,HY,by trivial⟩
     case measure=>simp[intOf];omega
   ·have hkI:¬(k:Int)<4:=by omega
    have hz:4-k=0:=by omega
    have HB2:=HB.out;rw[hz,bdL] at HB2;have HY:=Lib.hid HB2;clear HB HB2 hz;go_wp2;go_ret;exact⟨by rw[<-HY.out];rfl,rfl⟩
 ·have hnI:=HNN.out.2 h4;subst hnI;clear HNN;go_enter Tryd.func14,Tryd.ntmps14;go_wp2_with (first|(go_at_call 26;refine(C1 _).mono ?_;rintro e wz ⟨rfl,hz⟩;subst hz;clear C1)|(go_at_call 26;refine(C3 _).mono ?_;rintro e wz ⟨rfl,hz⟩;subst hz;clear C3)|(go_at_call 26;refine(C2 _).mono ?_;rintro e wz ⟨rfl,hz⟩;subst hz;clear C2));try rw[<-HF.out]
  go_loopw [7,17] (fun v7 v17 wr=>∃(k:Nat) (b:Int),v17=.int .i64 (k:Nat)/\k<=n/\v7=.int .i64 b/\0<=b/\b<=4611686018427387904/\Hid (bdL F (n-k) b=R)/\wr=wz) (fun _ v _=>n-(intOf v).toNat)
  case atStart=>exact⟨0,b0,by go_num,by omega,rfl,by omega,by omega,HR.out.symm,rfl⟩
  case round =>
   obtain⟨k,b,rfl,hk,rfl,hb0,hb1,HB,rfl⟩:=hrel;clear b1 b2 b3;by_cases hlt:k<n
   ·have hkI:(k:Int)<(n:Int):=by omega
    obtain⟨j,hj⟩:∃j,n-k=j+1:=⟨n-k-1,by omega⟩
    have HB2:=HB.out;rw[hj,bdL] at HB2;obtain⟨Q,hQ⟩:∃Q,(4611686018427387904:Int) / F=Q:=⟨_,rfl⟩
    have hQ2:(4611686018427387904:Int).tdiv F=Q:=by rw[Int.tdiv_eq_ediv_of_nonneg (by omega)];exact hQ
    have htest:=bd_test (b:=b) hff;rw[hQ] at htest;have hQ0:0<=Q/\Q<=4611686018427387904:=by
     rw[<-hQ];exact⟨Int.ediv_nonneg (by omega) (by omega),Int.ediv_le_self _ (by omega)⟩
    have hP0:0<=b*F:=Int.mul_nonneg hb0 (by omega);obtain⟨P,hP⟩:∃P,b*F=P:=⟨_,rfl⟩
    rw[hP] at HB2 htest hP0;have hF0:¬F=0:=by omega
    by_cases ht:4611686018427387904<P
    ·rw[if_pos ht] at HB2;have htI:Q<b:=htest.2 ht;have HY:=Lib.hid HB2;clear htest HB HB2 hj ht hP;go_wp2;go_ret;exact⟨by rw[<-HY.out];rfl,rfl⟩
    ·rw[if_neg ht] at HB2;have htI:¬Q<b:=fun h=>ht (htest.1 h);have HY:Hid (bdL F (n-(k+1)) P=R):=by
      show _=_;rw[show n-(k+1)=j by omega];exact HB2
     have hP1:P<=4611686018427387904:=by omega
     clear htest HB HB2 hj ht;go_wp2;go_roundw
     case rel=>(try ((repeat apply Exists.intro);refine⟨?_,rfl⟩));exact⟨k+1,P,by go_num,by omega,rfl,hP0,hP1,HY,by trivial⟩
     case measure=>simp[intOf];omega
   ·have hkI:¬(k:Int)<(n:Int):=by omega
    have hz:n-k=0:=by omega
    have HB2:=HB.out;rw[hz,bdL] at HB2;have HY:=Lib.hid HB2;clear HB HB2 hz;go_wp2;go_ret;exact⟨by rw[<-HY.out];rfl,rfl⟩
theorem rword_yes (o a b:Int)(w:World)(h1:0<=o)(h2:o<=255)(h3:0<=a)(h4:a<=268435455)(h5:0<=b)(h6:b<=268435455) :
  Calls Tryd.prog 25 #[.int .i64 o,.int .i64 a,.int .i64 b] w fun e w' =>
   e=.returned (.tuple #[.int .u64 ((o*268435456+a)*268435456+b),.int .i64 0])/\w'=w:=by
 go_enter Tryd.func25,Tryd.ntmps25;go_wp2;go_ret2;exact⟨rfl,rfl⟩
end Go.Proofs.YtpdfdhkdfkhfkaaDoor

import Derived.Test.YtpdfdhkdfkhfkaaDoorGrJ
set_option maxRecDepth 100000
set_option maxHeartbeats 8000000
namespace Go.Proofs.YtpdfdhkdfkhfkaaDoor
open Go.ChangeShapes Go.WideShapes Go.ChangeAt Go.RowKit
set_option linter.unusedVariables false
set_option linter.unusedSimpArgs false
def cntI (n:Int):Int:=if n<0 then 0 else if 2147483648<n then 2147483648 else n
theorem cntI_bd (n:Int):0<=cntI n/\cntI n<=2147483648:=by
 unfold cntI;by_cases h:n<0
 ·rw[if_pos h];omega
 ·rw[if_neg h];by_cases h2:2147483648<n
  ·rw[if_pos h2];omega
  ·rw[if_neg h2];omega
def bdL (f:Int):Nat->Int->Int
 | 0,b=>b
 | k+1,b=>if 4611686018427387904<b*f then 4611686018427387904 else bdL f k (b*f)
def rnI (rounds:Int):Nat:=if 4<cntI rounds then 4 else (cntI rounds).toNat
def bdA (words rounds vertices:Int):Int:=bdL (1+cntI vertices) (rnI rounds) (cntI words)
theorem rnI_bd (r:Int):rnI r<=4:=by
 have:=cntI_bd r
 unfold rnI;by_cases h:4<cntI r
 ·rw[if_pos h];omega
 ·rw[if_neg h];omega
theorem bd_test {b f:Int}(hf:1<=f):(4611686018427387904:Int) / f<b ↔ 4611686018427387904<b*f:=Int.ediv_lt_iff_lt_mul (by omega)
theorem counted_c (n:Int)(w:World):Calls Tryd.prog 26 #[.int .i64 n] w fun e w'=>e=.returned (.int .i64 (cntI n))/\w'=w:=by
 have HE:∀ x:Int,x=cntI n->Ending.returned (.int .i64 x)=.returned (.int .i64 (cntI n)):=fun x h=>by rw[h]
 have HB:Hid (cntI n=if n<0 then 0 else if 2147483648<n then 2147483648 else n):=rfl;by_cases h:n<0
 ·rw[if_pos h] at HB;go_enter Tryd.func26,Tryd.ntmps26;go_wp2;go_ret;exact⟨HE _ (by rw[HB.out]),rfl⟩
 ·rw[if_neg h] at HB;by_cases h2:2147483648<n
  ·rw[if_pos h2] at HB;go_enter Tryd.func26,Tryd.ntmps26;go_wp2;go_ret;exact⟨HE _ (by rw[HB.out]),rfl⟩
  ·rw[if_neg h2] at HB;go_enter Tryd.func26,Tryd.ntmps26;go_wp2;go_ret;exact⟨HE _ (by rw[HB.out]),rfl⟩
theorem bound_c (x r v:Int)(w:World):Calls Tryd.prog 14 #[.int .i64 x,.int .i64 r,.int .i64 v] w fun e w'=>e=.returned (.int .i64 (bdA x r v))/\w'=w:=by
 have C1:=fun wx=>counted_c x wx;have C2:=fun wx=>counted_c r wx;have C3:=fun wx=>counted_c v wx;have b1:=cntI_bd x;have b2:=cntI_bd r;have b3:=cntI_bd v;obtain⟨R,hR⟩:∃R,R=bdA x r v:=⟨_,rfl⟩
 rw[<-hR];unfold bdA at hR;have HN:Hid ((rnI r:Int)=if 4<cntI r then 4 else cntI r):=by
  show _=_;unfold rnI;by_cases h:4<cntI r
  ·rw[if_pos h,if_pos h];rfl
  ·rw[if_neg h,if_neg h];omega
 have hn4:=rnI_bd r;have HR:=Lib.hid hR;clear hR;generalize rnI r=n at *;generalize cntI x=b0 at *;generalize cntI r=cr at *;generalize hcv:cntI v=cv at *;clear hcv;have hn:∃n':Nat,n'=n:=⟨_,rfl⟩
 have HNN:Hid ((4<cr->(n:Int)=4)/\(¬4<cr->(n:Int)=cr)):=⟨fun h=>by rw[HN.out,if_pos h],fun h=>by rw[HN.out,if_neg h]⟩
 clear hn HN;have hff:(1:Int)<=1+cv:=by omega
 obtain⟨F,hF⟩:∃F:Int,F=1+cv:=⟨_,rfl⟩
 rw[<-hF] at HR hff;have hF2:F<=2147483649:=by omega
 have HF:=Lib.hid hF;clear hF;have key:∀ (wr:World),True:=fun _=>trivial;by_cases h4:4<cr
 ·have hnI:=HNN.out.1 h4;obtain rfl:n=4:=by omega
  clear hnI HNN hn4;go_enter Tryd.func14,Tryd.ntmps14;go_wp2_with (first|(go_at_call 26;refine(C1 _).mono ?_;rintro e wz ⟨rfl,hz⟩;subst hz;clear C1)|(go_at_call 26;refine(C3 _).mono ?_;rintro e wz ⟨rfl,hz⟩;subst hz;clear C3)|(go_at_call 26;refine(C2 _).mono ?_;rintro e wz ⟨rfl,hz⟩;subst hz;clear C2));try rw[<-HF.out]
  go_loopw [7,17] (fun v7 v17 wr=>∃(k:Nat) (b:Int),v17=.int .i64 (k:Nat)/\k<=4/\v7=.int .i64 b/\0<=b/\b<=4611686018427387904/\Hid (bdL F (4-k) b=R)/\wr=wz) (fun _ v _=>4-(intOf v).toNat)
  case atStart=>exact⟨0,b0,by go_num,by omega,rfl,by omega,by omega,HR.out.symm,rfl⟩
  case round =>
   obtain⟨k,b,rfl,hk,rfl,hb0,hb1,HB,rfl⟩:=hrel;clear b1 b2 b3;by_cases hlt:k<4
   ·have hkI:(k:Int)<4:=by omega
    obtain⟨j,hj⟩:∃j,4-k=j+1:=⟨4-k-1,by omega⟩
    have HB2:=HB.out;rw[hj,bdL] at HB2;obtain⟨Q,hQ⟩:∃Q,(4611686018427387904:Int) / F=Q:=⟨_,rfl⟩
    have hQ2:(4611686018427387904:Int).tdiv F=Q:=by rw[Int.tdiv_eq_ediv_of_nonneg (by omega)];exact hQ
    have htest:=bd_test (b:=b) hff;rw[hQ] at htest;have hQ0:0<=Q/\Q<=4611686018427387904:=by
     rw[<-hQ];exact⟨Int.ediv_nonneg (by omega) (by omega),Int.ediv_le_self _ (by omega)⟩
    have hP0:0<=b*F:=Int.mul_nonneg hb0 (by omega);obtain⟨P,hP⟩:∃P,b*F=P:=⟨_,rfl⟩
    rw[hP] at HB2 htest hP0;have hF0:¬F=0:=by omega
    by_cases ht:4611686018427387904<P
    ·rw[if_pos ht] at HB2;have htI:Q<b:=htest.2 ht;have HY:=Lib.hid HB2;clear htest HB HB2 hj ht hP;go_wp2;go_ret;exact⟨by rw[<-HY.out];rfl,rfl⟩
    ·rw[if_neg ht] at HB2;have htI:¬Q<b:=fun h=>ht (htest.1 h);have HY:Hid (bdL F (4-(k+1)) P=R):=by
      show _=_;rw[show 4-(k+1)=j by omega];exact HB2
     have hP1:P<=4611686018427387904:=by omega
     clear htest HB HB2 hj ht;go_wp2;go_roundw
     case rel=>(try ((repeat apply Exists.intro);refine⟨?_,rfl⟩));exact⟨k+1,P,by go_num,by omega,rfl,hP0,hP1,HY,by trivial⟩
     case measure=>simp[intOf];omega
   ·have hkI:¬(k:Int)<4:=by omega
    have hz:4-k=0:=by omega
    have HB2:=HB.out;rw[hz,bdL] at HB2;have HY:=Lib.hid HB2;clear HB HB2 hz;go_wp2;go_ret;exact⟨by rw[<-HY.out];rfl,rfl⟩
 ·have hnI:=HNN.out.2 h4;subst hnI;clear HNN;go_enter Tryd.func14,Tryd.ntmps14;go_wp2_with (first|(go_at_call 26;refine(C1 _).mono ?_;rintro e wz ⟨rfl,hz⟩;subst hz;clear C1)|(go_at_call 26;refine(C3 _).mono ?_;rintro e wz ⟨rfl,hz⟩;subst hz;clear C3)|(go_at_call 26;refine(C2 _).mono ?_;rintro e wz ⟨rfl,hz⟩;subst hz;clear C2));try rw[<-HF.out]
  go_loopw [7,17] (fun v7 v17 wr=>∃(k:Nat) (b:Int),v17=.int .i64 (k:Nat)/\k<=n/\v7=.int .i64 b/\0<=b/\b<=4611686018427387904/\Hid (bdL F (n-k) b=R)/\wr=wz) (fun _ v _=>n-(intOf v).toNat)
  case atStart=>exact⟨0,b0,by go_num,by omega,rfl,by omega,by omega,HR.out.symm,rfl⟩
  case round =>
   obtain⟨k,b,rfl,hk,rfl,hb0,hb1,HB,rfl⟩:=hrel;clear b1 b2 b3;by_cases hlt:k<n
   ·have hkI:(k:Int)<(n:Int):=by omega
    obtain⟨j,hj⟩:∃j,n-k=j+1:=⟨n-k-1,by omega⟩
    have HB2:=HB.out;rw[hj,bdL] at HB2;obtain⟨Q,hQ⟩:∃Q,(4611686018427387904:Int) / F=Q:=⟨_,rfl⟩
    have hQ2:(4611686018427387904:Int).tdiv F=Q:=by rw[Int.tdiv_eq_ediv_of_nonneg (by omega)];exact hQ
    have htest:=bd_test (b:=b) hff;rw[hQ] at htest;have hQ0:0<=Q/\Q<=4611686018427387904:=by
     rw[<-hQ];exact⟨Int.ediv_nonneg (by omega) (by omega),Int.ediv_le_self _ (by omega)⟩
    have hP0:0<=b*F:=Int.mul_nonneg hb0 (by omega);obtain⟨P,hP⟩:∃P,b*F=P:=⟨_,rfl⟩
    rw[hP] at HB2 htest hP0;have hF0:¬F=0:=by omega
    by_cases ht:4611686018427387904<P
    ·rw[if_pos ht] at HB2;have htI:Q<b:=htest.2 ht;have HY:=Lib.hid HB2;clear htest HB HB2 hj ht hP;go_wp2;go_ret;exact⟨by rw[<-HY.out];rfl,rfl⟩
    ·rw[if_neg ht] at HB2;have htI:¬Q<b:=fun h=>ht (htest.1 h);have HY:Hid (bdL F (n-(k+1)) P=R):=by
      show _=_;rw[show n-(k+1)=j by omega];exact HB2
     have hP1:P<=4611686018427387904:=by omega
     clear htest HB HB2 hj ht;go_wp2;go_roundw
     case rel=>(try ((repeat apply Exists.intro);refine⟨?_,rfl⟩));exact⟨k+1,P,by go_num,by omega,rfl,hP0,hP1,HY,by trivial⟩
     case measure=>simp[intOf];omega
   ·have hkI:¬(k:Int)<(n:Int):=by omega
    have hz:n-k=0:=by omega
    have HB2:=HB.out;rw[hz,bdL] at HB2;have HY:=Lib.hid HB2;clear HB HB2 hz;go_wp2;go_ret;exact⟨by rw[<-HY.out];rfl,rfl⟩
def pk (c n:Int):Int:=(if c<0 then -(c+1) else c) % n
theorem pk_bd (c n:Int)(h:0<n):0<=pk c n/\pk c n<n:=⟨Int.emod_nonneg _ (by omega),Int.emod_lt_of_pos _ h⟩
theorem pick_c (c n:Int)(w:World)(h1:-9223372036854775808<=c)(h2:c<=9223372036854775807)(h3:0<n)(h4:n<=9223372036854775807) :
  Calls Tryd.prog 24 #[.int .i64 c,.int .i64 n] w fun e w'=>e=.returned (.int .i64 (pk c n))/\w'=w:=by
 by_cases h0:c<0
 ·have e:pk c n=(-(c+1)) % n:=by simp[pk,h0]
  have E:Hid ((-(c+1)).tmod n=pk c n):=by
   show _=_;rw[e,Int.tmod_eq_emod_of_nonneg (by omega)]
  have E2:Hid (-((c+1).tmod n)=pk c n):=by
   show _=_;rw[<-Int.neg_tmod];exact E.out
  have bd:=pk_bd c n h3;clear e;have hn0:¬n=0:=by omega
  go_enter Tryd.func24,Tryd.ntmps24;go_wp2;go_ret;exact⟨by first|exact ret_int E2.out|exact ret_int E.out,rfl⟩
 ·have e:pk c n=c % n:=by simp[pk,h0]
  have E:Hid (c.tmod n=pk c n):=by
   show _=_;rw[e,Int.tmod_eq_emod_of_nonneg (by omega)]
  have E2:Hid (c % n=pk c n):=e.symm;have bd:=pk_bd c n h3;clear e;have hn0:¬n=0:=by omega
  go_enter Tryd.func24,Tryd.ntmps24;go_wp2;go_ret;exact⟨by first|exact ret_int E2.out|exact ret_int E.out,rfl⟩
structure Rw where
 o:Int
 a:Int
 b:Int
structure Rw.Ok (r:Rw):Prop where
 o1:-9223372036854775808<=r.o
 o2:r.o<=9223372036854775807
 a1:-9223372036854775808<=r.a
 a2:r.a<=9223372036854775807
 b1:-9223372036854775808<=r.b
 b2:r.b<=9223372036854775807
def wdN (r:Rw):Int:=(pk r.o 28*268435456+pk r.a 12)*268435456+pk r.b 12
theorem wdN_bd (r:Rw):0<=wdN r/\wdN r<18446744073709551616:=by
 have h1:=pk_bd r.o 28 (by omega);have h2:=pk_bd r.a 12 (by omega);have h3:=pk_bd r.b 12 (by omega);unfold wdN;omega
def RawW (w:World)(ao:Option Addr)(l:List Rw):Prop :=
 l=[]\/∃b off,ao=some ⟨b,off,none⟩/\b<w.heap.size/\∀ k (h:k<l.length),w.cell? ⟨b,off+k*3,none⟩=some (.int .i64 (l[k]).o)/\w.cell? ⟨b,off+k*3+1,none⟩=some (.int .i64 (l[k]).a)/\w.cell? ⟨b,off+k*3+2,none⟩=some (.int .i64 (l[k]).b)
theorem RawW.below {w w':World}{ao:Option Addr}{l:List Rw}(h:RawW w ao l)(B:Below w.heap.size w w'):RawW w' ao l:=by
 rcases h with h|⟨b,off,rfl,hlt,hc⟩
 ·exact .inl h
 ·exact .inr ⟨b,off,rfl,Nat.lt_of_lt_of_le hlt B.size,fun k hk=>⟨(B.cell (p:=⟨b,off+k*3,none⟩) hlt).trans (hc k hk).1,(B.cell (p:=⟨b,off+k*3+1,none⟩) hlt).trans (hc k hk).2.1,(B.cell (p:=⟨b,off+k*3+2,none⟩) hlt).trans (hc k hk).2.2⟩⟩
def MkOut (w:World)(l:List Rw)(vc vn vk:Value)(z:Ending)(w':World):Prop :=
 ∃aw cw,z=.returned (.agg #[.slice aw l.length cw,vc,vn,vk])/\Lsv w' aw (wsV (l.map wdN))/\Below w.heap.size w w'
theorem taken_snoc (l:List Rw)(k:Nat)(h:k<l.length):wsV ((l.take (k+1)).map wdN)=wsV ((l.take k).map wdN)++[.int .u64 (wdN l[k])]:=by
 rw[List.take_succ_eq_append_getElem h];simp only[wsV,List.map_append,List.map_cons,List.map_nil]
theorem mk_c (w:World)(ao:Option Addr)(cap:Nat)(l:List Rw)(vc vn vk:Value)(hR:RawW w ao l)(hok:∀ r ∈ l,r.Ok)(hl:l.length<=17592186044416)
  (o1c:∃a n c,vc=.slice a n c) (o2c:∃a n c,vn=.slice a n c) (o3c:∃a n c,vk=.slice a n c) :
  Calls Tryd.prog 13 #[.slice ao l.length cap,vc,vn,vk,.bool true] w (MkOut w l vc vn vk):=by
 obtain⟨x1,y1,z1,rfl⟩:=o1c;obtain⟨x2,y2,z2,rfl⟩:=o2c;obtain⟨x3,y3,z3,rfl⟩:=o3c;obtain⟨ii,hii,hz0,hz1,hz2⟩:=info_parts infoW;obtain⟨g,hg⟩:∃g,g=w.heap.size:=⟨_,rfl⟩
 obtain⟨w2,hw2⟩:∃w2,w2=(w.alloc (.cells nil4 26)).alloc (.cells #[.slice none 0 0,.slice x1 y1 z1,.slice x2 y2 z2,.slice x3 y3 z3] 26):=⟨_,rfl⟩
 have B1:Below g w w2:=by rw[hw2,hg];exact((Below.refl _ w).alloc (Nat.le_refl _) _).alloc (by simp) _
 have sz2:w2.heap.size=g+2:=by rw[hw2,hg];simp
 obtain⟨o,ho⟩:∃o:Nat->Nat,o=fun k=>if k<g then 0 else 9:=⟨_,rfl⟩
 have hol:∀ k,k<g->o k=0:=fun k hk=>by rw[ho];simp[hk]
 have G0:Blk w2 o 9 g (.cells nil4 26):=by
  refine⟨?_,by rw[ho];simp⟩;rw[hw2,hg];exact(Below.heap_alloc _ _ _ (by simp)).trans (heap_alloc_new _ _)
 have G1:Blk w2 o 9 (g+1) (.cells #[.slice none 0 0,.slice x1 y1 z1,.slice x2 y2 z2,.slice x3 y3 z3] 26):=by
  refine⟨?_,by rw[ho];simp⟩
  have:=heap_alloc_new (w.alloc (.cells nil4 26)) (.cells #[.slice none 0 0,.slice x1 y1 z1,.slice x2 y2 z2,.slice x3 y3 z3] 26)
  rw[hw2,hg];simpa using this
 have HG:=Lib.hid hg;have R2:RawW w2 ao l:=hR.below (by rw[<-hg];exact B1);have hlo:∀ b off,l≠[]->ao=some ⟨b,off,none⟩->o b=0:=fun b off hx e=>by
  rcases hR with h|⟨b',off',e',hlt,_⟩
  ·exact absurd h hx
  ·rw[e'] at e;cases e;exact hol _ (by rw[hg];exact hlt)
 clear hg ho hR;go_enter Tryd.func13,Tryd.ntmps13;go_wp2_with fail;rw[<-hw2,<-HG.out];clear hw2;go_loopw [12] (fun v wr=>∃(k:Nat) (o3:Nat->Nat) (av:Option Addr) (cv:Nat),v=.int .i64 (k:Nat)/\k<=l.length/\Blk wr o3 9 (g+1) (.cells #[.slice av k cv,.slice x1 y1 z1,.slice x2 y2 z2,.slice x3 y3 z3] 26)/\Row wr o3 3 53 1 (.slice av k cv) k (wsV ((l.take k).map wdN))/\Blk wr o3 9 g (.cells nil4 26)/\Step (fun k=>k=3\/k=9) w2 o wr o3) (fun v _=>l.length-(intOf v).toNat)
 case atStart=>exact⟨0,o,none,0,by go_num,by omega,G1,Row.nil _ _ _ _ _,G0,Step.refl _ _ _⟩
 case round =>
  obtain⟨k,o3,av,cv,rfl,hk,K3,R3,Z3,S3⟩:=hrel;clear G0 G1;by_cases hlt:k<l.length
  ·have hkI:(k:Int)<(l.length:Int):=by omega
   have hok1:=hok _ (List.getElem_mem hlt);have hne:l≠[]:=fun h=>by subst h;simp at hlt
   have hRr:∃b off,ao=some ⟨b,off,none⟩/\wr.cell? ⟨b,off+k*3,none⟩=some (.int .i64 (l[k]).o)/\wr.cell? ⟨b,off+k*3+1,none⟩=some (.int .i64 (l[k]).a)/\wr.cell? ⟨b,off+k*3+2,none⟩=some (.int .i64 (l[k]).b):=by
    rcases R2 with h|⟨b,off,e,hb,hc⟩
    ·exact absurd h hne
    ·have hl0:=hlo b off hne e;have hbk:∀ q,wr.cell? ⟨b,q,none⟩=w2.cell? ⟨b,q,none⟩:=fun q=>World.cell?_of_block (a:=⟨b,q,none⟩) (S3.block b hb (by rw[hl0];decide));exact⟨b,off,e,(hbk _).trans (hc k hlt).1,(hbk _).trans (hc k hlt).2.1,(hbk _).trans (hc k hlt).2.2⟩
   obtain⟨b,off,hao,q0,q1,q2⟩:=hRr;have HT:=Lib.hid (taken_snoc l k hlt);have hwd:wdN l[k]=(pk (l[k]).o 28*268435456+pk (l[k]).a 12)*268435456+pk (l[k]).b 12:=rfl;generalize l[k]=r at *;obtain⟨ro,ra,rb⟩:=r;simp only at hwd q0 q1 q2;have e1:=hok1.o1;have e2:=hok1.o2;have e3:=hok1.a1;have e4:=hok1.a2;have e5:=hok1.b1;have e6:=hok1.b2;simp only at e1 e2 e3 e4 e5 e6;obtain⟨⟨c0,c1,c2,c3⟩,cf⟩:=cells4 K3.1;have p1:=pk_bd ro 28 (by omega);have p2:=pk_bd ra 12 (by omega);have p3:=pk_bd rb 12 (by omega);have WW:=fun w=>rword_yes (pk ro 28) (pk ra 12) (pk rb 12) w p1.1 (by omega) p2.1 (by omega) p3.1 (by omega);rw[<-hwd] at WW;have PA:=fun w=>pick_c ro 256 w e1 e2 (by omega) (by omega);have PB:=fun w=>pick_c ra 268435456 w e3 e4 (by omega) (by omega);have PC:=fun w=>pick_c rb 268435456 w e5 e6 (by omega) (by omega);have PD:=fun w=>pick_c ro 28 w e1 e2 (by omega) (by omega);have PE:=fun w=>pick_c ra 12 w e3 e4 (by omega) (by omega);have PF:=fun w=>pick_c rb 12 w e5 e6 (by omega) (by omega);clear hwd hok1;generalize wdN ⟨ro,ra,rb⟩=wd at *;generalize pk ro 28=d1 at *;generalize pk ra 12=d2 at *;generalize pk rb 12=d3 at *;generalize pk ro 256=d4 at *;generalize pk ra 268435456=d5 at *;generalize pk rb 268435456=d6 at *;rw[hao];go_wp2_with fail;refine(PA _).mono ?_;rintro e wz ⟨rfl,hz⟩;subst hz;clear PA;go_wp2_with fail;refine(PB _).mono ?_;rintro e wz ⟨rfl,hz⟩;subst hz;clear PB;go_wp2_with fail;refine(PC _).mono ?_;rintro e wz ⟨rfl,hz⟩;subst hz;clear PC;go_wp2_with fail;refine(PD _).mono ?_;rintro e wz ⟨rfl,hz⟩;subst hz;clear PD;go_wp2_with fail;refine(PE _).mono ?_;rintro e wz ⟨rfl,hz⟩;subst hz;clear PE;go_wp2_with fail;refine(PF _).mono ?_;rintro e wz ⟨rfl,hz⟩;subst hz;clear PF;go_wp2_with fail;refine(WW _).mono ?_;rintro e wz ⟨rfl,hz⟩;subst hz;clear WW;go_wp2_with (first|(at_builtin;refine wpList_append_lab rfl _ _ 22 rfl 53 ii (.int .u64 0) 1 8 Tryd.underlying22 hii hz0 hz1 hz2 rfl (by decide) o3 3 _ k (wsV ((l.take k).map wdN)) rfl (R3.step (Step.ofBelow (I:=fun _=>False) o3 (b1 _ _)) (fun h=>h)) ⟨wz.heap.size,0,none⟩ 1 1 [.int .u64 wd] rfl rfl ?c1 ?c2 (by decide) ?c4 ?c5 ?_)|go_in)
   case c1=>exact new_one _ _ _
   case c2=>exact one_one _ rfl
   case c4=>unfold maxLen;omega
   case c5=>omega
   intro g5 cap5 w5 o5 R5 S5;have SA:∀ {I:Nat->Prop},Step I wz o3 (wz.alloc (.cells #[.int .u64 wd] 53)) o3:=fun {I}=>Step.ofBelow o3 (b1 _ _);have KA:=(K3.step (SA (I:=fun _=>False)) (fun h=>h)).step S5 (by decide);have ZA:=(Z3.step (SA (I:=fun _=>False)) (fun h=>h)).step S5 (by decide);obtain⟨⟨f0,f1,f2,f3⟩,ff⟩:=cells4 KA.1;have ff0:=ff 0;have SC:∀ {I:Nat->Prop},I 9->Step I w5 o5 (w5.setCell ⟨g+1,0,none⟩ (.slice (some ⟨g5,0,none⟩) (k+1) cap5)) o5:=fun {I} h9=>(Step.refl I w5 o5).setCell ⟨g+1,0,none⟩ _ (by rw[KA.2];exact h9);have KN:Blk (w5.setCell ⟨g+1,0,none⟩ (.slice (some ⟨g5,0,none⟩) (k+1) cap5)) o5 9 (g+1) (.cells #[.slice (some ⟨g5,0,none⟩) (k+1) cap5,.slice x1 y1 z1,.slice x2 y2 z2,.slice x3 y3 z3] 26):=⟨heap_setCell_same _ _ 0 _ _ _ KA.1,KA.2⟩
   have ZN:Blk (w5.setCell ⟨g+1,0,none⟩ (.slice (some ⟨g5,0,none⟩) (k+1) cap5)) o5 9 g (.cells nil4 26):=⟨(heap_setCell_other _ _ _ _ (by show g≠g+1;omega)).trans ZA.1,ZA.2⟩
   have RN:Row (w5.setCell ⟨g+1,0,none⟩ (.slice (some ⟨g5,0,none⟩) (k+1) cap5)) o5 3 53 1 (.slice (some ⟨g5,0,none⟩) (k+1) cap5) (k+1) (wsV ((l.take (k+1)).map wdN)):=by
    rw[HT.out]
    first|exact R5.step (SC (I:=fun k=>k=9) rfl) (by decide)|(rw[List.map_take];exact R5.step (SC (I:=fun k=>k=9) rfl) (by decide))
   have SN:Step (fun k=>k=3\/k=9) w2 o (w5.setCell ⟨g+1,0,none⟩ (.slice (some ⟨g5,0,none⟩) (k+1) cap5)) o5:=((S3.trans SA).trans (S5.mono (fun k hk=>Or.inl hk))).trans (SC (Or.inr rfl));have HH:Hid (Blk (w5.setCell ⟨g+1,0,none⟩ (.slice (some ⟨g5,0,none⟩) (k+1) cap5)) o5 9 (g+1) (.cells #[.slice (some ⟨g5,0,none⟩) (k+1) cap5,.slice x1 y1 z1,.slice x2 y2 z2,.slice x3 y3 z3] 26)/\Row (w5.setCell ⟨g+1,0,none⟩ (.slice (some ⟨g5,0,none⟩) (k+1) cap5)) o5 3 53 1 (.slice (some ⟨g5,0,none⟩) (k+1) cap5) (k+1) (wsV ((l.take (k+1)).map wdN))/\Blk (w5.setCell ⟨g+1,0,none⟩ (.slice (some ⟨g5,0,none⟩) (k+1) cap5)) o5 9 g (.cells nil4 26)/\Step (fun k=>k=3\/k=9) w2 o (w5.setCell ⟨g+1,0,none⟩ (.slice (some ⟨g5,0,none⟩) (k+1) cap5)) o5):=⟨KN,RN,ZN,SN⟩
   clear KN RN ZN SN SC KA ZA SA R5 S5 K3 R3 Z3 S3 HT ff;go_wp2;go_roundw
   case rel=>(try ((repeat apply Exists.intro);refine⟨?_,rfl⟩));exact⟨k+1,o5,_,_,by go_num,by omega,HH.out.1,HH.out.2.1,HH.out.2.2.1,HH.out.2.2.2⟩
   case measure=>simp[intOf];omega
  ·have hkI:¬(k:Int)<(l.length:Int):=by omega
   obtain rfl:k=l.length:=by omega
   rw[List.take_length] at R3;obtain⟨⟨c0,c1,c2,c3⟩,-⟩:=cells4 K3.1;obtain⟨⟨f0,f1,f2,f3⟩,ff⟩:=cells4 Z3.1;have ff0:=ff 0;have ff1:=ff 1;have ff2:=ff 2;have ff3:=ff 3;have ZE:=set4c (.slice av l.length cv) (.slice x1 y1 z1) (.slice x2 y2 z2) (.slice x3 y3 z3) Z3.1;have h9:∀ {I:Nat->Prop},I 9->I (o3 g):=fun {I} h=>by rw[Z3.2];exact h
   have SE:∀ {I:Nat->Prop},I 9->Step I wr o3 ((((wr.setCell ⟨g,0,none⟩ (.slice av l.length cv)).setCell ⟨g,1,none⟩ (.slice x1 y1 z1)).setCell ⟨g,2,none⟩ (.slice x2 y2 z2)).setCell ⟨g,3,none⟩ (.slice x3 y3 z3)) o3:=fun {I} h=>((((Step.refl I wr o3).setCell ⟨g,0,none⟩ _ (h9 h)).setCell ⟨g,1,none⟩ _ (h9 h)).setCell ⟨g,2,none⟩ _ (h9 h)).setCell ⟨g,3,none⟩ _ (h9 h);have RE:=(R3.step (SE (I:=fun k=>k=9) rfl) (by decide)).lsv;have BE:Below g w ((((wr.setCell ⟨g,0,none⟩ (.slice av l.length cv)).setCell ⟨g,1,none⟩ (.slice x1 y1 z1)).setCell ⟨g,2,none⟩ (.slice x2 y2 z2)).setCell ⟨g,3,none⟩ (.slice x3 y3 z3)):=B1.trans (Below.mono (⟨(S3.trans (SE (Or.inr rfl))).os,(S3.trans (SE (Or.inr rfl))).tape,(S3.trans (SE (Or.inr rfl))).output,(S3.trans (SE (Or.inr rfl))).size,fun k hk=>(S3.trans (SE (Or.inr rfl))).block k (by omega) (by rw[hol k hk];decide)⟩) (Nat.le_refl _));obtain⟨⟨u0,u1,u2,u3⟩,-⟩:=cells4 ZE;have HRE:=Lib.hid RE;have HBE:=Lib.hid BE;clear ZE SE RE BE R3 K3 Z3 S3 R2 ff;go_wp2;exact bodyPost_ret (v:=.agg #[.slice av l.length cv,.slice x1 y1 z1,.slice x2 y2 z2,.slice x3 y3 z3]) (by simp[results,Tryd.results13,go_sem,u0,u1,u2,u3]) rfl ⟨_,_,rfl,HRE.out,by rw[<-HG.out];exact HBE.out⟩
end Go.Proofs.YtpdfdhkdfkhfkaaDoor

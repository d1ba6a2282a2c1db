import Derived.Test.YtbjdkekhnajafaaGreatDoorEmF
set_option maxRecDepth 100000
set_option maxHeartbeats 8000000
namespace Go.Proofs.YtbjdkekhnajafaaGreatDoor
open Go.ChangeShapes Go.WideShapes Go.ChangeAt Go.RowKit
set_option linter.unusedVariables false
set_option linter.unusedSimpArgs false
theorem callKind_c (n:Int)(w:World):Calls Tryz.prog 146 #[.int .i64 n] w fun e w'=>e=.returned (.int .i64 (cakN n))/\w'=w:=by
 by_cases h1:n=1
 ·subst h1;go_enter Tryz.func146,Tryz.ntmps146;go_wp2;go_ret;exact⟨rfl,rfl⟩
 ·by_cases h2:n=2
  ·subst h2;go_enter Tryz.func146,Tryz.ntmps146;go_wp2;go_ret;exact⟨rfl,rfl⟩
  ·by_cases h3:n=10
   ·subst h3;go_enter Tryz.func146,Tryz.ntmps146;go_wp2;go_ret;exact⟨rfl,rfl⟩
   ·have e:cakN n=1:=by simp[cakN,h1,h2,h3]
    rw[e];go_enter Tryz.func146,Tryz.ntmps146;go_wp2;go_ret;exact⟨rfl,rfl⟩
theorem quantKind_c (n:Int)(w:World):Calls Tryz.prog 147 #[.int .i64 n] w fun e w'=>e=.returned (.int .i64 (qukN n))/\w'=w:=by
 by_cases h1:n=1
 ·subst h1;go_enter Tryz.func147,Tryz.ntmps147;go_wp2;go_ret;exact⟨rfl,rfl⟩
 ·by_cases h2:n=2
  ·subst h2;go_enter Tryz.func147,Tryz.ntmps147;go_wp2;go_ret;exact⟨rfl,rfl⟩
  ·have e:qukN n=1:=by simp[qukN,h1,h2]
   rw[e];go_enter Tryz.func147,Tryz.ntmps147;go_wp2;go_ret;exact⟨rfl,rfl⟩
theorem len_one {f:Fs}(h:f.len=1):∃x,f=Fs.ex x .nil:=by
 cases f using Fs.on with
 | nil=>simp[Fs.len] at h
 | cons k n nm a ks r =>
  cases r using Fs.on with
  | nil=>exact⟨⟨k,n,nm,a,ks⟩,rfl⟩
  | cons=>simp[Fs.len] at h
theorem len_two {f:Fs}(h:f.len=2):∃x y,f=Fs.ex x (Fs.ex y .nil):=by
 cases f using Fs.on with
 | nil=>simp[Fs.len] at h
 | cons k n nm a ks r =>
  obtain⟨y,rfl⟩:=len_one (f:=r) (by simp[Fs.len] at h;exact h);exact⟨⟨k,n,nm,a,ks⟩,y,rfl⟩
theorem len_three {f:Fs}(h:f.len=3):∃x y z,f=Fs.ex x (Fs.ex y (Fs.ex z .nil)):=by
 cases f using Fs.on with
 | nil=>simp[Fs.len] at h
 | cons k n nm a ks r =>
  obtain⟨y,z,rfl⟩:=len_two (f:=r) (by simp[Fs.len] at h;exact h);exact⟨⟨k,n,nm,a,ks⟩,y,z,rfl⟩
theorem doc_len {k n:Int}{nm:List UInt8}{len:Nat}(h:docF k n nm len=true):(k=19->len=3)/\(k=26->len=1)/\(8<=k->k<=18->len=2)/\(k=21->len=2/\1<=n/\n<=6)/\(k=20->1<=n/\n<=10)/\(k=5\/k=3->0<=n)/\(k=22\/k=23->len=0)/\(k=1\/k=2\/k=3\/k=5->len=0):=by
 unfold docF at h;refine⟨fun e=>?_,fun e=>?_,fun e1 e2=>?_,fun e=>?_,fun e=>?_,fun e=>?_,fun e=>?_,fun e=>?_⟩
 ·subst e;simp at h;omega
 ·subst e;simp at h;omega
 ·rw[if_neg (by omega),if_neg (by omega),if_neg (by omega),if_neg (by omega),if_pos (by omega)] at h;simp at h;omega
 ·subst e;simp at h;omega
 ·subst e;simp at h;omega
 ·rcases e with rfl|rfl<;>simp at h<;>omega
 ·rcases e with rfl|rfl<;>simp at h<;>omega
 ·rcases e with rfl|rfl|rfl|rfl<;>simp at h<;>omega
theorem ekid0 {P:Nat->Prop}{w:World}{y:Ex}{r:Fs}{ao:Option Addr}(h:SlN w P (Fs.ex y r) ao):∃b off ak ck,ao=some ⟨b,off,none⟩/\w.cell? ⟨b,off,none⟩=some (.int .i64 y.k)/\w.cell? ⟨b,off+1,none⟩=some (.int .i64 y.n)/\w.cell? ⟨b,off+2,none⟩=some (stv y.nm)/\w.cell? ⟨b,off+3,none⟩=some (.slice ak y.kids.len ck)/\SlN w P y.kids ak:=by
 obtain⟨b,off,ak,ck,h1,h2,h3,h4,h5,h6⟩:=SlN.kidP (x:=.nil) (r:=r) (y:=y) h 0 rfl;exact⟨b,off,ak,ck,h1,h2,h3,h4,h5,h6⟩
theorem ekid1 {P:Nat->Prop}{w:World}{x y:Ex}{r:Fs}{ao:Option Addr}(h:SlN w P (Fs.ex x (Fs.ex y r)) ao):∃b off ak ck,ao=some ⟨b,off,none⟩/\w.cell? ⟨b,off+4,none⟩=some (.int .i64 y.k)/\w.cell? ⟨b,off+5,none⟩=some (.int .i64 y.n)/\w.cell? ⟨b,off+6,none⟩=some (stv y.nm)/\w.cell? ⟨b,off+7,none⟩=some (.slice ak y.kids.len ck)/\SlN w P y.kids ak:=by
 obtain⟨b,off,ak,ck,h1,h2,h3,h4,h5,h6⟩:=SlN.kidP (x:=one x) (r:=r) (y:=y) h 1 rfl;exact⟨b,off,ak,ck,h1,h2,h3,h4,h5,h6⟩
theorem cells4e {w:World}{b:Nat}{x0 x1 x2 x3:Value}{t:TypeId}(h:w.heap[b]?=some (.cells #[x0,x1,x2,x3] t)):(w.cell? ⟨b,0,none⟩=some x0/\w.cell? ⟨b,1,none⟩=some x1/\w.cell? ⟨b,2,none⟩=some x2/\w.cell? ⟨b,3,none⟩=some x3)/\∀ j,w.frozen? ⟨b,j,none⟩=false:=by
 refine⟨⟨?_,?_,?_,?_⟩,fun j=>?_⟩<;>simp[World.cell?,World.frozen?,h]
theorem okF_ex {nc:Nat}{x:Ex}{r:Fs}(h:okF nc (Fs.ex x r)):okE nc x/\okF nc r:=⟨⟨h.1,h.2.1⟩,h.2.2⟩
theorem esize_ex (x:Ex)(r:Fs):(Fs.ex x r).size=x.kids.size+r.size+1:=rfl
theorem kdF_ex (x:Ex)(r:Fs):kdF (Fs.ex x r)=kdE x::kdF r:=rfl
theorem kindOf_c (nc N:Nat):∀ (e:Ex) (ao:Option Addr) (cap:Nat) (w:World),e.kids.size<N->okE nc e->SnA w e.kids ao ->
  Calls Tryz.prog 87 #[exN e ao cap] w fun r w'=>r=.returned (.int .i64 (kdE e))/\Below w.heap.size w w':=by
 induction N with
 | zero=>intro e ao cap w hs;omega
 | succ N ih =>
  intro e ao cap w hs ho S;obtain⟨k,n,nm,a,ks⟩:=e;obtain⟨⟨hd,-,-⟩,hk⟩:=ho;simp only at hs hd hk S;rw[exN_out];simp only;have hdl:=doc_len hd;by_cases h19:k=19
  ·subst h19;have hlen:ks.len=3:=hdl.1 rfl;rw[hlen];obtain⟨x,y,z,hks⟩:=len_three hlen;have S':=S;rw[hks] at S' hk hs;obtain⟨w1,hw1⟩:∃w1,w1=w.alloc (.cells #[.int .i64 19,.int .i64 n,stv nm,.slice ao 3 cap] 34):=⟨_,rfl⟩
   obtain⟨g,hg⟩:∃g,g=w.heap.size:=⟨_,rfl⟩
   have B1:Below w.heap.size w w1:=by rw[hw1];exact b1 _ _
   have C1:w1.heap[g]?=some (.cells #[.int .i64 19,.int .i64 n,stv nm,.slice ao 3 cap] 34):=by rw[hw1,hg];exact heap_alloc_new _ _
   obtain⟨⟨c0,c1,c2,c3⟩,-⟩:=cells4e C1;have HG:=Lib.hid hg;have HB:=Lib.hid B1;obtain⟨b,off,ak,ck,rfl,x0,x1,x2,x3,Sy⟩:=ekid1 (S'.below B1);have hv:kdE ⟨19,n,nm,a,ks⟩=kdE y:=by simp only[kdE,hks,kdF_ex];simp[kdN]
   rw[hv];have HC:=ih y ak ck w1 (by simp only[esize_ex] at hs;omega) (okF_ex (okF_ex hk).2).1 Sy;rw[exN_out] at HC;clear B1 S S' hks hk hs hg C1 hv hdl hd;go_enter Tryz.func87,Tryz.ntmps87;go_upto_region 1 with fail;rw[<-hw1,<-HG.out];clear hw1;go_wp2_with fail;refine HC.mono ?_;rintro r w2 ⟨rfl,B2⟩;go_wp2;go_ret;exact⟨rfl,HB.out.trans (B2.mono HB.out.size)⟩
  by_cases h26:k=26
  ·subst h26;have hlen:ks.len=1:=hdl.2.1 rfl;rw[hlen];obtain⟨x,hks⟩:=len_one hlen;have S':=S;rw[hks] at S' hk hs;obtain⟨w1,hw1⟩:∃w1,w1=w.alloc (.cells #[.int .i64 26,.int .i64 n,stv nm,.slice ao 1 cap] 34):=⟨_,rfl⟩
   obtain⟨g,hg⟩:∃g,g=w.heap.size:=⟨_,rfl⟩
   have B1:Below w.heap.size w w1:=by rw[hw1];exact b1 _ _
   have C1:w1.heap[g]?=some (.cells #[.int .i64 26,.int .i64 n,stv nm,.slice ao 1 cap] 34):=by rw[hw1,hg];exact heap_alloc_new _ _
   obtain⟨⟨c0,c1,c2,c3⟩,-⟩:=cells4e C1;have HG:=Lib.hid hg;have HB:=Lib.hid B1;obtain⟨b,off,ak,ck,rfl,x0,x1,x2,x3,Sy⟩:=ekid0 (S'.below B1);have hv:kdE ⟨26,n,nm,a,ks⟩=kdE x:=by simp only[kdE,hks,kdF_ex];simp[kdN]
   rw[hv];have HC:=ih x ak ck w1 (by simp only[esize_ex] at hs;omega) (okF_ex hk).1 Sy;rw[exN_out] at HC;clear B1 S S' hks hk hs hg C1 hv hdl hd;go_enter Tryz.func87,Tryz.ntmps87;go_upto_region 1 with fail;rw[<-hw1,<-HG.out];clear hw1;go_wp2_with fail;refine HC.mono ?_;rintro r w2 ⟨rfl,B2⟩;go_wp2;go_ret;exact⟨rfl,HB.out.trans (B2.mono HB.out.size)⟩
  by_cases h20:k=20
  ·subst h20;have hv:kdE ⟨20,n,nm,a,ks⟩=cakN n:=by simp[kdE,kdN]
   rw[hv];obtain⟨w1,hw1⟩:∃w1,w1=w.alloc (.cells #[.int .i64 20,.int .i64 n,stv nm,.slice ao ks.len cap] 34):=⟨_,rfl⟩
   obtain⟨g,hg⟩:∃g,g=w.heap.size:=⟨_,rfl⟩
   have B1:Below w.heap.size w w1:=by rw[hw1];exact b1 _ _
   have C1:w1.heap[g]?=some (.cells #[.int .i64 20,.int .i64 n,stv nm,.slice ao ks.len cap] 34):=by rw[hw1,hg];exact heap_alloc_new _ _
   obtain⟨⟨c0,c1,c2,c3⟩,-⟩:=cells4e C1;have HG:=Lib.hid hg;have HB:=Lib.hid B1;have HC:=callKind_c n w1;clear B1 S hk hs hg C1 hv hdl hd;go_enter Tryz.func87,Tryz.ntmps87;go_upto_region 1 with fail;rw[<-hw1,<-HG.out];clear hw1;go_wp2_with fail;refine HC.mono ?_;rintro r w2 ⟨rfl,hww⟩;subst hww;go_wp2;go_ret;exact⟨rfl,HB.out⟩
  by_cases h21:k=21
  ·subst h21;have hv:kdE ⟨21,n,nm,a,ks⟩=qukN n:=by simp[kdE,kdN]
   rw[hv];obtain⟨w1,hw1⟩:∃w1,w1=w.alloc (.cells #[.int .i64 21,.int .i64 n,stv nm,.slice ao ks.len cap] 34):=⟨_,rfl⟩
   obtain⟨g,hg⟩:∃g,g=w.heap.size:=⟨_,rfl⟩
   have B1:Below w.heap.size w w1:=by rw[hw1];exact b1 _ _
   have C1:w1.heap[g]?=some (.cells #[.int .i64 21,.int .i64 n,stv nm,.slice ao ks.len cap] 34):=by rw[hw1,hg];exact heap_alloc_new _ _
   obtain⟨⟨c0,c1,c2,c3⟩,-⟩:=cells4e C1;have HG:=Lib.hid hg;have HB:=Lib.hid B1;have HC:=quantKind_c n w1;clear B1 S hk hs hg C1 hv hdl hd;go_enter Tryz.func87,Tryz.ntmps87;go_upto_region 1 with fail;rw[<-hw1,<-HG.out];clear hw1;go_wp2_with fail;refine HC.mono ?_;rintro r w2 ⟨rfl,hww⟩;subst hww;go_wp2;go_ret;exact⟨rfl,HB.out⟩
  by_cases h1:k=1
  ·subst h1;have hv:kdE ⟨1,n,nm,a,ks⟩=1:=by simp[kdE,kdN]
   rw[hv];obtain⟨w1,hw1⟩:∃w1,w1=w.alloc (.cells #[.int .i64 1,.int .i64 n,stv nm,.slice ao ks.len cap] 34):=⟨_,rfl⟩
   obtain⟨g,hg⟩:∃g,g=w.heap.size:=⟨_,rfl⟩
   have B1:Below w.heap.size w w1:=by rw[hw1];exact b1 _ _
   have C1:w1.heap[g]?=some (.cells #[.int .i64 1,.int .i64 n,stv nm,.slice ao ks.len cap] 34):=by rw[hw1,hg];exact heap_alloc_new _ _
   obtain⟨⟨c0,c1,c2,c3⟩,-⟩:=cells4e C1;have HG:=Lib.hid hg;have HB:=Lib.hid B1;clear B1 S hk hs hg C1 hv hd hdl ih;go_enter Tryz.func87,Tryz.ntmps87;go_upto_region 1 with fail;rw[<-hw1,<-HG.out];clear hw1;go_wp2;go_ret;exact⟨rfl,HB.out⟩
  by_cases h2:k=2
  ·subst h2;have hv:kdE ⟨2,n,nm,a,ks⟩=2:=by simp[kdE,kdN]
   rw[hv];obtain⟨w1,hw1⟩:∃w1,w1=w.alloc (.cells #[.int .i64 2,.int .i64 n,stv nm,.slice ao ks.len cap] 34):=⟨_,rfl⟩
   obtain⟨g,hg⟩:∃g,g=w.heap.size:=⟨_,rfl⟩
   have B1:Below w.heap.size w w1:=by rw[hw1];exact b1 _ _
   have C1:w1.heap[g]?=some (.cells #[.int .i64 2,.int .i64 n,stv nm,.slice ao ks.len cap] 34):=by rw[hw1,hg];exact heap_alloc_new _ _
   obtain⟨⟨c0,c1,c2,c3⟩,-⟩:=cells4e C1;have HG:=Lib.hid hg;have HB:=Lib.hid B1;clear B1 S hk hs hg C1 hv hd hdl ih;go_enter Tryz.func87,Tryz.ntmps87;go_upto_region 1 with fail;rw[<-hw1,<-HG.out];clear hw1;go_wp2;go_ret;exact⟨rfl,HB.out⟩
  by_cases h3:k=3
  ·subst h3;have hv:kdE ⟨3,n,nm,a,ks⟩=3:=by simp[kdE,kdN]
   rw[hv];obtain⟨w1,hw1⟩:∃w1,w1=w.alloc (.cells #[.int .i64 3,.int .i64 n,stv nm,.slice ao ks.len cap] 34):=⟨_,rfl⟩
   obtain⟨g,hg⟩:∃g,g=w.heap.size:=⟨_,rfl⟩
   have B1:Below w.heap.size w w1:=by rw[hw1];exact b1 _ _
   have C1:w1.heap[g]?=some (.cells #[.int .i64 3,.int .i64 n,stv nm,.slice ao ks.len cap] 34):=by rw[hw1,hg];exact heap_alloc_new _ _
   obtain⟨⟨c0,c1,c2,c3⟩,-⟩:=cells4e C1;have HG:=Lib.hid hg;have HB:=Lib.hid B1;clear B1 S hk hs hg C1 hv hd hdl ih;go_enter Tryz.func87,Tryz.ntmps87;go_upto_region 1 with fail;rw[<-hw1,<-HG.out];clear hw1;go_wp2;go_ret;exact⟨rfl,HB.out⟩
  by_cases h5:k=5
  ·subst h5;have hv:kdE ⟨5,n,nm,a,ks⟩=3:=by simp[kdE,kdN]
   rw[hv];obtain⟨w1,hw1⟩:∃w1,w1=w.alloc (.cells #[.int .i64 5,.int .i64 n,stv nm,.slice ao ks.len cap] 34):=⟨_,rfl⟩
   obtain⟨g,hg⟩:∃g,g=w.heap.size:=⟨_,rfl⟩
   have B1:Below w.heap.size w w1:=by rw[hw1];exact b1 _ _
   have C1:w1.heap[g]?=some (.cells #[.int .i64 5,.int .i64 n,stv nm,.slice ao ks.len cap] 34):=by rw[hw1,hg];exact heap_alloc_new _ _
   obtain⟨⟨c0,c1,c2,c3⟩,-⟩:=cells4e C1;have HG:=Lib.hid hg;have HB:=Lib.hid B1;clear B1 S hk hs hg C1 hv hd hdl ih;go_enter Tryz.func87,Tryz.ntmps87;go_upto_region 1 with fail;rw[<-hw1,<-HG.out];clear hw1;go_wp2;go_ret;exact⟨rfl,HB.out⟩
  by_cases h6:k=6
  ·subst h6;have hv:kdE ⟨6,n,nm,a,ks⟩=1:=by simp[kdE,kdN]
   rw[hv];obtain⟨w1,hw1⟩:∃w1,w1=w.alloc (.cells #[.int .i64 6,.int .i64 n,stv nm,.slice ao ks.len cap] 34):=⟨_,rfl⟩
   obtain⟨g,hg⟩:∃g,g=w.heap.size:=⟨_,rfl⟩
   have B1:Below w.heap.size w w1:=by rw[hw1];exact b1 _ _
   have C1:w1.heap[g]?=some (.cells #[.int .i64 6,.int .i64 n,stv nm,.slice ao ks.len cap] 34):=by rw[hw1,hg];exact heap_alloc_new _ _
   obtain⟨⟨c0,c1,c2,c3⟩,-⟩:=cells4e C1;have HG:=Lib.hid hg;have HB:=Lib.hid B1;clear B1 S hk hs hg C1 hv hd hdl ih;go_enter Tryz.func87,Tryz.ntmps87;go_upto_region 1 with fail;rw[<-hw1,<-HG.out];clear hw1;go_wp2;go_ret;exact⟨rfl,HB.out⟩
  by_cases h7:k=7
  ·subst h7;have hv:kdE ⟨7,n,nm,a,ks⟩=2:=by simp[kdE,kdN]
   rw[hv];obtain⟨w1,hw1⟩:∃w1,w1=w.alloc (.cells #[.int .i64 7,.int .i64 n,stv nm,.slice ao ks.len cap] 34):=⟨_,rfl⟩
   obtain⟨g,hg⟩:∃g,g=w.heap.size:=⟨_,rfl⟩
   have B1:Below w.heap.size w w1:=by rw[hw1];exact b1 _ _
   have C1:w1.heap[g]?=some (.cells #[.int .i64 7,.int .i64 n,stv nm,.slice ao ks.len cap] 34):=by rw[hw1,hg];exact heap_alloc_new _ _
   obtain⟨⟨c0,c1,c2,c3⟩,-⟩:=cells4e C1;have HG:=Lib.hid hg;have HB:=Lib.hid B1;clear B1 S hk hs hg C1 hv hd hdl ih;go_enter Tryz.func87,Tryz.ntmps87;go_upto_region 1 with fail;rw[<-hw1,<-HG.out];clear hw1;go_wp2;go_ret;exact⟨rfl,HB.out⟩
  by_cases h8:k=8
  ·subst h8;have hv:kdE ⟨8,n,nm,a,ks⟩=1:=by simp[kdE,kdN]
   rw[hv];obtain⟨w1,hw1⟩:∃w1,w1=w.alloc (.cells #[.int .i64 8,.int .i64 n,stv nm,.slice ao ks.len cap] 34):=⟨_,rfl⟩
   obtain⟨g,hg⟩:∃g,g=w.heap.size:=⟨_,rfl⟩
   have B1:Below w.heap.size w w1:=by rw[hw1];exact b1 _ _
   have C1:w1.heap[g]?=some (.cells #[.int .i64 8,.int .i64 n,stv nm,.slice ao ks.len cap] 34):=by rw[hw1,hg];exact heap_alloc_new _ _
   obtain⟨⟨c0,c1,c2,c3⟩,-⟩:=cells4e C1;have HG:=Lib.hid hg;have HB:=Lib.hid B1;clear B1 S hk hs hg C1 hv hd hdl ih;go_enter Tryz.func87,Tryz.ntmps87;go_upto_region 1 with fail;rw[<-hw1,<-HG.out];clear hw1;go_wp2;go_ret;exact⟨rfl,HB.out⟩
  by_cases h9:k=9
  ·subst h9;have hv:kdE ⟨9,n,nm,a,ks⟩=1:=by simp[kdE,kdN]
   rw[hv];obtain⟨w1,hw1⟩:∃w1,w1=w.alloc (.cells #[.int .i64 9,.int .i64 n,stv nm,.slice ao ks.len cap] 34):=⟨_,rfl⟩
   obtain⟨g,hg⟩:∃g,g=w.heap.size:=⟨_,rfl⟩
   have B1:Below w.heap.size w w1:=by rw[hw1];exact b1 _ _
   have C1:w1.heap[g]?=some (.cells #[.int .i64 9,.int .i64 n,stv nm,.slice ao ks.len cap] 34):=by rw[hw1,hg];exact heap_alloc_new _ _
   obtain⟨⟨c0,c1,c2,c3⟩,-⟩:=cells4e C1;have HG:=Lib.hid hg;have HB:=Lib.hid B1;clear B1 S hk hs hg C1 hv hd hdl ih;go_enter Tryz.func87,Tryz.ntmps87;go_upto_region 1 with fail;rw[<-hw1,<-HG.out];clear hw1;go_wp2;go_ret;exact⟨rfl,HB.out⟩
  by_cases h10:k=10
  ·subst h10;have hv:kdE ⟨10,n,nm,a,ks⟩=1:=by simp[kdE,kdN]
   rw[hv];obtain⟨w1,hw1⟩:∃w1,w1=w.alloc (.cells #[.int .i64 10,.int .i64 n,stv nm,.slice ao ks.len cap] 34):=⟨_,rfl⟩
   obtain⟨g,hg⟩:∃g,g=w.heap.size:=⟨_,rfl⟩
   have B1:Below w.heap.size w w1:=by rw[hw1];exact b1 _ _
   have C1:w1.heap[g]?=some (.cells #[.int .i64 10,.int .i64 n,stv nm,.slice ao ks.len cap] 34):=by rw[hw1,hg];exact heap_alloc_new _ _
   obtain⟨⟨c0,c1,c2,c3⟩,-⟩:=cells4e C1;have HG:=Lib.hid hg;have HB:=Lib.hid B1;clear B1 S hk hs hg C1 hv hd hdl ih;go_enter Tryz.func87,Tryz.ntmps87;go_upto_region 1 with fail;rw[<-hw1,<-HG.out];clear hw1;go_wp2;go_ret;exact⟨rfl,HB.out⟩
  by_cases h11:k=11
  ·subst h11;have hv:kdE ⟨11,n,nm,a,ks⟩=1:=by simp[kdE,kdN]
   rw[hv];obtain⟨w1,hw1⟩:∃w1,w1=w.alloc (.cells #[.int .i64 11,.int .i64 n,stv nm,.slice ao ks.len cap] 34):=⟨_,rfl⟩
   obtain⟨g,hg⟩:∃g,g=w.heap.size:=⟨_,rfl⟩
   have B1:Below w.heap.size w w1:=by rw[hw1];exact b1 _ _
   have C1:w1.heap[g]?=some (.cells #[.int .i64 11,.int .i64 n,stv nm,.slice ao ks.len cap] 34):=by rw[hw1,hg];exact heap_alloc_new _ _
   obtain⟨⟨c0,c1,c2,c3⟩,-⟩:=cells4e C1;have HG:=Lib.hid hg;have HB:=Lib.hid B1;clear B1 S hk hs hg C1 hv hd hdl ih;go_enter Tryz.func87,Tryz.ntmps87;go_upto_region 1 with fail;rw[<-hw1,<-HG.out];clear hw1;go_wp2;go_ret;exact⟨rfl,HB.out⟩
  by_cases h12:k=12
  ·subst h12;have hv:kdE ⟨12,n,nm,a,ks⟩=1:=by simp[kdE,kdN]
   rw[hv];obtain⟨w1,hw1⟩:∃w1,w1=w.alloc (.cells #[.int .i64 12,.int .i64 n,stv nm,.slice ao ks.len cap] 34):=⟨_,rfl⟩
   obtain⟨g,hg⟩:∃g,g=w.heap.size:=⟨_,rfl⟩
   have B1:Below w.heap.size w w1:=by rw[hw1];exact b1 _ _
   have C1:w1.heap[g]?=some (.cells #[.int .i64 12,.int .i64 n,stv nm,.slice ao ks.len cap] 34):=by rw[hw1,hg];exact heap_alloc_new _ _
   obtain⟨⟨c0,c1,c2,c3⟩,-⟩:=cells4e C1;have HG:=Lib.hid hg;have HB:=Lib.hid B1;clear B1 S hk hs hg C1 hv hd hdl ih;go_enter Tryz.func87,Tryz.ntmps87;go_upto_region 1 with fail;rw[<-hw1,<-HG.out];clear hw1;go_wp2;go_ret;exact⟨rfl,HB.out⟩
  by_cases h13:k=13
  ·subst h13;have hv:kdE ⟨13,n,nm,a,ks⟩=2:=by simp[kdE,kdN]
   rw[hv];obtain⟨w1,hw1⟩:∃w1,w1=w.alloc (.cells #[.int .i64 13,.int .i64 n,stv nm,.slice ao ks.len cap] 34):=⟨_,rfl⟩
   obtain⟨g,hg⟩:∃g,g=w.heap.size:=⟨_,rfl⟩
   have B1:Below w.heap.size w w1:=by rw[hw1];exact b1 _ _
   have C1:w1.heap[g]?=some (.cells #[.int .i64 13,.int .i64 n,stv nm,.slice ao ks.len cap] 34):=by rw[hw1,hg];exact heap_alloc_new _ _
   obtain⟨⟨c0,c1,c2,c3⟩,-⟩:=cells4e C1;have HG:=Lib.hid hg;have HB:=Lib.hid B1;clear B1 S hk hs hg C1 hv hd hdl ih;go_enter Tryz.func87,Tryz.ntmps87;go_upto_region 1 with fail;rw[<-hw1,<-HG.out];clear hw1;go_wp2;go_ret;exact⟨rfl,HB.out⟩
  by_cases h14:k=14
  ·subst h14;have hv:kdE ⟨14,n,nm,a,ks⟩=2:=by simp[kdE,kdN]
   rw[hv];obtain⟨w1,hw1⟩:∃w1,w1=w.alloc (.cells #[.int .i64 14,.int .i64 n,stv nm,.slice ao ks.len cap] 34):=⟨_,rfl⟩
   obtain⟨g,hg⟩:∃g,g=w.heap.size:=⟨_,rfl⟩
   have B1:Below w.heap.size w w1:=by rw[hw1];exact b1 _ _
   have C1:w1.heap[g]?=some (.cells #[.int .i64 14,.int .i64 n,stv nm,.slice ao ks.len cap] 34):=by rw[hw1,hg];exact heap_alloc_new _ _
   obtain⟨⟨c0,c1,c2,c3⟩,-⟩:=cells4e C1;have HG:=Lib.hid hg;have HB:=Lib.hid B1;clear B1 S hk hs hg C1 hv hd hdl ih;go_enter Tryz.func87,Tryz.ntmps87;go_upto_region 1 with fail;rw[<-hw1,<-HG.out];clear hw1;go_wp2;go_ret;exact⟨rfl,HB.out⟩
  by_cases h15:k=15
  ·subst h15;have hv:kdE ⟨15,n,nm,a,ks⟩=2:=by simp[kdE,kdN]
   rw[hv];obtain⟨w1,hw1⟩:∃w1,w1=w.alloc (.cells #[.int .i64 15,.int .i64 n,stv nm,.slice ao ks.len cap] 34):=⟨_,rfl⟩
   obtain⟨g,hg⟩:∃g,g=w.heap.size:=⟨_,rfl⟩
   have B1:Below w.heap.size w w1:=by rw[hw1];exact b1 _ _
   have C1:w1.heap[g]?=some (.cells #[.int .i64 15,.int .i64 n,stv nm,.slice ao ks.len cap] 34):=by rw[hw1,hg];exact heap_alloc_new _ _
   obtain⟨⟨c0,c1,c2,c3⟩,-⟩:=cells4e C1;have HG:=Lib.hid hg;have HB:=Lib.hid B1;clear B1 S hk hs hg C1 hv hd hdl ih;go_enter Tryz.func87,Tryz.ntmps87;go_upto_region 1 with fail;rw[<-hw1,<-HG.out];clear hw1;go_wp2;go_ret;exact⟨rfl,HB.out⟩
  by_cases h16:k=16
  ·subst h16;have hv:kdE ⟨16,n,nm,a,ks⟩=2:=by simp[kdE,kdN]
   rw[hv];obtain⟨w1,hw1⟩:∃w1,w1=w.alloc (.cells #[.int .i64 16,.int .i64 n,stv nm,.slice ao ks.len cap] 34):=⟨_,rfl⟩
   obtain⟨g,hg⟩:∃g,g=w.heap.size:=⟨_,rfl⟩
   have B1:Below w.heap.size w w1:=by rw[hw1];exact b1 _ _
   have C1:w1.heap[g]?=some (.cells #[.int .i64 16,.int .i64 n,stv nm,.slice ao ks.len cap] 34):=by rw[hw1,hg];exact heap_alloc_new _ _
   obtain⟨⟨c0,c1,c2,c3⟩,-⟩:=cells4e C1;have HG:=Lib.hid hg;have HB:=Lib.hid B1;clear B1 S hk hs hg C1 hv hd hdl ih;go_enter Tryz.func87,Tryz.ntmps87;go_upto_region 1 with fail;rw[<-hw1,<-HG.out];clear hw1;go_wp2;go_ret;exact⟨rfl,HB.out⟩
  by_cases h17:k=17
  ·subst h17;have hv:kdE ⟨17,n,nm,a,ks⟩=2:=by simp[kdE,kdN]
   rw[hv];obtain⟨w1,hw1⟩:∃w1,w1=w.alloc (.cells #[.int .i64 17,.int .i64 n,stv nm,.slice ao ks.len cap] 34):=⟨_,rfl⟩
   obtain⟨g,hg⟩:∃g,g=w.heap.size:=⟨_,rfl⟩
   have B1:Below w.heap.size w w1:=by rw[hw1];exact b1 _ _
   have C1:w1.heap[g]?=some (.cells #[.int .i64 17,.int .i64 n,stv nm,.slice ao ks.len cap] 34):=by rw[hw1,hg];exact heap_alloc_new _ _
   obtain⟨⟨c0,c1,c2,c3⟩,-⟩:=cells4e C1;have HG:=Lib.hid hg;have HB:=Lib.hid B1;clear B1 S hk hs hg C1 hv hd hdl ih;go_enter Tryz.func87,Tryz.ntmps87;go_upto_region 1 with fail;rw[<-hw1,<-HG.out];clear hw1;go_wp2;go_ret;exact⟨rfl,HB.out⟩
  by_cases h18:k=18
  ·subst h18;have hv:kdE ⟨18,n,nm,a,ks⟩=2:=by simp[kdE,kdN]
   rw[hv];obtain⟨w1,hw1⟩:∃w1,w1=w.alloc (.cells #[.int .i64 18,.int .i64 n,stv nm,.slice ao ks.len cap] 34):=⟨_,rfl⟩
   obtain⟨g,hg⟩:∃g,g=w.heap.size:=⟨_,rfl⟩
   have B1:Below w.heap.size w w1:=by rw[hw1];exact b1 _ _
   have C1:w1.heap[g]?=some (.cells #[.int .i64 18,.int .i64 n,stv nm,.slice ao ks.len cap] 34):=by rw[hw1,hg];exact heap_alloc_new _ _
   obtain⟨⟨c0,c1,c2,c3⟩,-⟩:=cells4e C1;have HG:=Lib.hid hg;have HB:=Lib.hid B1;clear B1 S hk hs hg C1 hv hd hdl ih;go_enter Tryz.func87,Tryz.ntmps87;go_upto_region 1 with fail;rw[<-hw1,<-HG.out];clear hw1;go_wp2;go_ret;exact⟨rfl,HB.out⟩
  by_cases h22:k=22
  ·subst h22;have hv:kdE ⟨22,n,nm,a,ks⟩=2:=by simp[kdE,kdN]
   rw[hv];obtain⟨w1,hw1⟩:∃w1,w1=w.alloc (.cells #[.int .i64 22,.int .i64 n,stv nm,.slice ao ks.len cap] 34):=⟨_,rfl⟩
   obtain⟨g,hg⟩:∃g,g=w.heap.size:=⟨_,rfl⟩
   have B1:Below w.heap.size w w1:=by rw[hw1];exact b1 _ _
   have C1:w1.heap[g]?=some (.cells #[.int .i64 22,.int .i64 n,stv nm,.slice ao ks.len cap] 34):=by rw[hw1,hg];exact heap_alloc_new _ _
   obtain⟨⟨c0,c1,c2,c3⟩,-⟩:=cells4e C1;have HG:=Lib.hid hg;have HB:=Lib.hid B1;clear B1 S hk hs hg C1 hv hd hdl ih;go_enter Tryz.func87,Tryz.ntmps87;go_upto_region 1 with fail;rw[<-hw1,<-HG.out];clear hw1;go_wp2;go_ret;exact⟨rfl,HB.out⟩
  by_cases h23:k=23
  ·subst h23;have hv:kdE ⟨23,n,nm,a,ks⟩=2:=by simp[kdE,kdN]
   rw[hv];obtain⟨w1,hw1⟩:∃w1,w1=w.alloc (.cells #[.int .i64 23,.int .i64 n,stv nm,.slice ao ks.len cap] 34):=⟨_,rfl⟩
   obtain⟨g,hg⟩:∃g,g=w.heap.size:=⟨_,rfl⟩
   have B1:Below w.heap.size w w1:=by rw[hw1];exact b1 _ _
   have C1:w1.heap[g]?=some (.cells #[.int .i64 23,.int .i64 n,stv nm,.slice ao ks.len cap] 34):=by rw[hw1,hg];exact heap_alloc_new _ _
   obtain⟨⟨c0,c1,c2,c3⟩,-⟩:=cells4e C1;have HG:=Lib.hid hg;have HB:=Lib.hid B1;clear B1 S hk hs hg C1 hv hd hdl ih;go_enter Tryz.func87,Tryz.ntmps87;go_upto_region 1 with fail;rw[<-hw1,<-HG.out];clear hw1;go_wp2;go_ret;exact⟨rfl,HB.out⟩
  by_cases h24:k=24
  ·subst h24;have hv:kdE ⟨24,n,nm,a,ks⟩=2:=by simp[kdE,kdN]
   rw[hv];obtain⟨w1,hw1⟩:∃w1,w1=w.alloc (.cells #[.int .i64 24,.int .i64 n,stv nm,.slice ao ks.len cap] 34):=⟨_,rfl⟩
   obtain⟨g,hg⟩:∃g,g=w.heap.size:=⟨_,rfl⟩
   have B1:Below w.heap.size w w1:=by rw[hw1];exact b1 _ _
   have C1:w1.heap[g]?=some (.cells #[.int .i64 24,.int .i64 n,stv nm,.slice ao ks.len cap] 34):=by rw[hw1,hg];exact heap_alloc_new _ _
   obtain⟨⟨c0,c1,c2,c3⟩,-⟩:=cells4e C1;have HG:=Lib.hid hg;have HB:=Lib.hid B1;clear B1 S hk hs hg C1 hv hd hdl ih;go_enter Tryz.func87,Tryz.ntmps87;go_upto_region 1 with fail;rw[<-hw1,<-HG.out];clear hw1;go_wp2;go_ret;exact⟨rfl,HB.out⟩
  by_cases h25:k=25
  ·subst h25;have hv:kdE ⟨25,n,nm,a,ks⟩=2:=by simp[kdE,kdN]
   rw[hv];obtain⟨w1,hw1⟩:∃w1,w1=w.alloc (.cells #[.int .i64 25,.int .i64 n,stv nm,.slice ao ks.len cap] 34):=⟨_,rfl⟩
   obtain⟨g,hg⟩:∃g,g=w.heap.size:=⟨_,rfl⟩
   have B1:Below w.heap.size w w1:=by rw[hw1];exact b1 _ _
   have C1:w1.heap[g]?=some (.cells #[.int .i64 25,.int .i64 n,stv nm,.slice ao ks.len cap] 34):=by rw[hw1,hg];exact heap_alloc_new _ _
   obtain⟨⟨c0,c1,c2,c3⟩,-⟩:=cells4e C1;have HG:=Lib.hid hg;have HB:=Lib.hid B1;clear B1 S hk hs hg C1 hv hd hdl ih;go_enter Tryz.func87,Tryz.ntmps87;go_upto_region 1 with fail;rw[<-hw1,<-HG.out];clear hw1;go_wp2;go_ret;exact⟨rfl,HB.out⟩
  exfalso;rcases docF_kind hd with h|h|h|h|h|h|h|h|h|h|h|h|h|h|h|h|h|h|h|h|h|h|h|h|h<;>contradiction
theorem kdF_len:∀ (f:Fs),(kdF f).length=f.len
 | ⟨none⟩=>rfl
 | ⟨some ⟨k,n,nm,a,ks,r⟩⟩=>by simp only[kdF,Fs.len,List.length_cons];rw[kdF_len r]
theorem kdF_bd {nc:Nat}:∀ {f:Fs},okF nc f->∀ v ∈ kdF f,1<=v/\v<=3
 | ⟨none⟩,_=>fun v hv=>by simp[kdF] at hv
 | ⟨some ⟨k,n,nm,a,ks,r⟩⟩,h=>fun v hv=>by
  have h1:=kdF_bd h.2.1;have hl:=kdF_len ks;have hd:=doc_len h.1.1;simp only[kdF,List.mem_cons] at hv;rcases hv with rfl|hv
  ·unfold kdN;split
   ·omega
   ·split
    ·omega
    ·split
     ·rename_i e
      have:=hd.1 e
      have hlt:1<(kdF ks).length:=by omega
      rw[List.getD_eq_getElem?_getD,List.getElem?_eq_getElem hlt];exact h1 _ (List.getElem_mem hlt)
     ·split
      ·rename_i e
       have:=hd.2.1 e
       have hlt:0<(kdF ks).length:=by omega
       rw[List.getD_eq_getElem?_getD,List.getElem?_eq_getElem hlt];exact h1 _ (List.getElem_mem hlt)
      ·split
       ·unfold cakN;split;omega;split<;>omega
       ·split
        ·unfold qukN;split<;>omega
        ·omega
  ·exact kdF_bd h.2.2 v hv
theorem kdE_bd {nc:Nat}{e:Ex}(h:okE nc e):1<=kdE e/\kdE e<=3:=kdF_bd (f:=one e) (show okF nc (one e) from ⟨h.1,h.2,trivial⟩) (kdE e) (by simp[kdF,one,kdE])
theorem gr_kn (s:Em)(x:List UInt8):Grw s (s.kn x) 1:=⟨s.mes_kn x,Nat.le_refl _,rfl,id⟩
def opK (k:Int):Prop:=k=6\/k=7\/k=8\/k=9\/k=10\/k=11\/k=12\/k=13\/k=14\/k=15\/k=16\/k=20\/k=22\/k=23\/k=24\/k=25
theorem operation_c (nc:Nat)(e:Ex)(ao:Option Addr)(cap:Nat)(w:World)(o:Nat->Nat)(rb:Nat)(lv:Value)(ls:List Int)(s:Em)(hk:opK e.k)(ho:okE nc e)(S:SnO w o e.kids ao)(hlen:e.kids.len<=268435455)(hnm:e.nm.length<=maxLen)(hm:s.mes+3<=100000000)(X:EmX w o lv ls)(h:EmW w o rb lv s) :
  Calls Tryz.prog 97 #[.pointer (some ⟨rb,0,none⟩),exN e ao cap] w (PosQ w o rb lv s (opr e.k e.n e.nm (kdF e.kids) s) 3):=by
 obtain⟨k,n,nm,a,ks⟩:=e;obtain⟨⟨hd,-,-⟩,hok⟩:=ho;simp only at hd hok hk S hlen hnm;rw[exN_out];simp only;have hdl:=doc_len hd;by_cases h6:k=6
 ·subst h6;have hv:opr 6 n nm (kdF ks) s=s.lay 4 0 0:=by simp[opr,barN]
  rw[hv];obtain⟨w1,hw1⟩:∃w1,w1=w.alloc (.cells #[.int .i64 6,.int .i64 n,stv nm,.slice ao ks.len cap] 34):=⟨_,rfl⟩
  obtain⟨g,hg⟩:∃g,g=w.heap.size:=⟨_,rfl⟩
  have s0:∀ {I:Nat->Prop},Step I w o w1 (newLab w o 0):=fun {I}=>by rw[hw1];exact boxStep I w o _
  have C1:w1.heap[g]?=some (.cells #[.int .i64 6,.int .i64 n,stv nm,.slice ao ks.len cap] 34):=by rw[hw1,hg];exact heap_alloc_new _ _
  have C1o:newLab w o 0 g=0:=by rw[hg];exact newLab_new (Nat.le_refl _)
  have E1:=h.step (s0 (I:=fun _=>False)) noF;have X1:=X.step (s0 (I:=fun _=>False)) id;have S1:=S.stepO (s0 (I:=fun _=>False)) id;have S0:=s0 (I:=I17);generalize newLab w o 0=o1 at *;obtain⟨⟨c0,c1,c2,c3⟩,-⟩:=cells4e C1;have HG:=Lib.hid hg;clear s0 hg h X S hdl hd;have HL:=lay_c 4 0 0 w1 o1 rb lv ls s (by omega) (by omega) (by omega) (by omega) X1 E1;have hbr:=X1.bar 6 (by omega);simp only[List.getD_cons_succ,List.getD_cons_zero] at hbr;clear hv;go_enter Tryz.func97,Tryz.ntmps97;go_upto_region 1 with fail;rw[<-hw1,<-HG.out];clear hw1;go_wp2_with (first|(go_at_call 47;refine HL.mono ?_;rintro e w2 ⟨rfl,o2,E2,S2⟩))
  go_end0
  exact⟨rfl,⟨o2,E2,S0.trans S2⟩,(gr_lay s _ _ _).le (by omega)⟩
 by_cases h7:k=7
 ·subst h7;have hv:opr 7 n nm (kdF ks) s=s.lay 5 0 0:=by simp[opr,barN]
  rw[hv];obtain⟨w1,hw1⟩:∃w1,w1=w.alloc (.cells #[.int .i64 7,.int .i64 n,stv nm,.slice ao ks.len cap] 34):=⟨_,rfl⟩
  obtain⟨g,hg⟩:∃g,g=w.heap.size:=⟨_,rfl⟩
  have s0:∀ {I:Nat->Prop},Step I w o w1 (newLab w o 0):=fun {I}=>by rw[hw1];exact boxStep I w o _
  have C1:w1.heap[g]?=some (.cells #[.int .i64 7,.int .i64 n,stv nm,.slice ao ks.len cap] 34):=by rw[hw1,hg];exact heap_alloc_new _ _
  have C1o:newLab w o 0 g=0:=by rw[hg];exact newLab_new (Nat.le_refl _)
  have E1:=h.step (s0 (I:=fun _=>False)) noF;have X1:=X.step (s0 (I:=fun _=>False)) id;have S1:=S.stepO (s0 (I:=fun _=>False)) id;have S0:=s0 (I:=I17);generalize newLab w o 0=o1 at *;obtain⟨⟨c0,c1,c2,c3⟩,-⟩:=cells4e C1;have HG:=Lib.hid hg;clear s0 hg h X S hdl hd;have HL:=lay_c 5 0 0 w1 o1 rb lv ls s (by omega) (by omega) (by omega) (by omega) X1 E1;have hbr:=X1.bar 7 (by omega);simp only[List.getD_cons_succ,List.getD_cons_zero] at hbr;clear hv;go_enter Tryz.func97,Tryz.ntmps97;go_upto_region 1 with fail;rw[<-hw1,<-HG.out];clear hw1;go_wp2_with (first|(go_at_call 47;refine HL.mono ?_;rintro e w2 ⟨rfl,o2,E2,S2⟩))
  go_end0
  exact⟨rfl,⟨o2,E2,S0.trans S2⟩,(gr_lay s _ _ _).le (by omega)⟩
 by_cases h8:k=8
 ·subst h8;have hv:opr 8 n nm (kdF ks) s=s.lay 6 0 0:=by simp[opr,barN]
  rw[hv];obtain⟨w1,hw1⟩:∃w1,w1=w.alloc (.cells #[.int .i64 8,.int .i64 n,stv nm,.slice ao ks.len cap] 34):=⟨_,rfl⟩
  obtain⟨g,hg⟩:∃g,g=w.heap.size:=⟨_,rfl⟩
  have s0:∀ {I:Nat->Prop},Step I w o w1 (newLab w o 0):=fun {I}=>by rw[hw1];exact boxStep I w o _
  have C1:w1.heap[g]?=some (.cells #[.int .i64 8,.int .i64 n,stv nm,.slice ao ks.len cap] 34):=by rw[hw1,hg];exact heap_alloc_new _ _
  have C1o:newLab w o 0 g=0:=by rw[hg];exact newLab_new (Nat.le_refl _)
  have E1:=h.step (s0 (I:=fun _=>False)) noF;have X1:=X.step (s0 (I:=fun _=>False)) id;have S1:=S.stepO (s0 (I:=fun _=>False)) id;have S0:=s0 (I:=I17);generalize newLab w o 0=o1 at *;obtain⟨⟨c0,c1,c2,c3⟩,-⟩:=cells4e C1;have HG:=Lib.hid hg;clear s0 hg h X S hdl hd;have HL:=lay_c 6 0 0 w1 o1 rb lv ls s (by omega) (by omega) (by omega) (by omega) X1 E1;have hbr:=X1.bar 8 (by omega);simp only[List.getD_cons_succ,List.getD_cons_zero] at hbr;clear hv;go_enter Tryz.func97,Tryz.ntmps97;go_upto_region 1 with fail;rw[<-hw1,<-HG.out];clear hw1;go_wp2_with (first|(go_at_call 47;refine HL.mono ?_;rintro e w2 ⟨rfl,o2,E2,S2⟩))
  go_end0
  exact⟨rfl,⟨o2,E2,S0.trans S2⟩,(gr_lay s _ _ _).le (by omega)⟩
 by_cases h9:k=9
 ·subst h9;have hv:opr 9 n nm (kdF ks) s=s.lay 7 0 0:=by simp[opr,barN]
  rw[hv];obtain⟨w1,hw1⟩:∃w1,w1=w.alloc (.cells #[.int .i64 9,.int .i64 n,stv nm,.slice ao ks.len cap] 34):=⟨_,rfl⟩
  obtain⟨g,hg⟩:∃g,g=w.heap.size:=⟨_,rfl⟩
  have s0:∀ {I:Nat->Prop},Step I w o w1 (newLab w o 0):=fun {I}=>by rw[hw1];exact boxStep I w o _
  have C1:w1.heap[g]?=some (.cells #[.int .i64 9,.int .i64 n,stv nm,.slice ao ks.len cap] 34):=by rw[hw1,hg];exact heap_alloc_new _ _
  have C1o:newLab w o 0 g=0:=by rw[hg];exact newLab_new (Nat.le_refl _)
  have E1:=h.step (s0 (I:=fun _=>False)) noF;have X1:=X.step (s0 (I:=fun _=>False)) id;have S1:=S.stepO (s0 (I:=fun _=>False)) id;have S0:=s0 (I:=I17);generalize newLab w o 0=o1 at *;obtain⟨⟨c0,c1,c2,c3⟩,-⟩:=cells4e C1;have HG:=Lib.hid hg;clear s0 hg h X S hdl hd;have HL:=lay_c 7 0 0 w1 o1 rb lv ls s (by omega) (by omega) (by omega) (by omega) X1 E1;have hbr:=X1.bar 9 (by omega);simp only[List.getD_cons_succ,List.getD_cons_zero] at hbr;clear hv;go_enter Tryz.func97,Tryz.ntmps97;go_upto_region 1 with fail;rw[<-hw1,<-HG.out];clear hw1;go_wp2_with (first|(go_at_call 47;refine HL.mono ?_;rintro e w2 ⟨rfl,o2,E2,S2⟩))
  go_end0
  exact⟨rfl,⟨o2,E2,S0.trans S2⟩,(gr_lay s _ _ _).le (by omega)⟩
 by_cases h10:k=10
 ·subst h10;have hv:opr 10 n nm (kdF ks) s=s.lay 8 0 0:=by simp[opr,barN]
  rw[hv];obtain⟨w1,hw1⟩:∃w1,w1=w.alloc (.cells #[.int .i64 10,.int .i64 n,stv nm,.slice ao ks.len cap] 34):=⟨_,rfl⟩
  obtain⟨g,hg⟩:∃g,g=w.heap.size:=⟨_,rfl⟩
  have s0:∀ {I:Nat->Prop},Step I w o w1 (newLab w o 0):=fun {I}=>by rw[hw1];exact boxStep I w o _
  have C1:w1.heap[g]?=some (.cells #[.int .i64 10,.int .i64 n,stv nm,.slice ao ks.len cap] 34):=by rw[hw1,hg];exact heap_alloc_new _ _
  have C1o:newLab w o 0 g=0:=by rw[hg];exact newLab_new (Nat.le_refl _)
  have E1:=h.step (s0 (I:=fun _=>False)) noF;have X1:=X.step (s0 (I:=fun _=>False)) id;have S1:=S.stepO (s0 (I:=fun _=>False)) id;have S0:=s0 (I:=I17);generalize newLab w o 0=o1 at *;obtain⟨⟨c0,c1,c2,c3⟩,-⟩:=cells4e C1;have HG:=Lib.hid hg;clear s0 hg h X S hdl hd;have HL:=lay_c 8 0 0 w1 o1 rb lv ls s (by omega) (by omega) (by omega) (by omega) X1 E1;have hbr:=X1.bar 10 (by omega);simp only[List.getD_cons_succ,List.getD_cons_zero] at hbr;clear hv;go_enter Tryz.func97,Tryz.ntmps97;go_upto_region 1 with fail;rw[<-hw1,<-HG.out];clear hw1;go_wp2_with (first|(go_at_call 47;refine HL.mono ?_;rintro e w2 ⟨rfl,o2,E2,S2⟩))
  go_end0
  exact⟨rfl,⟨o2,E2,S0.trans S2⟩,(gr_lay s _ _ _).le (by omega)⟩
 by_cases h11:k=11
 ·subst h11;have hv:opr 11 n nm (kdF ks) s=s.lay 9 0 0:=by simp[opr,barN]
  rw[hv];obtain⟨w1,hw1⟩:∃w1,w1=w.alloc (.cells #[.int .i64 11,.int .i64 n,stv nm,.slice ao ks.len cap] 34):=⟨_,rfl⟩
  obtain⟨g,hg⟩:∃g,g=w.heap.size:=⟨_,rfl⟩
  have s0:∀ {I:Nat->Prop},Step I w o w1 (newLab w o 0):=fun {I}=>by rw[hw1];exact boxStep I w o _
  have C1:w1.heap[g]?=some (.cells #[.int .i64 11,.int .i64 n,stv nm,.slice ao ks.len cap] 34):=by rw[hw1,hg];exact heap_alloc_new _ _
  have C1o:newLab w o 0 g=0:=by rw[hg];exact newLab_new (Nat.le_refl _)
  have E1:=h.step (s0 (I:=fun _=>False)) noF;have X1:=X.step (s0 (I:=fun _=>False)) id;have S1:=S.stepO (s0 (I:=fun _=>False)) id;have S0:=s0 (I:=I17);generalize newLab w o 0=o1 at *;obtain⟨⟨c0,c1,c2,c3⟩,-⟩:=cells4e C1;have HG:=Lib.hid hg;clear s0 hg h X S hdl hd;have HL:=lay_c 9 0 0 w1 o1 rb lv ls s (by omega) (by omega) (by omega) (by omega) X1 E1;have hbr:=X1.bar 11 (by omega);simp only[List.getD_cons_succ,List.getD_cons_zero] at hbr;clear hv;go_enter Tryz.func97,Tryz.ntmps97;go_upto_region 1 with fail;rw[<-hw1,<-HG.out];clear hw1;go_wp2_with (first|(go_at_call 47;refine HL.mono ?_;rintro e w2 ⟨rfl,o2,E2,S2⟩))
  go_end0
  exact⟨rfl,⟨o2,E2,S0.trans S2⟩,(gr_lay s _ _ _).le (by omega)⟩
 by_cases h12:k=12
 ·subst h12;have hv:opr 12 n nm (kdF ks) s=s.lay 10 0 0:=by simp[opr,barN]
  rw[hv];obtain⟨w1,hw1⟩:∃w1,w1=w.alloc (.cells #[.int .i64 12,.int .i64 n,stv nm,.slice ao ks.len cap] 34):=⟨_,rfl⟩
  obtain⟨g,hg⟩:∃g,g=w.heap.size:=⟨_,rfl⟩
  have s0:∀ {I:Nat->Prop},Step I w o w1 (newLab w o 0):=fun {I}=>by rw[hw1];exact boxStep I w o _
  have C1:w1.heap[g]?=some (.cells #[.int .i64 12,.int .i64 n,stv nm,.slice ao ks.len cap] 34):=by rw[hw1,hg];exact heap_alloc_new _ _
  have C1o:newLab w o 0 g=0:=by rw[hg];exact newLab_new (Nat.le_refl _)
  have E1:=h.step (s0 (I:=fun _=>False)) noF;have X1:=X.step (s0 (I:=fun _=>False)) id;have S1:=S.stepO (s0 (I:=fun _=>False)) id;have S0:=s0 (I:=I17);generalize newLab w o 0=o1 at *;obtain⟨⟨c0,c1,c2,c3⟩,-⟩:=cells4e C1;have HG:=Lib.hid hg;clear s0 hg h X S hdl hd;have HL:=lay_c 10 0 0 w1 o1 rb lv ls s (by omega) (by omega) (by omega) (by omega) X1 E1;have hbr:=X1.bar 12 (by omega);simp only[List.getD_cons_succ,List.getD_cons_zero] at hbr;clear hv;go_enter Tryz.func97,Tryz.ntmps97;go_upto_region 1 with fail;rw[<-hw1,<-HG.out];clear hw1;go_wp2_with (first|(go_at_call 47;refine HL.mono ?_;rintro e w2 ⟨rfl,o2,E2,S2⟩))
  go_end0
  exact⟨rfl,⟨o2,E2,S0.trans S2⟩,(gr_lay s _ _ _).le (by omega)⟩
 by_cases h13:k=13
 ·subst h13;have hl2:ks.len=2:=hdl.2.2.1 (by omega) (by omega);rw[hl2];obtain⟨x,y,hks⟩:=len_two hl2;have hx:okE nc x:=by rw[hks] at hok;exact(okF_ex hok).1
  have hb:=kdE_bd hx;obtain⟨kx,hkx⟩:∃kx:Nat,(kx:Int)=kdE x:=⟨(kdE x).toNat,by omega⟩
  have hv:opr 13 n nm (kdF ks) s=s.lay 11 0 kx:=by rw[hks,kdF_ex];simp[opr,<-hkx]
  rw[hv];rw[hks] at S;obtain⟨w1,hw1⟩:∃w1,w1=w.alloc (.cells #[.int .i64 13,.int .i64 n,stv nm,.slice ao 2 cap] 34):=⟨_,rfl⟩
  obtain⟨g,hg⟩:∃g,g=w.heap.size:=⟨_,rfl⟩
  have s0:∀ {I:Nat->Prop},Step I w o w1 (newLab w o 0):=fun {I}=>by rw[hw1];exact boxStep I w o _
  have C1:w1.heap[g]?=some (.cells #[.int .i64 13,.int .i64 n,stv nm,.slice ao 2 cap] 34):=by rw[hw1,hg];exact heap_alloc_new _ _
  have C1o:newLab w o 0 g=0:=by rw[hg];exact newLab_new (Nat.le_refl _)
  have E1:=h.step (s0 (I:=fun _=>False)) noF;have X1:=X.step (s0 (I:=fun _=>False)) id;have S1:=S.stepO (s0 (I:=fun _=>False)) id;have S0:=s0 (I:=I17);generalize newLab w o 0=o1 at *;obtain⟨⟨c0,c1,c2,c3⟩,-⟩:=cells4e C1;have HG:=Lib.hid hg;clear s0 hg h X S hdl hd;obtain⟨b,off,ak,ck,rfl,x0,x1,x2,x3,Sy⟩:=ekid0 S1;have HK:=kindOf_c nc (x.kids.size+1) x ak ck w1 (by omega) hx Sy.all;rw[exN_out,<-hkx] at HK;have hb2:kx<=3:=by omega
  clear hv hks S1 Sy hkx hb hl2;go_enter Tryz.func97,Tryz.ntmps97;go_upto_region 1 with fail;rw[<-hw1,<-HG.out];clear hw1;go_wp2_with fail;refine HK.mono ?_;rintro r w1b ⟨rfl,B1⟩;have HL:=lay_c 11 0 kx w1b o1 rb lv ls s (by omega) (by omega) (by omega) (by omega) (X1.below B1) (E1.below B1);have SB:Step I17 w1 o1 w1b o1:=Step.ofBelow o1 B1;clear HK;go_wp2_with (first|(go_at_call 47;refine HL.mono ?_;rintro e w2 ⟨rfl,o2,E2,S2⟩))
  go_end0
  exact⟨rfl,⟨o2,E2,(S0.trans SB).trans S2⟩,(gr_lay s _ _ _).le (by omega)⟩
 by_cases h14:k=14
 ·subst h14;have hl2:ks.len=2:=hdl.2.2.1 (by omega) (by omega);rw[hl2];obtain⟨x,y,hks⟩:=len_two hl2;have hx:okE nc x:=by rw[hks] at hok;exact(okF_ex hok).1
  have hb:=kdE_bd hx;obtain⟨kx,hkx⟩:∃kx:Nat,(kx:Int)=kdE x:=⟨(kdE x).toNat,by omega⟩
  have hv:opr 14 n nm (kdF ks) s=(s.lay 11 0 kx).lay 5 0 0:=by rw[hks,kdF_ex];simp[opr,<-hkx]
  rw[hv];rw[hks] at S;obtain⟨w1,hw1⟩:∃w1,w1=w.alloc (.cells #[.int .i64 14,.int .i64 n,stv nm,.slice ao 2 cap] 34):=⟨_,rfl⟩
  obtain⟨g,hg⟩:∃g,g=w.heap.size:=⟨_,rfl⟩
  have s0:∀ {I:Nat->Prop},Step I w o w1 (newLab w o 0):=fun {I}=>by rw[hw1];exact boxStep I w o _
  have C1:w1.heap[g]?=some (.cells #[.int .i64 14,.int .i64 n,stv nm,.slice ao 2 cap] 34):=by rw[hw1,hg];exact heap_alloc_new _ _
  have C1o:newLab w o 0 g=0:=by rw[hg];exact newLab_new (Nat.le_refl _)
  have E1:=h.step (s0 (I:=fun _=>False)) noF;have X1:=X.step (s0 (I:=fun _=>False)) id;have S1:=S.stepO (s0 (I:=fun _=>False)) id;have S0:=s0 (I:=I17);generalize newLab w o 0=o1 at *;obtain⟨⟨c0,c1,c2,c3⟩,-⟩:=cells4e C1;have HG:=Lib.hid hg;clear s0 hg h X S hdl hd;obtain⟨b,off,ak,ck,rfl,x0,x1,x2,x3,Sy⟩:=ekid0 S1;have HK:=kindOf_c nc (x.kids.size+1) x ak ck w1 (by omega) hx Sy.all;rw[exN_out,<-hkx] at HK;have hb2:kx<=3:=by omega
  clear hv hks S1 Sy hkx hb hl2;go_enter Tryz.func97,Tryz.ntmps97;go_upto_region 1 with fail;rw[<-hw1,<-HG.out];clear hw1;go_wp2_with fail;refine HK.mono ?_;rintro r w1b ⟨rfl,B1⟩;have HL:=lay_c 11 0 kx w1b o1 rb lv ls s (by omega) (by omega) (by omega) (by omega) (X1.below B1) (E1.below B1);have SB:Step I17 w1 o1 w1b o1:=Step.ofBelow o1 B1;clear HK;go_upto_region 7 with (first|(go_at_call 47;refine HL.mono ?_;rintro e w2 ⟨rfl,o2,E2,S2⟩))
  have gl:=gr_lay s 11 0 kx;have HL2:=lay_c 5 0 0 w2 o2 rb lv ls (s.lay 11 0 kx) (by omega) (by omega) (by omega) (by have:=gl.mes;omega) ((X1.below B1).step S2 (by decide)) E2;clear HL;go_wp2_with (first|(go_at_call 47;refine HL2.mono ?_;rintro e w3 ⟨rfl,o3,E3,S3⟩))
  go_end0
  exact⟨rfl,⟨o3,E3,((S0.trans SB).trans S2).trans S3⟩,(gl.trans (gr_lay _ _ _ _)).le (by omega)⟩
 by_cases h15:k=15
 ·subst h15;have hv:opr 15 n nm (kdF ks) s=s.lay 12 0 0:=by simp[opr]
  rw[hv];obtain⟨w1,hw1⟩:∃w1,w1=w.alloc (.cells #[.int .i64 15,.int .i64 n,stv nm,.slice ao ks.len cap] 34):=⟨_,rfl⟩
  obtain⟨g,hg⟩:∃g,g=w.heap.size:=⟨_,rfl⟩
  have s0:∀ {I:Nat->Prop},Step I w o w1 (newLab w o 0):=fun {I}=>by rw[hw1];exact boxStep I w o _
  have C1:w1.heap[g]?=some (.cells #[.int .i64 15,.int .i64 n,stv nm,.slice ao ks.len cap] 34):=by rw[hw1,hg];exact heap_alloc_new _ _
  have C1o:newLab w o 0 g=0:=by rw[hg];exact newLab_new (Nat.le_refl _)
  have E1:=h.step (s0 (I:=fun _=>False)) noF;have X1:=X.step (s0 (I:=fun _=>False)) id;have S1:=S.stepO (s0 (I:=fun _=>False)) id;have S0:=s0 (I:=I17);generalize newLab w o 0=o1 at *;obtain⟨⟨c0,c1,c2,c3⟩,-⟩:=cells4e C1;have HG:=Lib.hid hg;clear s0 hg h X S hdl hd;have HL:=lay_c 12 0 0 w1 o1 rb lv ls s (by omega) (by omega) (by omega) (by omega) X1 E1;clear hv;go_enter Tryz.func97,Tryz.ntmps97;go_upto_region 1 with fail;rw[<-hw1,<-HG.out];clear hw1;go_wp2_with (first|(go_at_call 47;refine HL.mono ?_;rintro e w2 ⟨rfl,o2,E2,S2⟩))
  go_end0
  exact⟨rfl,⟨o2,E2,S0.trans S2⟩,(gr_lay s _ _ _).le (by omega)⟩
 by_cases h16:k=16
 ·subst h16;have hv:opr 16 n nm (kdF ks) s=s.lay 12 0 1:=by simp[opr]
  rw[hv];obtain⟨w1,hw1⟩:∃w1,w1=w.alloc (.cells #[.int .i64 16,.int .i64 n,stv nm,.slice ao ks.len cap] 34):=⟨_,rfl⟩
  obtain⟨g,hg⟩:∃g,g=w.heap.size:=⟨_,rfl⟩
  have s0:∀ {I:Nat->Prop},Step I w o w1 (newLab w o 0):=fun {I}=>by rw[hw1];exact boxStep I w o _
  have C1:w1.heap[g]?=some (.cells #[.int .i64 16,.int .i64 n,stv nm,.slice ao ks.len cap] 34):=by rw[hw1,hg];exact heap_alloc_new _ _
  have C1o:newLab w o 0 g=0:=by rw[hg];exact newLab_new (Nat.le_refl _)
  have E1:=h.step (s0 (I:=fun _=>False)) noF;have X1:=X.step (s0 (I:=fun _=>False)) id;have S1:=S.stepO (s0 (I:=fun _=>False)) id;have S0:=s0 (I:=I17);generalize newLab w o 0=o1 at *;obtain⟨⟨c0,c1,c2,c3⟩,-⟩:=cells4e C1;have HG:=Lib.hid hg;clear s0 hg h X S hdl hd;have HL:=lay_c 12 0 1 w1 o1 rb lv ls s (by omega) (by omega) (by omega) (by omega) X1 E1;clear hv;go_enter Tryz.func97,Tryz.ntmps97;go_upto_region 1 with fail;rw[<-hw1,<-HG.out];clear hw1;go_wp2_with (first|(go_at_call 47;refine HL.mono ?_;rintro e w2 ⟨rfl,o2,E2,S2⟩))
  go_end0
  exact⟨rfl,⟨o2,E2,S0.trans S2⟩,(gr_lay s _ _ _).le (by omega)⟩
 by_cases h20:k=20
 ·subst h20;have hn:=hdl.2.2.2.2.1 rfl;obtain⟨n0,hn0⟩:∃n0:Nat,(n0:Int)=n:=⟨n.toNat,by omega⟩
  subst hn0;have hv:opr 20 (n0:Int) nm (kdF ks) s=s.lay 16 n0 0:=by simp[opr]
  rw[hv];obtain⟨w1,hw1⟩:∃w1,w1=w.alloc (.cells #[.int .i64 20,.int .i64 (n0:Int),stv nm,.slice ao ks.len cap] 34):=⟨_,rfl⟩
  obtain⟨g,hg⟩:∃g,g=w.heap.size:=⟨_,rfl⟩
  have s0:∀ {I:Nat->Prop},Step I w o w1 (newLab w o 0):=fun {I}=>by rw[hw1];exact boxStep I w o _
  have C1:w1.heap[g]?=some (.cells #[.int .i64 20,.int .i64 (n0:Int),stv nm,.slice ao ks.len cap] 34):=by rw[hw1,hg];exact heap_alloc_new _ _
  have C1o:newLab w o 0 g=0:=by rw[hg];exact newLab_new (Nat.le_refl _)
  have E1:=h.step (s0 (I:=fun _=>False)) noF;have X1:=X.step (s0 (I:=fun _=>False)) id;have S1:=S.stepO (s0 (I:=fun _=>False)) id;have S0:=s0 (I:=I17);generalize newLab w o 0=o1 at *;obtain⟨⟨c0,c1,c2,c3⟩,-⟩:=cells4e C1;have HG:=Lib.hid hg;clear s0 hg h X S hdl hd;have HL:=lay_c 16 n0 0 w1 o1 rb lv ls s (by omega) (by omega) (by omega) (by omega) X1 E1;clear hv;go_enter Tryz.func97,Tryz.ntmps97;go_upto_region 1 with fail;rw[<-hw1,<-HG.out];clear hw1;go_wp2_with (first|(go_at_call 47;refine HL.mono ?_;rintro e w2 ⟨rfl,o2,E2,S2⟩))
  go_end0
  exact⟨rfl,⟨o2,E2,S0.trans S2⟩,(gr_lay s _ _ _).le (by omega)⟩
 by_cases h22:k=22
 ·subst h22;have hv:opr 22 n nm (kdF ks) s=s.lay 20 0 0:=by simp[opr,barN]
  rw[hv];obtain⟨w1,hw1⟩:∃w1,w1=w.alloc (.cells #[.int .i64 22,.int .i64 n,stv nm,.slice ao ks.len cap] 34):=⟨_,rfl⟩
  obtain⟨g,hg⟩:∃g,g=w.heap.size:=⟨_,rfl⟩
  have s0:∀ {I:Nat->Prop},Step I w o w1 (newLab w o 0):=fun {I}=>by rw[hw1];exact boxStep I w o _
  have C1:w1.heap[g]?=some (.cells #[.int .i64 22,.int .i64 n,stv nm,.slice ao ks.len cap] 34):=by rw[hw1,hg];exact heap_alloc_new _ _
  have C1o:newLab w o 0 g=0:=by rw[hg];exact newLab_new (Nat.le_refl _)
  have E1:=h.step (s0 (I:=fun _=>False)) noF;have X1:=X.step (s0 (I:=fun _=>False)) id;have S1:=S.stepO (s0 (I:=fun _=>False)) id;have S0:=s0 (I:=I17);generalize newLab w o 0=o1 at *;obtain⟨⟨c0,c1,c2,c3⟩,-⟩:=cells4e C1;have HG:=Lib.hid hg;clear s0 hg h X S hdl hd;have HL:=lay_c 20 0 0 w1 o1 rb lv ls s (by omega) (by omega) (by omega) (by omega) X1 E1;have hbr:=X1.bar 22 (by omega);simp only[List.getD_cons_succ,List.getD_cons_zero] at hbr;clear hv;go_enter Tryz.func97,Tryz.ntmps97;go_upto_region 1 with fail;rw[<-hw1,<-HG.out];clear hw1;go_wp2_with (first|(go_at_call 47;refine HL.mono ?_;rintro e w2 ⟨rfl,o2,E2,S2⟩))
  go_end0
  exact⟨rfl,⟨o2,E2,S0.trans S2⟩,(gr_lay s _ _ _).le (by omega)⟩
 by_cases h23:k=23
 ·subst h23;have hv:opr 23 n nm (kdF ks) s=(s.kn nm).lay 21 (s.ns.idxOf nm) 0:=by simp[opr]
  rw[hv];obtain⟨w1,hw1⟩:∃w1,w1=w.alloc (.cells #[.int .i64 23,.int .i64 n,stv nm,.slice ao ks.len cap] 34):=⟨_,rfl⟩
  obtain⟨g,hg⟩:∃g,g=w.heap.size:=⟨_,rfl⟩
  have s0:∀ {I:Nat->Prop},Step I w o w1 (newLab w o 0):=fun {I}=>by rw[hw1];exact boxStep I w o _
  have C1:w1.heap[g]?=some (.cells #[.int .i64 23,.int .i64 n,stv nm,.slice ao ks.len cap] 34):=by rw[hw1,hg];exact heap_alloc_new _ _
  have C1o:newLab w o 0 g=0:=by rw[hg];exact newLab_new (Nat.le_refl _)
  have E1:=h.step (s0 (I:=fun _=>False)) noF;have X1:=X.step (s0 (I:=fun _=>False)) id;have S1:=S.stepO (s0 (I:=fun _=>False)) id;have S0:=s0 (I:=I17);generalize newLab w o 0=o1 at *;obtain⟨⟨c0,c1,c2,c3⟩,-⟩:=cells4e C1;have HG:=Lib.hid hg;clear s0 hg h X S hdl hd;have HN:=plname_c nm w1 o1 rb lv ls s hnm (by omega) X1 E1;have hi:s.ns.idxOf nm<=268435455:=by
   have:=List.idxOf_le_length (a:=nm) (l:=s.ns)
   unfold Em.mes at hm;omega
  have gk:=gr_kn s nm;clear hv;go_enter Tryz.func97,Tryz.ntmps97;go_upto_region 1 with fail;rw[<-hw1,<-HG.out];clear hw1;go_wp2_with fail;refine HN.mono ?_;rintro e w1b ⟨rfl,o1b,E1b,S1b⟩;have HL:=lay_c 21 (s.ns.idxOf nm) 0 w1b o1b rb lv ls (s.kn nm) (by omega) hi (by omega) (by have:=gk.mes;omega) (X1.step S1b (by decide)) E1b;clear HN;go_wp2_with (first|(go_at_call 47;refine HL.mono ?_;rintro e w2 ⟨rfl,o2,E2,S2⟩))
  go_end0
  exact⟨rfl,⟨o2,E2,(S0.trans S1b).trans S2⟩,(gk.trans (gr_lay _ _ _ _)).le (by omega)⟩
 by_cases h24:k=24
 ·subst h24;have hv:opr 24 n nm (kdF ks) s=s.lay 22 0 0:=by simp[opr,barN]
  rw[hv];obtain⟨w1,hw1⟩:∃w1,w1=w.alloc (.cells #[.int .i64 24,.int .i64 n,stv nm,.slice ao ks.len cap] 34):=⟨_,rfl⟩
  obtain⟨g,hg⟩:∃g,g=w.heap.size:=⟨_,rfl⟩
  have s0:∀ {I:Nat->Prop},Step I w o w1 (newLab w o 0):=fun {I}=>by rw[hw1];exact boxStep I w o _
  have C1:w1.heap[g]?=some (.cells #[.int .i64 24,.int .i64 n,stv nm,.slice ao ks.len cap] 34):=by rw[hw1,hg];exact heap_alloc_new _ _
  have C1o:newLab w o 0 g=0:=by rw[hg];exact newLab_new (Nat.le_refl _)
  have E1:=h.step (s0 (I:=fun _=>False)) noF;have X1:=X.step (s0 (I:=fun _=>False)) id;have S1:=S.stepO (s0 (I:=fun _=>False)) id;have S0:=s0 (I:=I17);generalize newLab w o 0=o1 at *;obtain⟨⟨c0,c1,c2,c3⟩,-⟩:=cells4e C1;have HG:=Lib.hid hg;clear s0 hg h X S hdl hd;have HL:=lay_c 22 0 0 w1 o1 rb lv ls s (by omega) (by omega) (by omega) (by omega) X1 E1;have hbr:=X1.bar 24 (by omega);simp only[List.getD_cons_succ,List.getD_cons_zero] at hbr;clear hv;go_enter Tryz.func97,Tryz.ntmps97;go_upto_region 1 with fail;rw[<-hw1,<-HG.out];clear hw1;go_wp2_with (first|(go_at_call 47;refine HL.mono ?_;rintro e w2 ⟨rfl,o2,E2,S2⟩))
  go_end0
  exact⟨rfl,⟨o2,E2,S0.trans S2⟩,(gr_lay s _ _ _).le (by omega)⟩
 by_cases h25:k=25
 ·subst h25;have hv:opr 25 n nm (kdF ks) s=s.lay 23 ks.len 0:=by simp[opr,kdF_len]
  rw[hv];obtain⟨w1,hw1⟩:∃w1,w1=w.alloc (.cells #[.int .i64 25,.int .i64 n,stv nm,.slice ao ks.len cap] 34):=⟨_,rfl⟩
  obtain⟨g,hg⟩:∃g,g=w.heap.size:=⟨_,rfl⟩
  have s0:∀ {I:Nat->Prop},Step I w o w1 (newLab w o 0):=fun {I}=>by rw[hw1];exact boxStep I w o _
  have C1:w1.heap[g]?=some (.cells #[.int .i64 25,.int .i64 n,stv nm,.slice ao ks.len cap] 34):=by rw[hw1,hg];exact heap_alloc_new _ _
  have C1o:newLab w o 0 g=0:=by rw[hg];exact newLab_new (Nat.le_refl _)
  have E1:=h.step (s0 (I:=fun _=>False)) noF;have X1:=X.step (s0 (I:=fun _=>False)) id;have S1:=S.stepO (s0 (I:=fun _=>False)) id;have S0:=s0 (I:=I17);generalize newLab w o 0=o1 at *;obtain⟨⟨c0,c1,c2,c3⟩,-⟩:=cells4e C1;have HG:=Lib.hid hg;clear s0 hg h X S hdl hd;have HL:=lay_c 23 ks.len 0 w1 o1 rb lv ls s (by omega) (by omega) (by omega) (by omega) X1 E1;clear hv;go_enter Tryz.func97,Tryz.ntmps97;go_upto_region 1 with fail;rw[<-hw1,<-HG.out];clear hw1;go_wp2_with (first|(go_at_call 47;refine HL.mono ?_;rintro e w2 ⟨rfl,o2,E2,S2⟩))
  go_end0
  exact⟨rfl,⟨o2,E2,S0.trans S2⟩,(gr_lay s _ _ _).le (by omega)⟩
 exfalso;rcases hk with h|h|h|h|h|h|h|h|h|h|h|h|h|h|h|h<;>contradiction
end Go.Proofs.YtbjdkekhnajafaaGreatDoor

import Derived.Test.YtnfmpocfakblmaaGreatDoorEmF
set_option maxRecDepth 100000
set_option maxHeartbeats 8000000
namespace Go.Proofs.YtnfmpocfakblmaaGreatDoor
open Go.ChangeShapes Go.WideShapes Go.ChangeAt Go.RowKit
set_option linter.unusedVariables false
set_option linter.unusedSimpArgs false
theorem callKind_c (n:Int)(w:World):Calls Tryz.prog 130 #[.int .i64 n] w fun e w'=>e=.returned (.int .i64 (cakN n))/\w'=w:=by
 by_cases h1:n=1
 ·subst h1;go_enter Tryz.func130,Tryz.ntmps130;go_wp2;go_ret;exact⟨rfl,rfl⟩
 ·by_cases h2:n=2
  ·subst h2;go_enter Tryz.func130,Tryz.ntmps130;go_wp2;go_ret;exact⟨rfl,rfl⟩
  ·by_cases h3:n=10
   ·subst h3;go_enter Tryz.func130,Tryz.ntmps130;go_wp2;go_ret;exact⟨rfl,rfl⟩
   ·have e:cakN n=1:=by simp[cakN,h1,h2,h3]
    rw[e];go_enter Tryz.func130,Tryz.ntmps130;go_wp2;go_ret;exact⟨rfl,rfl⟩
theorem quantKind_c (n:Int)(w:World):Calls Tryz.prog 131 #[.int .i64 n] w fun e w'=>e=.returned (.int .i64 (qukN n))/\w'=w:=by
 by_cases h1:n=1
 ·subst h1;go_enter Tryz.func131,Tryz.ntmps131;go_wp2;go_ret;exact⟨rfl,rfl⟩
 ·by_cases h2:n=2
  ·subst h2;go_enter Tryz.func131,Tryz.ntmps131;go_wp2;go_ret;exact⟨rfl,rfl⟩
  ·have e:qukN n=1:=by simp[qukN,h1,h2]
   rw[e];go_enter Tryz.func131,Tryz.ntmps131;go_wp2;go_ret;exact⟨rfl,rfl⟩
theorem len_one {f:Fs}(h:f.len=1):∃x,f=Fs.ex x .nil:=by
 cases f using Fs.on with
 | nil=>simp[Fs.len] at h
 | cons k n nm a ks r =>
  cases r using Fs.on with
  | nil=>exact⟨⟨k,n,nm,a,ks⟩,rfl⟩
  | cons=>simp[Fs.len] at h
theorem len_two {f:Fs}(h:f.len=2):∃x y,f=Fs.ex x (Fs.ex y .nil):=by
 cases f using Fs.on with
 | nil=>simp[Fs.len] at h
 | cons k n nm a ks r =>
  obtain⟨y,rfl⟩:=len_one (f:=r) (by simp[Fs.len] at h;exact h);exact⟨⟨k,n,nm,a,ks⟩,y,rfl⟩
theorem len_three {f:Fs}(h:f.len=3):∃x y z,f=Fs.ex x (Fs.ex y (Fs.ex z .nil)):=by
 cases f using Fs.on with
 | nil=>simp[Fs.len] at h
 | cons k n nm a ks r =>
  obtain⟨y,z,rfl⟩:=len_two (f:=r) (by simp[Fs.len] at h;exact h);exact⟨⟨k,n,nm,a,ks⟩,y,z,rfl⟩
theorem doc_len {k n:Int}{nm:List UInt8}{len:Nat}(h:docF k n nm len=true):(k=19->len=3)/\(k=26->len=1)/\(8<=k->k<=18->len=2)/\(k=21->len=2/\1<=n/\n<=6)/\(k=20->1<=n/\n<=10)/\(k=5\/k=3->0<=n)/\(k=22\/k=23->len=0)/\(k=1\/k=2\/k=3\/k=5->len=0):=by
 unfold docF at h;refine⟨fun e=>?_,fun e=>?_,fun e1 e2=>?_,fun e=>?_,fun e=>?_,fun e=>?_,fun e=>?_,fun e=>?_⟩
 ·subst e;simp at h;omega
 ·subst e;simp at h;omega
 ·rw[if_neg (by omega),if_neg (by omega),if_neg (by omega),if_neg (by omega),if_pos (by omega)] at h;simp at h;omega
 ·subst e;simp at h;omega
 ·subst e;simp at h;omega
 ·rcases e with rfl|rfl<;>simp at h<;>omega
 ·rcases e with rfl|rfl<;>simp at h<;>omega
 ·rcases e with rfl|rfl|rfl|rfl<;>simp at h<;>omega
theorem ekid0 {P:Nat->Prop}{w:World}{y:Ex}{r:Fs}{ao:Option Addr}(h:SlN w P (Fs.ex y r) ao):∃b off ak ck,ao=some ⟨b,off,none⟩/\w.cell? ⟨b,off,none⟩=some (.int .i64 y.k)/\w.cell? ⟨b,off+1,none⟩=some (.int .i64 y.n)/\w.cell? ⟨b,off+2,none⟩=some (stv y.nm)/\w.cell? ⟨b,off+3,none⟩=some (.slice ak y.kids.len ck)/\SlN w P y.kids ak:=by
 obtain⟨b,off,ak,ck,h1,h2,h3,h4,h5,h6⟩:=SlN.kidP (x:=.nil) (r:=r) (y:=y) h 0 rfl;exact⟨b,off,ak,ck,h1,h2,h3,h4,h5,h6⟩
theorem ekid1 {P:Nat->Prop}{w:World}{x y:Ex}{r:Fs}{ao:Option Addr}(h:SlN w P (Fs.ex x (Fs.ex y r)) ao):∃b off ak ck,ao=some ⟨b,off,none⟩/\w.cell? ⟨b,off+4,none⟩=some (.int .i64 y.k)/\w.cell? ⟨b,off+5,none⟩=some (.int .i64 y.n)/\w.cell? ⟨b,off+6,none⟩=some (stv y.nm)/\w.cell? ⟨b,off+7,none⟩=some (.slice ak y.kids.len ck)/\SlN w P y.kids ak:=by
 obtain⟨b,off,ak,ck,h1,h2,h3,h4,h5,h6⟩:=SlN.kidP (x:=one x) (r:=r) (y:=y) h 1 rfl;exact⟨b,off,ak,ck,h1,h2,h3,h4,h5,h6⟩
theorem cells4e {w:World}{b:Nat}{x0 x1 x2 x3:Value}{t:TypeId}(h:w.heap[b]?=some (.cells #[x0,x1,x2,x3] t)):(w.cell? ⟨b,0,none⟩=some x0/\w.cell? ⟨b,1,none⟩=some x1/\w.cell? ⟨b,2,none⟩=some x2/\w.cell? ⟨b,3,none⟩=some x3)/\∀ j,w.frozen? ⟨b,j,none⟩=false:=by
 refine⟨⟨?_,?_,?_,?_⟩,fun j=>?_⟩<;>simp[World.cell?,World.frozen?,h]
theorem okF_ex {nc:Nat}{x:Ex}{r:Fs}(h:okF nc (Fs.ex x r)):okE nc x/\okF nc r:=⟨⟨h.1,h.2.1⟩,h.2.2⟩
theorem esize_ex (x:Ex)(r:Fs):(Fs.ex x r).size=x.kids.size+r.size+1:=rfl
theorem kdF_ex (x:Ex)(r:Fs):kdF (Fs.ex x r)=kdE x::kdF r:=rfl
theorem kindOf_c (nc N:Nat):∀ (e:Ex) (ao:Option Addr) (cap:Nat) (w:World),e.kids.size<N->okE nc e->SnA w e.kids ao ->
  Calls Tryz.prog 78 #[exN e ao cap] w fun r w'=>r=.returned (.int .i64 (kdE e))/\Below w.heap.size w w':=by
 induction N with
 | zero=>intro e ao cap w hs;omega
 | succ N ih =>
  intro e ao cap w hs ho S;obtain⟨k,n,nm,a,ks⟩:=e;obtain⟨⟨hd,-,-⟩,hk⟩:=ho;simp only at hs hd hk S;rw[exN_out];simp only;have hdl:=doc_len hd;by_cases h19:k=19
  ·subst h19;have hlen:ks.len=3:=hdl.1 rfl;rw[hlen];obtain⟨x,y,z,hks⟩:=len_three hlen;have S':=S;rw[hks] at S' hk hs;obtain⟨w1,hw1⟩:∃w1,w1=w.alloc (.cells #[.int .i64 19,.int .i64 n,stv nm,.slice ao 3 cap] 34):=⟨_,rfl⟩
   obtain⟨g,hg⟩:∃g,g=w.heap.size:=⟨_,rfl⟩
   have B1:Below w.heap.size w w1:=by rw[hw1];exact b1 _ _
   have C1:w1.heap[g]?=some (.cells #[.int .i64 19,.int .i64 n,stv nm,.slice ao 3 cap] 34):=by rw[hw1,hg];exact heap_alloc_new _ _
   obtain⟨⟨c0,c1,c2,c3⟩,-⟩:=cells4e C1;have HG:=Lib.hid hg;have HB:=Lib.hid B1;obtain⟨b,off,ak,ck,rfl,x0,x1,x2,x3,Sy⟩:=ekid1 (S'.below B1);have hv:kdE ⟨19,n,nm,a,ks⟩=kdE y:=by simp only[kdE,hks,kdF_ex];simp[kdN]
   rw[hv];have HC:=ih y ak ck w1 (by simp only[esize_ex] at hs;omega) (okF_ex (okF_ex hk).2).1 Sy;rw[exN_out] at HC;clear B1 S S' hks hk hs hg C1 hv hdl hd;go_enter Tryz.func78,Tryz.ntmps78;go_upto_region 1 with fail;rw[<-hw1,<-HG.out];clear hw1;go_wp2_with fail;refine HC.mono ?_;rintro r w2 ⟨rfl,B2⟩;go_wp2;go_ret;exact⟨rfl,HB.out.trans (B2.mono HB.out.size)⟩
  by_cases h26:k=26
  ·subst h26;have hlen:ks.len=1:=hdl.2.1 rfl;rw[hlen];obtain⟨x,hks⟩:=len_one hlen;have S':=S;rw[hks] at S' hk hs;obtain⟨w1,hw1⟩:∃w1,w1=w.alloc (.cells #[.int .i64 26,.int .i64 n,stv nm,.slice ao 1 cap] 34):=⟨_,rfl⟩
   obtain⟨g,hg⟩:∃g,g=w.heap.size:=⟨_,rfl⟩
   have B1:Below w.heap.size w w1:=by rw[hw1];exact b1 _ _
   have C1:w1.heap[g]?=some (.cells #[.int .i64 26,.int .i64 n,stv nm,.slice ao 1 cap] 34):=by rw[hw1,hg];exact heap_alloc_new _ _
   obtain⟨⟨c0,c1,c2,c3⟩,-⟩:=cells4e C1;have HG:=Lib.hid hg;have HB:=Lib.hid B1;obtain⟨b,off,ak,ck,rfl,x0,x1,x2,x3,Sy⟩:=ekid0 (S'.below B1);have hv:kdE ⟨26,n,nm,a,ks⟩=kdE x:=by simp only[kdE,hks,kdF_ex];simp[kdN]
   rw[hv];have HC:=ih x ak ck w1 (by simp only[esize_ex] at hs;omega) (okF_ex hk).1 Sy;rw[exN_out] at HC;clear B1 S S' hks hk hs hg C1 hv hdl hd;go_enter Tryz.func78,Tryz.ntmps78;go_upto_region 1 with fail;rw[<-hw1,<-HG.out];clear hw1;go_wp2_with fail;refine HC.mono ?_;rintro r w2 ⟨rfl,B2⟩;go_wp2;go_ret;exact⟨rfl,HB.out.trans (B2.mono HB.out.size)⟩
  by_cases h20:k=20
  ·subst h20;have hv:kdE ⟨20,n,nm,a,ks⟩=cakN n:=by simp[kdE,kdN]
   rw[hv];obtain⟨w1,hw1⟩:∃w1,w1=w.alloc (.cells #[.int .i64 20,.int .i64 n,stv nm,.slice ao ks.len cap] 34):=⟨_,rfl⟩
   obtain⟨g,hg⟩:∃g,g=w.heap.size:=⟨_,rfl⟩
   have B1:Below w.heap.size w w1:=by rw[hw1];exact b1 _ _
   have C1:w1.heap[g]?=some (.cells #[.int .i64 20,.int .i64 n,stv nm,.slice ao ks.len cap] 34):=by rw[hw1,hg];exact heap_alloc_new _ _
   obtain⟨⟨c0,c1,c2,c3⟩,-⟩:=cells4e C1;have HG:=Lib.hid hg;have HB:=Lib.hid B1;have HC:=callKind_c n w1;clear B1 S hk hs hg C1 hv hdl hd;go_enter Tryz.func78,Tryz.ntmps78;go_upto_region 1 with fail;rw[<-hw1,<-HG.out];clear hw1;go_wp2_with fail;refine HC.mono ?_;rintro r w2 ⟨rfl,hww⟩;subst hww;go_wp2;go_ret;exact⟨rfl,HB.out⟩
  by_cases h21:k=21
  ·subst h21;have hv:kdE ⟨21,n,nm,a,ks⟩=qukN n:=by simp[kdE,kdN]
   rw[hv];obtain⟨w1,hw1⟩:∃w1,w1=w.alloc (.cells #[.int .i64 21,.int .i64 n,stv nm,.slice ao ks.len cap] 34):=⟨_,rfl⟩
   obtain⟨g,hg⟩:∃g,g=w.heap.size:=⟨_,rfl⟩
   have B1:Below w.heap.size w w1:=by rw[hw1];exact b1 _ _
   have C1:w1.heap[g]?=some (.cells #[.int .i64 21,.int .i64 n,stv nm,.slice ao ks.len cap] 34):=by rw[hw1,hg];exact heap_alloc_new _ _
   obtain⟨⟨c0,c1,c2,c3⟩,-⟩:=cells4e C1;have HG:=Lib.hid hg;have HB:=Lib.hid B1;have HC:=quantKind_c n w1;clear B1 S hk hs hg C1 hv hdl hd;go_enter Tryz.func78,Tryz.ntmps78;go_upto_region 1 with fail;rw[<-hw1,<-HG.out];clear hw1;go_wp2_with fail;refine HC.mono ?_;rintro r w2 ⟨rfl,hww⟩;subst hww;go_wp2;go_ret;exact⟨rfl,HB.out⟩
  by_cases h1:k=1
  ·subst h1;have hv:kdE ⟨1,n,nm,a,ks⟩=1:=by simp[kdE,kdN]
   rw[hv];obtain⟨w1,hw1⟩:∃w1,w1=w.alloc (.cells #[.int .i64 1,.int .i64 n,stv nm,.slice ao ks.len cap] 34):=⟨_,rfl⟩
   obtain⟨g,hg⟩:∃g,g=w.heap.size:=⟨_,rfl⟩
   have B1:Below w.heap.size w w1:=by rw[hw1];exact b1 _ _
   have C1:w1.heap[g]?=some (.cells #[.int .i64 1,.int .i64 n,stv nm,.slice ao ks.len cap] 34):=by rw[hw1,hg];exact heap_alloc_new _ _
   obtain⟨⟨c0,c1,c2,c3⟩,-⟩:=cells4e C1;have HG:=Lib.hid hg;have HB:=Lib.hid B1;clear B1 S hk hs hg C1 hv hd hdl ih;go_enter Tryz.func78,Tryz.ntmps78;go_upto_region 1 with fail;rw[<-hw1,<-HG.out];clear hw1;go_wp2;go_ret;exact⟨rfl,HB.out⟩
  by_cases h2:k=2
  ·subst h2;have hv:kdE ⟨2,n,nm,a,ks⟩=2:=by simp[kdE,kdN]
   rw[hv];obtain⟨w1,hw1⟩:∃w1,w1=w.alloc (.cells #[.int .i64 2,.int .i64 n,stv nm,.slice ao ks.len cap] 34):=⟨_,rfl⟩
   obtain⟨g,hg⟩:∃g,g=w.heap.size:=⟨_,rfl⟩
   have B1:Below w.heap.size w w1:=by rw[hw1];exact b1 _ _
   have C1:w1.heap[g]?=some (.cells #[.int .i64 2,.int .i64 n,stv nm,.slice ao ks.len cap] 34):=by rw[hw1,hg];exact heap_alloc_new _ _
   obtain⟨⟨c0,c1,c2,c3⟩,-⟩:=cells4e C1;have HG:=Lib.hid hg;have HB:=Lib.hid B1;clear B1 S hk hs hg C1 hv hd hdl ih;go_enter Tryz.func78,Tryz.ntmps78;go_upto_region 1 with fail;rw[<-hw1,<-HG.out];clear hw1;go_wp2;go_ret;exact⟨rfl,HB.out⟩
  by_cases h3:k=3
  ·subst h3;have hv:kdE ⟨3,n,nm,a,ks⟩=3:=by simp[kdE,kdN]
   rw[hv];obtain⟨w1,hw1⟩:∃w1,w1=w.alloc (.cells #[.int .i64 3,.int .i64 n,stv nm,.slice ao ks.len cap] 34):=⟨_,rfl⟩
   obtain⟨g,hg⟩:∃g,g=w.heap.size:=⟨_,rfl⟩
   have B1:Below w.heap.size w w1:=by rw[hw1];exact b1 _ _
   have C1:w1.heap[g]?=some (.cells #[.int .i64 3,.int .i64 n,stv nm,.slice ao ks.len cap] 34):=by rw[hw1,hg];exact heap_alloc_new _ _
   obtain⟨⟨c0,c1,c2,c3⟩,-⟩:=cells4e C1;have HG:=Lib.hid hg;have HB:=Lib.hid B1;clear B1 S hk hs hg C1 hv hd hdl ih;go_enter Tryz.func78,Tryz.ntmps78;go_upto_region 1 with fail;rw[<-hw1,<-HG.out];clear hw1;go_wp2;go_ret;exact⟨rfl,HB.out⟩
  by_cases h5:k=5
  ·subst h5;have hv:kdE ⟨5,n,nm,a,ks⟩=3:=by simp[kdE,kdN]
   rw[hv];obtain⟨w1,hw1⟩:∃w1,w1=w.alloc (.cells #[.int .i64 5,.int .i64 n,stv nm,.slice ao ks.len cap] 34):=⟨_,rfl⟩
   obtain⟨g,hg⟩:∃g,g=w.heap.size:=⟨_,rfl⟩
   have B1:Below w.heap.size w w1:=by rw[hw1];exact b1 _ _
   have C1:w1.heap[g]?=some (.cells #[.int .i64 5,.int .i64 n,stv nm,.slice ao ks.len cap] 34):=by rw[hw1,hg];exact heap_alloc_new _ _
   obtain⟨⟨c0,c1,c2,c3⟩,-⟩:=cells4e C1;have HG:=Lib.hid hg;have HB:=Lib.hid B1;clear B1 S hk hs hg C1 hv hd hdl ih;go_enter Tryz.func78,Tryz.ntmps78;go_upto_region 1 with fail;rw[<-hw1,<-HG.out];clear hw1;go_wp2;go_ret;exact⟨rfl,HB.out⟩
  by_cases h6:k=6
  ·subst h6;have hv:kdE ⟨6,n,nm,a,ks⟩=1:=by simp[kdE,kdN]
   rw[hv];obtain⟨w1,hw1⟩:∃w1,w1=w.alloc (.cells #[.int .i64 6,.int .i64 n,stv nm,.slice ao ks.len cap] 34):=⟨_,rfl⟩
   obtain⟨g,hg⟩:∃g,g=w.heap.size:=⟨_,rfl⟩
   have B1:Below w.heap.size w w1:=by rw[hw1];exact b1 _ _
   have C1:w1.heap[g]?=some (.cells #[.int .i64 6,.int .i64 n,stv nm,.slice ao ks.len cap] 34):=by rw[hw1,hg];exact heap_alloc_new _ _
   obtain⟨⟨c0,c1,c2,c3⟩,-⟩:=cells4e C1;have HG:=Lib.hid hg;have HB:=Lib.hid B1;clear B1 S hk hs hg C1 hv hd hdl ih;go_enter Tryz.func78,Tryz.ntmps78;go_upto_region 1 with fail;rw[<-hw1,<-HG.out];clear hw1;go_wp2;go_ret;exact⟨rfl,HB.out⟩
  by_cases h7:k=7
  ·subst h7;have hv:kdE ⟨7,n,nm,a,ks⟩=2:=by simp[kdE,kdN]
   rw[hv];obtain⟨w1,hw1⟩:∃w1,w1=w.alloc (.cells #[.int .i64 7,.int .i64 n,stv nm,.slice ao ks.len cap] 34):=⟨_,rfl⟩
   obtain⟨g,hg⟩:∃g,g=w.heap.size:=⟨_,rfl⟩
   have B1:Below w.heap.size w w1:=by rw[hw1];exact b1 _ _
   have C1:w1.heap[g]?=some (.cells #[.int .i64 7,.int .i64 n,stv nm,.slice ao ks.len cap] 34):=by rw[hw1,hg];exact heap_alloc_new _ _
   obtain⟨⟨c0,c1,c2,c3⟩,-⟩:=cells4e C1;have HG:=Lib.hid hg;have HB:=Lib.hid B1;clear B1 S hk hs hg C1 hv hd hdl ih;go_enter Tryz.func78,Tryz.ntmps78;go_upto_region 1 with fail;rw[<-hw1,<-HG.out];clear hw1;go_wp2;go_ret;exact⟨rfl,HB.out⟩
  by_cases h8:k=8
  ·subst h8;have hv:kdE ⟨8,n,nm,a,ks⟩=1:=by simp[kdE,kdN]
   rw[hv];obtain⟨w1,hw1⟩:∃w1,w1=w.alloc (.cells #[.int .i64 8,.int .i64 n,stv nm,.slice ao ks.len cap] 34):=⟨_,rfl⟩
   obtain⟨g,hg⟩:∃g,g=w.heap.size:=⟨_,rfl⟩
   have B1:Below w.heap.size w w1:=by rw[hw1];exact b1 _ _
   have C1:w1.heap[g]?=some (.cells #[.int .i64 8,.int .i64 n,stv nm,.slice ao ks.len cap] 34):=by rw[hw1,hg];exact heap_alloc_new _ _
   obtain⟨⟨c0,c1,c2,c3⟩,-⟩:=cells4e C1;have HG:=Lib.hid hg;have HB:=Lib.hid B1;clear B1 S hk hs hg C1 hv hd hdl ih;go_enter Tryz.func78,Tryz.ntmps78;go_upto_region 1 with fail;rw[<-hw1,<-HG.out];clear hw1;go_wp2;go_ret;exact⟨rfl,HB.out⟩
  by_cases h9:k=9
  ·subst h9;have hv:kdE ⟨9,n,nm,a,ks⟩=1:=by simp[kdE,kdN]
   rw[hv];obtain⟨w1,hw1⟩:∃w1,w1=w.alloc (.cells #[.int .i64 9,.int .i64 n,stv nm,.slice ao ks.len cap] 34):=⟨_,rfl⟩
   obtain⟨g,hg⟩:∃g,g=w.heap.size:=⟨_,rfl⟩
   have B1:Below w.heap.size w w1:=by rw[hw1];exact b1 _ _
   have C1:w1.heap[g]?=some (.cells #[.int .i64 9,.int .i64 n,stv nm,.slice ao ks.len cap] 34):=by rw[hw1,hg];exact heap_alloc_new _ _
   obtain⟨⟨c0,c1,c2,c3⟩,-⟩:=cells4e C1;have HG:=Lib.hid hg;have HB:=Lib.hid B1;clear B1 S hk hs hg C1 hv hd hdl ih;go_enter Tryz.func78,Tryz.ntmps78;go_upto_region 1 with fail;rw[<-hw1,<-HG.out];clear hw1;go_wp2;go_ret;exact⟨rfl,HB.out⟩
  by_cases h10:k=10
  ·subst h10;have hv:kdE ⟨10,n,nm,a,ks⟩=1:=by simp[kdE,kdN]
   rw[hv];obtain⟨w1,hw1⟩:∃w1,w1=w.alloc (.cells #[.int .i64 10,.int .i64 n,stv nm,.slice ao ks.len cap] 34):=⟨_,rfl⟩
   obtain⟨g,hg⟩:∃g,g=w.heap.size:=⟨_,rfl⟩
   have B1:Below w.heap.size w w1:=by rw[hw1];exact b1 _ _
   have C1:w1.heap[g]?=some (.cells #[.int .i64 10,.int .i64 n,stv nm,.slice ao ks.len cap] 34):=by rw[hw1,hg];exact heap_alloc_new _ _
   obtain⟨⟨c0,c1,c2,c3⟩,-⟩:=cells4e C1;have HG:=Lib.hid hg;have HB:=Lib.hid B1;clear B1 S hk hs hg C1 hv hd hdl ih;go_enter Tryz.func78,Tryz.ntmps78;go_upto_region 1 with fail;rw[<-hw1,<-HG.out];clear hw1;go_wp2;go_ret;exact⟨rfl,HB.out⟩
  by_cases h11:k=11
  ·subst h11;have hv:kdE ⟨11,n,nm,a,ks⟩=1:=by simp[kdE,kdN]
   rw[hv];obtain⟨w1,hw1⟩:∃w1,w1=w.alloc (.cells #[.int .i64 11,.int .i64 n,stv nm,.slice ao ks.len cap] 34):=⟨_,rfl⟩
   obtain⟨g,hg⟩:∃g,g=w.heap.size:=⟨_,rfl⟩
   have B1:Below w.heap.size w w1:=by rw[hw1];exact b1 _ _
   have C1:w1.heap[g]?=some (.cells #[.int .i64 11,.int .i64 n,stv nm,.slice ao ks.len cap] 34):=by rw[hw1,hg];exact heap_alloc_new _ _
   obtain⟨⟨c0,c1,c2,c3⟩,-⟩:=cells4e C1;have HG:=Lib.hid hg;have HB:=Lib.hid B1;clear B1 S hk hs hg C1 hv hd hdl ih;go_enter Tryz.func78,Tryz.ntmps78;go_upto_region 1 with fail;rw[<-hw1,<-HG.out];clear hw1;go_wp2;go_ret;exact⟨rfl,HB.out⟩
  by_cases h12:k=12
  ·subst h12;have hv:kdE ⟨12,n,nm,a,ks⟩=1:=by simp[kdE,kdN]
   rw[hv];obtain⟨w1,hw1⟩:∃w1,w1=w.alloc (.cells #[.int .i64 12,.int .i64 n,stv nm,.slice ao ks.len cap] 34):=⟨_,rfl⟩
   obtain⟨g,hg⟩:∃g,g=w.heap.size:=⟨_,rfl⟩
   have B1:Below w.heap.size w w1:=by rw[hw1];exact b1 _ _
   have C1:w1.heap[g]?=some (.cells #[.int .i64 12,.int .i64 n,stv nm,.slice ao ks.len cap] 34):=by rw[hw1,hg];exact heap_alloc_new _ _
   obtain⟨⟨c0,c1,c2,c3⟩,-⟩:=cells4e C1;have HG:=Lib.hid hg;have HB:=Lib.hid B1;clear B1 S hk hs hg C1 hv hd hdl ih;go_enter Tryz.func78,Tryz.ntmps78;go_upto_region 1 with fail;rw[<-hw1,<-HG.out];clear hw1;go_wp2;go_ret;exact⟨rfl,HB.out⟩
  by_cases h13:k=13
  ·subst h13;have hv:kdE ⟨13,n,nm,a,ks⟩=2:=by simp[kdE,kdN]
   rw[hv];obtain⟨w1,hw1⟩:∃w1,w1=w.alloc (.cells #[.int .i64 13,.int .i64 n,stv nm,.slice ao ks.len cap] 34):=⟨_,rfl⟩
   obtain⟨g,hg⟩:∃g,g=w.heap.size:=⟨_,rfl⟩
   have B1:Below w.heap.size w w1:=by rw[hw1];exact b1 _ _
   have C1:w1.heap[g]?=some (.cells #[.int .i64 13,.int .i64 n,stv nm,.slice ao ks.len cap] 34):=by rw[hw1,hg];exact heap_alloc_new _ _
   obtain⟨⟨c0,c1,c2,c3⟩,-⟩:=cells4e C1;have HG:=Lib.hid hg;have HB:=Lib.hid B1;clear B1 S hk hs hg C1 hv hd hdl ih;go_enter Tryz.func78,Tryz.ntmps78;go_upto_region 1 with fail;rw[<-hw1,<-HG.out];clear hw1;go_wp2;go_ret;exact⟨rfl,HB.out⟩
  by_cases h14:k=14
  ·subst h14;have hv:kdE ⟨14,n,nm,a,ks⟩=2:=by simp[kdE,kdN]
   rw[hv];obtain⟨w1,hw1⟩:∃w1,w1=w.alloc (.cells #[.int .i64 14,.int .i64 n,stv nm,.slice ao ks.len cap] 34):=⟨_,rfl⟩
   obtain⟨g,hg⟩:∃g,g=w.heap.size:=⟨_,rfl⟩
   have B1:Below w.heap.size w w1:=by rw[hw1];exact b1 _ _
   have C1:w1.heap[g]?=some (.cells #[.int .i64 14,.int .i64 n,stv nm,.slice ao ks.len cap] 34):=by rw[hw1,hg];exact heap_alloc_new _ _
   obtain⟨⟨c0,c1,c2,c3⟩,-⟩:=cells4e C1;have HG:=Lib.hid hg;have HB:=Lib.hid B1;clear B1 S hk hs hg C1 hv hd hdl ih;go_enter Tryz.func78,Tryz.ntmps78;go_upto_region 1 with fail;rw[<-hw1,<-HG.out];clear hw1;go_wp2;go_ret;exact⟨rfl,HB.out⟩
  by_cases h15:k=15
  ·subst h15;have hv:kdE ⟨15,n,nm,a,ks⟩=2:=by simp[kdE,kdN]
   rw[hv];obtain⟨w1,hw1⟩:∃w1,w1=w.alloc (.cells #[.int .i64 15,.int .i64 n,stv nm,.slice ao ks.len cap] 34):=⟨_,rfl⟩
   obtain⟨g,hg⟩:∃g,g=w.heap.size:=⟨_,rfl⟩
   have B1:Below w.heap.size w w1:=by rw[hw1];exact b1 _ _
   have C1:w1.heap[g]?=some (.cells #[.int .i64 15,.int .i64 n,stv nm,.slice ao ks.len cap] 34):=by rw[hw1,hg];exact heap_alloc_new _ _
   obtain⟨⟨c0,c1,c2,c3⟩,-⟩:=cells4e C1;have HG:=Lib.hid hg;have HB:=Lib.hid B1;clear B1 S hk hs hg C1 hv hd hdl ih;go_enter Tryz.func78,Tryz.ntmps78;go_upto_region 1 with fail;rw[<-hw1,<-HG.out];clear hw1;go_wp2;go_ret;exact⟨rfl,HB.out⟩
  by_cases h16:k=16
  ·subst h16;have hv:kdE ⟨16,n,nm,a,ks⟩=2:=by simp[kdE,kdN]
   rw[hv];obtain⟨w1,hw1⟩:∃w1,w1=w.alloc (.cells #[.int .i64 16,.int .i64 n,stv nm,.slice ao ks.len cap] 34):=⟨_,rfl⟩
   obtain⟨g,hg⟩:∃g,g=w.heap.size:=⟨_,rfl⟩
   have B1:Below w.heap.size w w1:=by rw[hw1];exact b1 _ _
   have C1:w1.heap[g]?=some (.cells #[.int .i64 16,.int .i64 n,stv nm,.slice ao ks.len cap] 34):=by rw[hw1,hg];exact heap_alloc_new _ _
   obtain⟨⟨c0,c1,c2,c3⟩,-⟩:=cells4e C1;have HG:=Lib.hid hg;have HB:=Lib.hid B1;clear B1 S hk hs hg C1 hv hd hdl ih;go_enter Tryz.func78,Tryz.ntmps78;go_upto_region 1 with fail;rw[<-hw1,<-HG.out];clear hw1;go_wp2;go_ret;exact⟨rfl,HB.out⟩
  by_cases h17:k=17
  ·subst h17;have hv:kdE ⟨17,n,nm,a,ks⟩=2:=by simp[kdE,kdN]
   rw[hv];obtain⟨w1,hw1⟩:∃w1,w1=w.alloc (.cells #[.int .i64 17,.int .i64 n,stv nm,.slice ao ks.len cap] 34):=⟨_,rfl⟩
   obtain⟨g,hg⟩:∃g,g=w.heap.size:=⟨_,rfl⟩
   have B1:Below w.heap.size w w1:=by rw[hw1];exact b1 _ _
   have C1:w1.heap[g]?=some (.cells #[.int .i64 17,.int .i64 n,stv nm,.slice ao ks.len cap] 34):=by rw[hw1,hg];exact heap_alloc_new _ _
   obtain⟨⟨c0,c1,c2,c3⟩,-⟩:=cells4e C1;have HG:=Lib.hid hg;have HB:=Lib.hid B1;clear B1 S hk hs hg C1 hv hd hdl ih;go_enter Tryz.func78,Tryz.ntmps78;go_upto_region 1 with fail;rw[<-hw1,<-HG.out];clear hw1;go_wp2;go_ret;exact⟨rfl,HB.out⟩
  by_cases h18:k=18
  ·subst h18;have hv:kdE ⟨18,n,nm,a,ks⟩=2:=by simp[kdE,kdN]
   rw[hv];obtain⟨w1,hw1⟩:∃w1,w1=w.alloc (.cells #[.int .i64 18,.int .i64 n,stv nm,.slice ao ks.len cap] 34):=⟨_,rfl⟩
   obtain⟨g,hg⟩:∃g,g=w.heap.size:=⟨_,rfl⟩
   have B1:Below w.heap.size w w1:=by rw[hw1];exact b1 _ _
   have C1:w1.heap[g]?=some (.cells #[.int .i64 18,.int .i64 n,stv nm,.slice ao ks.len cap] 34):=by rw[hw1,hg];exact heap_alloc_new _ _
   obtain⟨⟨c0,c1,c2,c3⟩,-⟩:=cells4e C1;have HG:=Lib.hid hg;have HB:=Lib.hid B1;clear B1 S hk hs hg C1 hv hd hdl ih;go_enter Tryz.func78,Tryz.ntmps78;go_upto_region 1 with fail;rw[<-hw1,<-HG.out];clear hw1;go_wp2;go_ret;exact⟨rfl,HB.out⟩
  by_cases h22:k=22
  ·subst h22;have hv:kdE ⟨22,n,nm,a,ks⟩=2:=by simp[kdE,kdN]
   rw[hv];obtain⟨w1,hw1⟩:∃w1,w1=w.alloc (.cells #[.int .i64 22,.int .i64 n,stv nm,.slice ao ks.len cap] 34):=⟨_,rfl⟩
   obtain⟨g,hg⟩:∃g,g=w.heap.size:=⟨_,rfl⟩
   have B1:Below w.heap.size w w1:=by rw[hw1];exact b1 _ _
   have C1:w1.heap[g]?=some (.cells #[.int .i64 22,.int .i64 n,stv nm,.slice ao ks.len cap] 34):=by rw[hw1,hg];exact heap_alloc_new _ _
   obtain⟨⟨c0,c1,c2,c3⟩,-⟩:=cells4e C1;have HG:=Lib.hid hg;have HB:=Lib.hid B1;clear B1 S hk hs hg C1 hv hd hdl ih;go_enter Tryz.func78,Tryz.ntmps78;go_upto_region 1 with fail;rw[<-hw1,<-HG.out];clear hw1;go_wp2;go_ret;exact⟨rfl,HB.out⟩
  by_cases h23:k=23
  ·subst h23;have hv:kdE ⟨23,n,nm,a,ks⟩=2:=by simp[kdE,kdN]
   rw[hv];obtain⟨w1,hw1⟩:∃w1,w1=w.alloc (.cells #[.int .i64 23,.int .i64 n,stv nm,.slice ao ks.len cap] 34):=⟨_,rfl⟩
   obtain⟨g,hg⟩:∃g,g=w.heap.size:=⟨_,rfl⟩
   have B1:Below w.heap.size w w1:=by rw[hw1];exact b1 _ _
   have C1:w1.heap[g]?=some (.cells #[.int .i64 23,.int .i64 n,stv nm,.slice ao ks.len cap] 34):=by rw[hw1,hg];exact heap_alloc_new _ _
   obtain⟨⟨c0,c1,c2,c3⟩,-⟩:=cells4e C1;have HG:=Lib.hid hg;have HB:=Lib.hid B1;clear B1 S hk hs hg C1 hv hd hdl ih;go_enter Tryz.func78,Tryz.ntmps78;go_upto_region 1 with fail;rw[<-hw1,<-HG.out];clear hw1;go_wp2;go_ret;exact⟨rfl,HB.out⟩
  by_cases h24:k=24
  ·subst h24;have hv:kdE ⟨24,n,nm,a,ks⟩=2:=by simp[kdE,kdN]
   rw[hv];obtain⟨w1,hw1⟩:∃w1,w1=w.alloc (.cells #[.int .i64 24,.int .i64 n,stv nm,.slice ao ks.len cap] 34):=⟨_,rfl⟩
   obtain⟨g,hg⟩:∃g,g=w.heap.size:=⟨_,rfl⟩
   have B1:Below w.heap.size w w1:=by rw[hw1];exact b1 _ _
   have C1:w1.heap[g]?=some (.cells #[.int .i64 24,.int .i64 n,stv nm,.slice ao ks.len cap] 34):=by rw[hw1,hg];exact heap_alloc_new _ _
   obtain⟨⟨c0,c1,c2,c3⟩,-⟩:=cells4e C1;have HG:=Lib.hid hg;have HB:=Lib.hid B1;clear B1 S hk hs hg C1 hv hd hdl ih;go_enter Tryz.func78,Tryz.ntmps78;go_upto_region 1 with fail;rw[<-hw1,<-HG.out];clear hw1;go_wp2;go_ret;exact⟨rfl,HB.out⟩
  by_cases h25:k=25
  ·subst h25;have hv:kdE ⟨25,n,nm,a,ks⟩=2:=by simp[kdE,kdN]
   rw[hv];obtain⟨w1,hw1⟩:∃w1,w1=w.alloc (.cells #[.int .i64 25,.int .i64 n,stv nm,.slice ao ks.len cap] 34):=⟨_,rfl⟩
   obtain⟨g,hg⟩:∃g,g=w.heap.size:=⟨_,rfl⟩
   have B1:Below w.heap.size w w1:=by rw[hw1];exact b1 _ _
   have C1:w1.heap[g]?=some (.cells #[.int .i64 25,.int .i64 n,stv nm,.slice ao ks.len cap] 34):=by rw[hw1,hg];exact heap_alloc_new _ _
   obtain⟨⟨c0,c1,c2,c3⟩,-⟩:=cells4e C1;have HG:=Lib.hid hg;have HB:=Lib.hid B1;clear B1 S hk hs hg C1 hv hd hdl ih;go_enter Tryz.func78,Tryz.ntmps78;go_upto_region 1 with fail;rw[<-hw1,<-HG.out];clear hw1;go_wp2;go_ret;exact⟨rfl,HB.out⟩
  exfalso;rcases docF_kind hd with h|h|h|h|h|h|h|h|h|h|h|h|h|h|h|h|h|h|h|h|h|h|h|h|h<;>contradiction
end Go.Proofs.YtnfmpocfakblmaaGreatDoor

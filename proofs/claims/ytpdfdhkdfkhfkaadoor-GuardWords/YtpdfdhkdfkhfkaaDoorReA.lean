import Derived.Test.YtpdfdhkdfkhfkaaDoorPkR
set_option maxRecDepth 100000
set_option maxHeartbeats 8000000
namespace Go.Proofs.YtpdfdhkdfkhfkaaDoor
open Go.ChangeShapes Go.WideShapes Go.ChangeAt Go.RowKit
set_option linter.unusedVariables false
set_option linter.unusedSimpArgs false
theorem within_c (a:Int)(n:Nat)(w:World) :
  Calls Tryd.prog 46 #[.int .i64 a,.int .i64 (n:Nat)] w fun e w'=>e=.returned (.bool (within a n))/\w'=w:=by
 by_cases h1:0<=a
 ·go_enter Tryd.func46,Tryd.ntmps46;go_wp2;go_ret;exact⟨by simp[within,h1],rfl⟩
 ·go_enter Tryd.func46,Tryd.ntmps46;go_wp2;go_ret;exact⟨by simp[within];intro;omega,rfl⟩
theorem rkindw_c (a:Int)(w:World) :
  Calls Tryd.prog 28 #[.int .i64 a] w fun e w'=>e=.returned (.bool (kndB a))/\w'=w:=by
 by_cases h1:1<=a
 ·go_enter Tryd.func28,Tryd.ntmps28;go_wp2;go_ret;exact⟨by simp[kndB,h1],rfl⟩
 ·go_enter Tryd.func28,Tryd.ntmps28;go_wp2;go_ret;exact⟨by simp[kndB];intro;omega,rfl⟩
theorem rwd_3 (u:Int)(a b:Nat)(HP:∀ w,Calls Tryd.prog 30 #[.int .u64 u] w fun e w'=>e=.returned (.tuple #[.int .i64 3,.int .i64 (a:Int),.int .i64 (b:Int)])/\w'=w)
  (hab:a<268435456) (hbb:b<268435456) (p:Pl) (c:Cd) (w:World) (hC:CdW w p c) :
  Calls Tryd.prog 29 #[cdV p c,.int .u64 u] w fun e w'=>e=.returned (.bool (wrdD c 3 a b))/\Below w.heap.size w w':=by
 obtain⟨w1,hw1⟩:∃w1,w1=w.alloc (.cells (cdA p c) 26):=⟨_,rfl⟩
 obtain⟨b0,hb0⟩:∃b0,b0=w.heap.size:=⟨_,rfl⟩
 have B1:Below w.heap.size w w1:=by rw[hw1];exact b1 _ _
 have K1:bx4 p c w1 b0:=by rw[hw1,hb0];exact bx4_new p c w
 have C1:=hC.below B1;have HB0:Hid (b0=w.heap.size):=hb0;clear hb0 hC;have l1:=C1.lw;have l2:=C1.lc;have l3:=C1.ln;have l4:=C1.lk;have HP1:=HP w1;clear HP;obtain⟨k0,k1,k2,k3⟩:=K1;by_cases h0:(a:Int)<=3
 ·skip
  by_cases h1:(b:Int)=0
  ·skip
   have FN:wrdD c 3 a b=true:=by simp[wrdD,within];omega
   go_enter Tryd.func29,Tryd.ntmps29;go_wp2_with fail;rw[<-hw1];refine HP1.mono ?_;rintro e w2 ⟨rfl,hww⟩;subst hww;try rw[<-HB0.out]
   clear hw1 HP1;go_wp2_with (fail);go_ret;exact⟨by first|rfl|(rw[FN];rfl)|(simp<;>omega)|(rw[FN];simp<;>omega),by first|exact B1|(rw[HB0.out];exact B1)⟩
  ·skip
   have FN:wrdD c 3 a b=false:=by simp[wrdD,within];omega
   go_enter Tryd.func29,Tryd.ntmps29;go_wp2_with fail;rw[<-hw1];refine HP1.mono ?_;rintro e w2 ⟨rfl,hww⟩;subst hww;try rw[<-HB0.out]
   clear hw1 HP1;go_wp2_with (fail);go_ret;exact⟨by first|rfl|(rw[FN];rfl)|(simp<;>omega)|(rw[FN];simp<;>omega),by first|exact B1|(rw[HB0.out];exact B1)⟩
 ·skip
  have FN:wrdD c 3 a b=false:=by simp[wrdD,within];omega
  go_enter Tryd.func29,Tryd.ntmps29;go_wp2_with fail;rw[<-hw1];refine HP1.mono ?_;rintro e w2 ⟨rfl,hww⟩;subst hww;try rw[<-HB0.out]
  clear hw1 HP1;go_wp2_with (fail);go_ret;exact⟨by first|rfl|(rw[FN];rfl)|(simp<;>omega)|(rw[FN];simp<;>omega),by first|exact B1|(rw[HB0.out];exact B1)⟩
theorem rwd_12 (u:Int)(a b:Nat)(HP:∀ w,Calls Tryd.prog 30 #[.int .u64 u] w fun e w'=>e=.returned (.tuple #[.int .i64 12,.int .i64 (a:Int),.int .i64 (b:Int)])/\w'=w)
  (hab:a<268435456) (hbb:b<268435456) (p:Pl) (c:Cd) (w:World) (hC:CdW w p c) :
  Calls Tryd.prog 29 #[cdV p c,.int .u64 u] w fun e w'=>e=.returned (.bool (wrdD c 12 a b))/\Below w.heap.size w w':=by
 obtain⟨w1,hw1⟩:∃w1,w1=w.alloc (.cells (cdA p c) 26):=⟨_,rfl⟩
 obtain⟨b0,hb0⟩:∃b0,b0=w.heap.size:=⟨_,rfl⟩
 have B1:Below w.heap.size w w1:=by rw[hw1];exact b1 _ _
 have K1:bx4 p c w1 b0:=by rw[hw1,hb0];exact bx4_new p c w
 have C1:=hC.below B1;have HB0:Hid (b0=w.heap.size):=hb0;clear hb0 hC;have l1:=C1.lw;have l2:=C1.lc;have l3:=C1.ln;have l4:=C1.lk;have HP1:=HP w1;clear HP;obtain⟨k0,k1,k2,k3⟩:=K1;by_cases h0:(a:Int)=0
 ·skip
  by_cases h1:(b:Int)<=1
  ·skip
   have FN:wrdD c 12 a b=true:=by simp[wrdD,within];omega
   go_enter Tryd.func29,Tryd.ntmps29;go_wp2_with fail;rw[<-hw1];refine HP1.mono ?_;rintro e w2 ⟨rfl,hww⟩;subst hww;try rw[<-HB0.out]
   clear hw1 HP1;go_wp2_with (fail);go_ret;exact⟨by first|rfl|(rw[FN];rfl)|(simp<;>omega)|(rw[FN];simp<;>omega),by first|exact B1|(rw[HB0.out];exact B1)⟩
  ·skip
   have FN:wrdD c 12 a b=false:=by simp[wrdD,within];omega
   go_enter Tryd.func29,Tryd.ntmps29;go_wp2_with fail;rw[<-hw1];refine HP1.mono ?_;rintro e w2 ⟨rfl,hww⟩;subst hww;try rw[<-HB0.out]
   clear hw1 HP1;go_wp2_with (fail);go_ret;exact⟨by first|rfl|(rw[FN];rfl)|(simp<;>omega)|(rw[FN];simp<;>omega),by first|exact B1|(rw[HB0.out];exact B1)⟩
 ·skip
  have FN:wrdD c 12 a b=false:=by simp[wrdD,within];omega
  go_enter Tryd.func29,Tryd.ntmps29;go_wp2_with fail;rw[<-hw1];refine HP1.mono ?_;rintro e w2 ⟨rfl,hww⟩;subst hww;try rw[<-HB0.out]
  clear hw1 HP1;go_wp2_with (fail);go_ret;exact⟨by first|rfl|(rw[FN];rfl)|(simp<;>omega)|(rw[FN];simp<;>omega),by first|exact B1|(rw[HB0.out];exact B1)⟩
theorem rwd_23 (u:Int)(a b:Nat)(HP:∀ w,Calls Tryd.prog 30 #[.int .u64 u] w fun e w'=>e=.returned (.tuple #[.int .i64 23,.int .i64 (a:Int),.int .i64 (b:Int)])/\w'=w)
  (hab:a<268435456) (hbb:b<268435456) (p:Pl) (c:Cd) (w:World) (hC:CdW w p c) :
  Calls Tryd.prog 29 #[cdV p c,.int .u64 u] w fun e w'=>e=.returned (.bool (wrdD c 23 a b))/\Below w.heap.size w w':=by
 obtain⟨w1,hw1⟩:∃w1,w1=w.alloc (.cells (cdA p c) 26):=⟨_,rfl⟩
 obtain⟨b0,hb0⟩:∃b0,b0=w.heap.size:=⟨_,rfl⟩
 have B1:Below w.heap.size w w1:=by rw[hw1];exact b1 _ _
 have K1:bx4 p c w1 b0:=by rw[hw1,hb0];exact bx4_new p c w
 have C1:=hC.below B1;have HB0:Hid (b0=w.heap.size):=hb0;clear hb0 hC;have l1:=C1.lw;have l2:=C1.lc;have l3:=C1.ln;have l4:=C1.lk;have HP1:=HP w1;clear HP;obtain⟨k0,k1,k2,k3⟩:=K1;by_cases h0:(a:Int)<=1024
 ·skip
  by_cases h1:(b:Int)=0
  ·skip
   have FN:wrdD c 23 a b=true:=by simp[wrdD,within];omega
   go_enter Tryd.func29,Tryd.ntmps29;go_wp2_with fail;rw[<-hw1];refine HP1.mono ?_;rintro e w2 ⟨rfl,hww⟩;subst hww;try rw[<-HB0.out]
   clear hw1 HP1;go_wp2_with (fail);go_ret;exact⟨by first|rfl|(rw[FN];rfl)|(simp<;>omega)|(rw[FN];simp<;>omega),by first|exact B1|(rw[HB0.out];exact B1)⟩
  ·skip
   have FN:wrdD c 23 a b=false:=by simp[wrdD,within];omega
   go_enter Tryd.func29,Tryd.ntmps29;go_wp2_with fail;rw[<-hw1];refine HP1.mono ?_;rintro e w2 ⟨rfl,hww⟩;subst hww;try rw[<-HB0.out]
   clear hw1 HP1;go_wp2_with (fail);go_ret;exact⟨by first|rfl|(rw[FN];rfl)|(simp<;>omega)|(rw[FN];simp<;>omega),by first|exact B1|(rw[HB0.out];exact B1)⟩
 ·skip
  have FN:wrdD c 23 a b=false:=by simp[wrdD,within];omega
  go_enter Tryd.func29,Tryd.ntmps29;go_wp2_with fail;rw[<-hw1];refine HP1.mono ?_;rintro e w2 ⟨rfl,hww⟩;subst hww;try rw[<-HB0.out]
  clear hw1 HP1;go_wp2_with (fail);go_ret;exact⟨by first|rfl|(rw[FN];rfl)|(simp<;>omega)|(rw[FN];simp<;>omega),by first|exact B1|(rw[HB0.out];exact B1)⟩
theorem rwd_26 (u:Int)(a b:Nat)(HP:∀ w,Calls Tryd.prog 30 #[.int .u64 u] w fun e w'=>e=.returned (.tuple #[.int .i64 26,.int .i64 (a:Int),.int .i64 (b:Int)])/\w'=w)
  (hab:a<268435456) (hbb:b<268435456) (p:Pl) (c:Cd) (w:World) (hC:CdW w p c) :
  Calls Tryd.prog 29 #[cdV p c,.int .u64 u] w fun e w'=>e=.returned (.bool (wrdD c 26 a b))/\Below w.heap.size w w':=by
 obtain⟨w1,hw1⟩:∃w1,w1=w.alloc (.cells (cdA p c) 26):=⟨_,rfl⟩
 obtain⟨b0,hb0⟩:∃b0,b0=w.heap.size:=⟨_,rfl⟩
 have B1:Below w.heap.size w w1:=by rw[hw1];exact b1 _ _
 have K1:bx4 p c w1 b0:=by rw[hw1,hb0];exact bx4_new p c w
 have C1:=hC.below B1;have HB0:Hid (b0=w.heap.size):=hb0;clear hb0 hC;have l1:=C1.lw;have l2:=C1.lc;have l3:=C1.ln;have l4:=C1.lk;have HP1:=HP w1;clear HP;obtain⟨k0,k1,k2,k3⟩:=K1;by_cases h0:(a:Int)<=1
 ·skip
  by_cases h1:(b:Int)=0
  ·skip
   have FN:wrdD c 26 a b=true:=by simp[wrdD,within];omega
   go_enter Tryd.func29,Tryd.ntmps29;go_wp2_with fail;rw[<-hw1];refine HP1.mono ?_;rintro e w2 ⟨rfl,hww⟩;subst hww;try rw[<-HB0.out]
   clear hw1 HP1;go_wp2_with (fail);go_ret;exact⟨by first|rfl|(rw[FN];rfl)|(simp<;>omega)|(rw[FN];simp<;>omega),by first|exact B1|(rw[HB0.out];exact B1)⟩
  ·skip
   have FN:wrdD c 26 a b=false:=by simp[wrdD,within];omega
   go_enter Tryd.func29,Tryd.ntmps29;go_wp2_with fail;rw[<-hw1];refine HP1.mono ?_;rintro e w2 ⟨rfl,hww⟩;subst hww;try rw[<-HB0.out]
   clear hw1 HP1;go_wp2_with (fail);go_ret;exact⟨by first|rfl|(rw[FN];rfl)|(simp<;>omega)|(rw[FN];simp<;>omega),by first|exact B1|(rw[HB0.out];exact B1)⟩
 ·skip
  have FN:wrdD c 26 a b=false:=by simp[wrdD,within];omega
  go_enter Tryd.func29,Tryd.ntmps29;go_wp2_with fail;rw[<-hw1];refine HP1.mono ?_;rintro e w2 ⟨rfl,hww⟩;subst hww;try rw[<-HB0.out]
  clear hw1 HP1;go_wp2_with (fail);go_ret;exact⟨by first|rfl|(rw[FN];rfl)|(simp<;>omega)|(rw[FN];simp<;>omega),by first|exact B1|(rw[HB0.out];exact B1)⟩
theorem rwd_13 (u:Int)(a b:Nat)(HP:∀ w,Calls Tryd.prog 30 #[.int .u64 u] w fun e w'=>e=.returned (.tuple #[.int .i64 13,.int .i64 (a:Int),.int .i64 (b:Int)])/\w'=w)
  (hab:a<268435456) (hbb:b<268435456) (p:Pl) (c:Cd) (w:World) (hC:CdW w p c) :
  Calls Tryd.prog 29 #[cdV p c,.int .u64 u] w fun e w'=>e=.returned (.bool (wrdD c 13 a b))/\Below w.heap.size w w':=by
 obtain⟨w1,hw1⟩:∃w1,w1=w.alloc (.cells (cdA p c) 26):=⟨_,rfl⟩
 obtain⟨b0,hb0⟩:∃b0,b0=w.heap.size:=⟨_,rfl⟩
 have B1:Below w.heap.size w w1:=by rw[hw1];exact b1 _ _
 have K1:bx4 p c w1 b0:=by rw[hw1,hb0];exact bx4_new p c w
 have C1:=hC.below B1;have HB0:Hid (b0=w.heap.size):=hb0;clear hb0 hC;have l1:=C1.lw;have l2:=C1.lc;have l3:=C1.ln;have l4:=C1.lk;have HP1:=HP w1;clear HP;obtain⟨k0,k1,k2,k3⟩:=K1;by_cases h0:(b:Int)=0
 ·skip
  have FN:wrdD c 13 a b=true:=by simp[wrdD];omega
  go_enter Tryd.func29,Tryd.ntmps29;go_wp2_with fail;rw[<-hw1];refine HP1.mono ?_;rintro e w2 ⟨rfl,hww⟩;subst hww;try rw[<-HB0.out]
  clear hw1 HP1;go_wp2_with (fail);go_ret;exact⟨by first|rfl|(rw[FN];rfl)|(simp<;>omega)|(rw[FN];simp<;>omega),by first|exact B1|(rw[HB0.out];exact B1)⟩
 ·skip
  have FN:wrdD c 13 a b=false:=by simp[wrdD];omega
  go_enter Tryd.func29,Tryd.ntmps29;go_wp2_with fail;rw[<-hw1];refine HP1.mono ?_;rintro e w2 ⟨rfl,hww⟩;subst hww;try rw[<-HB0.out]
  clear hw1 HP1;go_wp2_with (fail);go_ret;exact⟨by first|rfl|(rw[FN];rfl)|(simp<;>omega)|(rw[FN];simp<;>omega),by first|exact B1|(rw[HB0.out];exact B1)⟩
theorem rwd_14 (u:Int)(a b:Nat)(HP:∀ w,Calls Tryd.prog 30 #[.int .u64 u] w fun e w'=>e=.returned (.tuple #[.int .i64 14,.int .i64 (a:Int),.int .i64 (b:Int)])/\w'=w)
  (hab:a<268435456) (hbb:b<268435456) (p:Pl) (c:Cd) (w:World) (hC:CdW w p c) :
  Calls Tryd.prog 29 #[cdV p c,.int .u64 u] w fun e w'=>e=.returned (.bool (wrdD c 14 a b))/\Below w.heap.size w w':=by
 obtain⟨w1,hw1⟩:∃w1,w1=w.alloc (.cells (cdA p c) 26):=⟨_,rfl⟩
 obtain⟨b0,hb0⟩:∃b0,b0=w.heap.size:=⟨_,rfl⟩
 have B1:Below w.heap.size w w1:=by rw[hw1];exact b1 _ _
 have K1:bx4 p c w1 b0:=by rw[hw1,hb0];exact bx4_new p c w
 have C1:=hC.below B1;have HB0:Hid (b0=w.heap.size):=hb0;clear hb0 hC;have l1:=C1.lw;have l2:=C1.lc;have l3:=C1.ln;have l4:=C1.lk;have HP1:=HP w1;clear HP;obtain⟨k0,k1,k2,k3⟩:=K1;by_cases h0:(b:Int)=0
 ·skip
  have FN:wrdD c 14 a b=true:=by simp[wrdD];omega
  go_enter Tryd.func29,Tryd.ntmps29;go_wp2_with fail;rw[<-hw1];refine HP1.mono ?_;rintro e w2 ⟨rfl,hww⟩;subst hww;try rw[<-HB0.out]
  clear hw1 HP1;go_wp2_with (fail);go_ret;exact⟨by first|rfl|(rw[FN];rfl)|(simp<;>omega)|(rw[FN];simp<;>omega),by first|exact B1|(rw[HB0.out];exact B1)⟩
 ·skip
  have FN:wrdD c 14 a b=false:=by simp[wrdD];omega
  go_enter Tryd.func29,Tryd.ntmps29;go_wp2_with fail;rw[<-hw1];refine HP1.mono ?_;rintro e w2 ⟨rfl,hww⟩;subst hww;try rw[<-HB0.out]
  clear hw1 HP1;go_wp2_with (fail);go_ret;exact⟨by first|rfl|(rw[FN];rfl)|(simp<;>omega)|(rw[FN];simp<;>omega),by first|exact B1|(rw[HB0.out];exact B1)⟩
theorem rwd_15 (u:Int)(a b:Nat)(HP:∀ w,Calls Tryd.prog 30 #[.int .u64 u] w fun e w'=>e=.returned (.tuple #[.int .i64 15,.int .i64 (a:Int),.int .i64 (b:Int)])/\w'=w)
  (hab:a<268435456) (hbb:b<268435456) (p:Pl) (c:Cd) (w:World) (hC:CdW w p c) :
  Calls Tryd.prog 29 #[cdV p c,.int .u64 u] w fun e w'=>e=.returned (.bool (wrdD c 15 a b))/\Below w.heap.size w w':=by
 obtain⟨w1,hw1⟩:∃w1,w1=w.alloc (.cells (cdA p c) 26):=⟨_,rfl⟩
 obtain⟨b0,hb0⟩:∃b0,b0=w.heap.size:=⟨_,rfl⟩
 have B1:Below w.heap.size w w1:=by rw[hw1];exact b1 _ _
 have K1:bx4 p c w1 b0:=by rw[hw1,hb0];exact bx4_new p c w
 have C1:=hC.below B1;have HB0:Hid (b0=w.heap.size):=hb0;clear hb0 hC;have l1:=C1.lw;have l2:=C1.lc;have l3:=C1.ln;have l4:=C1.lk;have HP1:=HP w1;clear HP;obtain⟨k0,k1,k2,k3⟩:=K1;by_cases h0:(b:Int)=0
 ·skip
  have FN:wrdD c 15 a b=true:=by simp[wrdD];omega
  go_enter Tryd.func29,Tryd.ntmps29;go_wp2_with fail;rw[<-hw1];refine HP1.mono ?_;rintro e w2 ⟨rfl,hww⟩;subst hww;try rw[<-HB0.out]
  clear hw1 HP1;go_wp2_with (fail);go_ret;exact⟨by first|rfl|(rw[FN];rfl)|(simp<;>omega)|(rw[FN];simp<;>omega),by first|exact B1|(rw[HB0.out];exact B1)⟩
 ·skip
  have FN:wrdD c 15 a b=false:=by simp[wrdD];omega
  go_enter Tryd.func29,Tryd.ntmps29;go_wp2_with fail;rw[<-hw1];refine HP1.mono ?_;rintro e w2 ⟨rfl,hww⟩;subst hww;try rw[<-HB0.out]
  clear hw1 HP1;go_wp2_with (fail);go_ret;exact⟨by first|rfl|(rw[FN];rfl)|(simp<;>omega)|(rw[FN];simp<;>omega),by first|exact B1|(rw[HB0.out];exact B1)⟩
theorem rwd_24 (u:Int)(a b:Nat)(HP:∀ w,Calls Tryd.prog 30 #[.int .u64 u] w fun e w'=>e=.returned (.tuple #[.int .i64 24,.int .i64 (a:Int),.int .i64 (b:Int)])/\w'=w)
  (hab:a<268435456) (hbb:b<268435456) (p:Pl) (c:Cd) (w:World) (hC:CdW w p c) :
  Calls Tryd.prog 29 #[cdV p c,.int .u64 u] w fun e w'=>e=.returned (.bool (wrdD c 24 a b))/\Below w.heap.size w w':=by
 obtain⟨w1,hw1⟩:∃w1,w1=w.alloc (.cells (cdA p c) 26):=⟨_,rfl⟩
 obtain⟨b0,hb0⟩:∃b0,b0=w.heap.size:=⟨_,rfl⟩
 have B1:Below w.heap.size w w1:=by rw[hw1];exact b1 _ _
 have K1:bx4 p c w1 b0:=by rw[hw1,hb0];exact bx4_new p c w
 have C1:=hC.below B1;have HB0:Hid (b0=w.heap.size):=hb0;clear hb0 hC;have l1:=C1.lw;have l2:=C1.lc;have l3:=C1.ln;have l4:=C1.lk;have HP1:=HP w1;clear HP;obtain⟨k0,k1,k2,k3⟩:=K1;by_cases h0:(b:Int)=0
 ·skip
  have FN:wrdD c 24 a b=true:=by simp[wrdD];omega
  go_enter Tryd.func29,Tryd.ntmps29;go_wp2_with fail;rw[<-hw1];refine HP1.mono ?_;rintro e w2 ⟨rfl,hww⟩;subst hww;try rw[<-HB0.out]
  clear hw1 HP1;go_wp2_with (fail);go_ret;exact⟨by first|rfl|(rw[FN];rfl)|(simp<;>omega)|(rw[FN];simp<;>omega),by first|exact B1|(rw[HB0.out];exact B1)⟩
 ·skip
  have FN:wrdD c 24 a b=false:=by simp[wrdD];omega
  go_enter Tryd.func29,Tryd.ntmps29;go_wp2_with fail;rw[<-hw1];refine HP1.mono ?_;rintro e w2 ⟨rfl,hww⟩;subst hww;try rw[<-HB0.out]
  clear hw1 HP1;go_wp2_with (fail);go_ret;exact⟨by first|rfl|(rw[FN];rfl)|(simp<;>omega)|(rw[FN];simp<;>omega),by first|exact B1|(rw[HB0.out];exact B1)⟩
theorem rwd_16 (u:Int)(a b:Nat)(HP:∀ w,Calls Tryd.prog 30 #[.int .u64 u] w fun e w'=>e=.returned (.tuple #[.int .i64 16,.int .i64 (a:Int),.int .i64 (b:Int)])/\w'=w)
  (hab:a<268435456) (hbb:b<268435456) (p:Pl) (c:Cd) (w:World) (hC:CdW w p c) :
  Calls Tryd.prog 29 #[cdV p c,.int .u64 u] w fun e w'=>e=.returned (.bool (wrdD c 16 a b))/\Below w.heap.size w w':=by
 obtain⟨w1,hw1⟩:∃w1,w1=w.alloc (.cells (cdA p c) 26):=⟨_,rfl⟩
 obtain⟨b0,hb0⟩:∃b0,b0=w.heap.size:=⟨_,rfl⟩
 have B1:Below w.heap.size w w1:=by rw[hw1];exact b1 _ _
 have K1:bx4 p c w1 b0:=by rw[hw1,hb0];exact bx4_new p c w
 have C1:=hC.below B1;have HB0:Hid (b0=w.heap.size):=hb0;clear hb0 hC;have l1:=C1.lw;have l2:=C1.lc;have l3:=C1.ln;have l4:=C1.lk;have HP1:=HP w1;clear HP;obtain⟨k0,k1,k2,k3⟩:=K1;by_cases h0:(1:Int)<=(a:Int)
 ·skip
  by_cases h1:(a:Int)<=10
  ·skip
   by_cases h2:(b:Int)=0
   ·skip
    have FN:wrdD c 16 a b=true:=by simp[wrdD];omega
    go_enter Tryd.func29,Tryd.ntmps29;go_wp2_with fail;rw[<-hw1];refine HP1.mono ?_;rintro e w2 ⟨rfl,hww⟩;subst hww;try rw[<-HB0.out]
    clear hw1 HP1;go_wp2_with (fail);go_ret;exact⟨by first|rfl|(rw[FN];rfl)|(simp<;>omega)|(rw[FN];simp<;>omega),by first|exact B1|(rw[HB0.out];exact B1)⟩
   ·skip
    have FN:wrdD c 16 a b=false:=by simp[wrdD];omega
    go_enter Tryd.func29,Tryd.ntmps29;go_wp2_with fail;rw[<-hw1];refine HP1.mono ?_;rintro e w2 ⟨rfl,hww⟩;subst hww;try rw[<-HB0.out]
    clear hw1 HP1;go_wp2_with (fail);go_ret;exact⟨by first|rfl|(rw[FN];rfl)|(simp<;>omega)|(rw[FN];simp<;>omega),by first|exact B1|(rw[HB0.out];exact B1)⟩
  ·skip
   have FN:wrdD c 16 a b=false:=by simp[wrdD];omega
   go_enter Tryd.func29,Tryd.ntmps29;go_wp2_with fail;rw[<-hw1];refine HP1.mono ?_;rintro e w2 ⟨rfl,hww⟩;subst hww;try rw[<-HB0.out]
   clear hw1 HP1;go_wp2_with (fail);go_ret;exact⟨by first|rfl|(rw[FN];rfl)|(simp<;>omega)|(rw[FN];simp<;>omega),by first|exact B1|(rw[HB0.out];exact B1)⟩
 ·skip
  have FN:wrdD c 16 a b=false:=by simp[wrdD];omega
  go_enter Tryd.func29,Tryd.ntmps29;go_wp2_with fail;rw[<-hw1];refine HP1.mono ?_;rintro e w2 ⟨rfl,hww⟩;subst hww;try rw[<-HB0.out]
  clear hw1 HP1;go_wp2_with (fail);go_ret;exact⟨by first|rfl|(rw[FN];rfl)|(simp<;>omega)|(rw[FN];simp<;>omega),by first|exact B1|(rw[HB0.out];exact B1)⟩
theorem rwd_17 (u:Int)(a b:Nat)(HP:∀ w,Calls Tryd.prog 30 #[.int .u64 u] w fun e w'=>e=.returned (.tuple #[.int .i64 17,.int .i64 (a:Int),.int .i64 (b:Int)])/\w'=w)
  (hab:a<268435456) (hbb:b<268435456) (p:Pl) (c:Cd) (w:World) (hC:CdW w p c) :
  Calls Tryd.prog 29 #[cdV p c,.int .u64 u] w fun e w'=>e=.returned (.bool (wrdD c 17 a b))/\Below w.heap.size w w':=by
 obtain⟨w1,hw1⟩:∃w1,w1=w.alloc (.cells (cdA p c) 26):=⟨_,rfl⟩
 obtain⟨b0,hb0⟩:∃b0,b0=w.heap.size:=⟨_,rfl⟩
 have B1:Below w.heap.size w w1:=by rw[hw1];exact b1 _ _
 have K1:bx4 p c w1 b0:=by rw[hw1,hb0];exact bx4_new p c w
 have C1:=hC.below B1;have HB0:Hid (b0=w.heap.size):=hb0;clear hb0 hC;have l1:=C1.lw;have l2:=C1.lc;have l3:=C1.ln;have l4:=C1.lk;have HP1:=HP w1;clear HP;obtain⟨k0,k1,k2,k3⟩:=K1;have HW:=within_c (a:Int) c.ks.length w1;cases hw:within (a:Int) c.ks.length
 ·rw[hw] at HW;have FN:wrdD c 17 a b=false:=by simp[wrdD,hw]
  go_enter Tryd.func29,Tryd.ntmps29;go_wp2_with fail;rw[<-hw1];refine HP1.mono ?_;rintro e w2 ⟨rfl,hww⟩;subst hww;try rw[<-HB0.out]
  clear hw1 HP1;go_wp2_with ((go_at_call 46;refine HW.mono ?_;rintro e wz ⟨rfl,hz⟩;subst hz));go_ret;exact⟨by first|rfl|(rw[FN];rfl)|(simp<;>omega)|(rw[FN];simp<;>omega),by first|exact B1|(rw[HB0.out];exact B1)⟩
 ·rw[hw] at HW;have FN:wrdD c 17 a b=true:=by simp[wrdD,hw]
  go_enter Tryd.func29,Tryd.ntmps29;go_wp2_with fail;rw[<-hw1];refine HP1.mono ?_;rintro e w2 ⟨rfl,hww⟩;subst hww;try rw[<-HB0.out]
  clear hw1 HP1;go_wp2_with ((go_at_call 46;refine HW.mono ?_;rintro e wz ⟨rfl,hz⟩;subst hz));go_ret;exact⟨by first|rfl|(rw[FN];rfl)|(simp<;>omega)|(rw[FN];simp<;>omega),by first|exact B1|(rw[HB0.out];exact B1)⟩
theorem rwd_18 (u:Int)(a b:Nat)(HP:∀ w,Calls Tryd.prog 30 #[.int .u64 u] w fun e w'=>e=.returned (.tuple #[.int .i64 18,.int .i64 (a:Int),.int .i64 (b:Int)])/\w'=w)
  (hab:a<268435456) (hbb:b<268435456) (p:Pl) (c:Cd) (w:World) (hC:CdW w p c) :
  Calls Tryd.prog 29 #[cdV p c,.int .u64 u] w fun e w'=>e=.returned (.bool (wrdD c 18 a b))/\Below w.heap.size w w':=by
 obtain⟨w1,hw1⟩:∃w1,w1=w.alloc (.cells (cdA p c) 26):=⟨_,rfl⟩
 obtain⟨b0,hb0⟩:∃b0,b0=w.heap.size:=⟨_,rfl⟩
 have B1:Below w.heap.size w w1:=by rw[hw1];exact b1 _ _
 have K1:bx4 p c w1 b0:=by rw[hw1,hb0];exact bx4_new p c w
 have C1:=hC.below B1;have HB0:Hid (b0=w.heap.size):=hb0;clear hb0 hC;have l1:=C1.lw;have l2:=C1.lc;have l3:=C1.ln;have l4:=C1.lk;have HP1:=HP w1;clear HP;obtain⟨k0,k1,k2,k3⟩:=K1;have HW:=within_c (a:Int) c.ks.length w1;cases hw:within (a:Int) c.ks.length
 ·rw[hw] at HW;have FN:wrdD c 18 a b=false:=by simp[wrdD,hw]
  go_enter Tryd.func29,Tryd.ntmps29;go_wp2_with fail;rw[<-hw1];refine HP1.mono ?_;rintro e w2 ⟨rfl,hww⟩;subst hww;try rw[<-HB0.out]
  clear hw1 HP1;go_wp2_with ((go_at_call 46;refine HW.mono ?_;rintro e wz ⟨rfl,hz⟩;subst hz));go_ret;exact⟨by first|rfl|(rw[FN];rfl)|(simp<;>omega)|(rw[FN];simp<;>omega),by first|exact B1|(rw[HB0.out];exact B1)⟩
 ·rw[hw] at HW;by_cases h0:(b:Int)=0
  ·have FN:wrdD c 18 a b=true:=by simp[wrdD,hw];omega
   go_enter Tryd.func29,Tryd.ntmps29;go_wp2_with fail;rw[<-hw1];refine HP1.mono ?_;rintro e w2 ⟨rfl,hww⟩;subst hww;try rw[<-HB0.out]
   clear hw1 HP1;go_wp2_with ((go_at_call 46;refine HW.mono ?_;rintro e wz ⟨rfl,hz⟩;subst hz));go_ret;exact⟨by first|rfl|(rw[FN];rfl)|(simp<;>omega)|(rw[FN];simp<;>omega),by first|exact B1|(rw[HB0.out];exact B1)⟩
  ·have FN:wrdD c 18 a b=false:=by simp[wrdD,hw];omega
   go_enter Tryd.func29,Tryd.ntmps29;go_wp2_with fail;rw[<-hw1];refine HP1.mono ?_;rintro e w2 ⟨rfl,hww⟩;subst hww;try rw[<-HB0.out]
   clear hw1 HP1;go_wp2_with ((go_at_call 46;refine HW.mono ?_;rintro e wz ⟨rfl,hz⟩;subst hz));go_ret;exact⟨by first|rfl|(rw[FN];rfl)|(simp<;>omega)|(rw[FN];simp<;>omega),by first|exact B1|(rw[HB0.out];exact B1)⟩
theorem rwd_19 (u:Int)(a b:Nat)(HP:∀ w,Calls Tryd.prog 30 #[.int .u64 u] w fun e w'=>e=.returned (.tuple #[.int .i64 19,.int .i64 (a:Int),.int .i64 (b:Int)])/\w'=w)
  (hab:a<268435456) (hbb:b<268435456) (p:Pl) (c:Cd) (w:World) (hC:CdW w p c) :
  Calls Tryd.prog 29 #[cdV p c,.int .u64 u] w fun e w'=>e=.returned (.bool (wrdD c 19 a b))/\Below w.heap.size w w':=by
 obtain⟨w1,hw1⟩:∃w1,w1=w.alloc (.cells (cdA p c) 26):=⟨_,rfl⟩
 obtain⟨b0,hb0⟩:∃b0,b0=w.heap.size:=⟨_,rfl⟩
 have B1:Below w.heap.size w w1:=by rw[hw1];exact b1 _ _
 have K1:bx4 p c w1 b0:=by rw[hw1,hb0];exact bx4_new p c w
 have C1:=hC.below B1;have HB0:Hid (b0=w.heap.size):=hb0;clear hb0 hC;have l1:=C1.lw;have l2:=C1.lc;have l3:=C1.ln;have l4:=C1.lk;have HP1:=HP w1;clear HP;obtain⟨k0,k1,k2,k3⟩:=K1;have HW:=within_c (a:Int) c.ks.length w1;cases hw:within (a:Int) c.ks.length
 ·rw[hw] at HW;have FN:wrdD c 19 a b=false:=by simp[wrdD,hw]
  go_enter Tryd.func29,Tryd.ntmps29;go_wp2_with fail;rw[<-hw1];refine HP1.mono ?_;rintro e w2 ⟨rfl,hww⟩;subst hww;try rw[<-HB0.out]
  clear hw1 HP1;go_wp2_with ((go_at_call 46;refine HW.mono ?_;rintro e wz ⟨rfl,hz⟩;subst hz));go_ret;exact⟨by first|rfl|(rw[FN];rfl)|(simp<;>omega)|(rw[FN];simp<;>omega),by first|exact B1|(rw[HB0.out];exact B1)⟩
 ·rw[hw] at HW;by_cases h0:(b:Int)=0
  ·have FN:wrdD c 19 a b=true:=by simp[wrdD,hw];omega
   go_enter Tryd.func29,Tryd.ntmps29;go_wp2_with fail;rw[<-hw1];refine HP1.mono ?_;rintro e w2 ⟨rfl,hww⟩;subst hww;try rw[<-HB0.out]
   clear hw1 HP1;go_wp2_with ((go_at_call 46;refine HW.mono ?_;rintro e wz ⟨rfl,hz⟩;subst hz));go_ret;exact⟨by first|rfl|(rw[FN];rfl)|(simp<;>omega)|(rw[FN];simp<;>omega),by first|exact B1|(rw[HB0.out];exact B1)⟩
  ·have FN:wrdD c 19 a b=false:=by simp[wrdD,hw];omega
   go_enter Tryd.func29,Tryd.ntmps29;go_wp2_with fail;rw[<-hw1];refine HP1.mono ?_;rintro e w2 ⟨rfl,hww⟩;subst hww;try rw[<-HB0.out]
   clear hw1 HP1;go_wp2_with ((go_at_call 46;refine HW.mono ?_;rintro e wz ⟨rfl,hz⟩;subst hz));go_ret;exact⟨by first|rfl|(rw[FN];rfl)|(simp<;>omega)|(rw[FN];simp<;>omega),by first|exact B1|(rw[HB0.out];exact B1)⟩
theorem rwd_21 (u:Int)(a b:Nat)(HP:∀ w,Calls Tryd.prog 30 #[.int .u64 u] w fun e w'=>e=.returned (.tuple #[.int .i64 21,.int .i64 (a:Int),.int .i64 (b:Int)])/\w'=w)
  (hab:a<268435456) (hbb:b<268435456) (p:Pl) (c:Cd) (w:World) (hC:CdW w p c) :
  Calls Tryd.prog 29 #[cdV p c,.int .u64 u] w fun e w'=>e=.returned (.bool (wrdD c 21 a b))/\Below w.heap.size w w':=by
 obtain⟨w1,hw1⟩:∃w1,w1=w.alloc (.cells (cdA p c) 26):=⟨_,rfl⟩
 obtain⟨b0,hb0⟩:∃b0,b0=w.heap.size:=⟨_,rfl⟩
 have B1:Below w.heap.size w w1:=by rw[hw1];exact b1 _ _
 have K1:bx4 p c w1 b0:=by rw[hw1,hb0];exact bx4_new p c w
 have C1:=hC.below B1;have HB0:Hid (b0=w.heap.size):=hb0;clear hb0 hC;have l1:=C1.lw;have l2:=C1.lc;have l3:=C1.ln;have l4:=C1.lk;have HP1:=HP w1;clear HP;obtain⟨k0,k1,k2,k3⟩:=K1;have HW:=within_c (a:Int) c.ns.length w1;cases hw:within (a:Int) c.ns.length
 ·rw[hw] at HW;have FN:wrdD c 21 a b=false:=by simp[wrdD,hw]
  go_enter Tryd.func29,Tryd.ntmps29;go_wp2_with fail;rw[<-hw1];refine HP1.mono ?_;rintro e w2 ⟨rfl,hww⟩;subst hww;try rw[<-HB0.out]
  clear hw1 HP1;go_wp2_with ((go_at_call 46;refine HW.mono ?_;rintro e wz ⟨rfl,hz⟩;subst hz));go_ret;exact⟨by first|rfl|(rw[FN];rfl)|(simp<;>omega)|(rw[FN];simp<;>omega),by first|exact B1|(rw[HB0.out];exact B1)⟩
 ·rw[hw] at HW;by_cases h0:(b:Int)=0
  ·have FN:wrdD c 21 a b=true:=by simp[wrdD,hw];omega
   go_enter Tryd.func29,Tryd.ntmps29;go_wp2_with fail;rw[<-hw1];refine HP1.mono ?_;rintro e w2 ⟨rfl,hww⟩;subst hww;try rw[<-HB0.out]
   clear hw1 HP1;go_wp2_with ((go_at_call 46;refine HW.mono ?_;rintro e wz ⟨rfl,hz⟩;subst hz));go_ret;exact⟨by first|rfl|(rw[FN];rfl)|(simp<;>omega)|(rw[FN];simp<;>omega),by first|exact B1|(rw[HB0.out];exact B1)⟩
  ·have FN:wrdD c 21 a b=false:=by simp[wrdD,hw];omega
   go_enter Tryd.func29,Tryd.ntmps29;go_wp2_with fail;rw[<-hw1];refine HP1.mono ?_;rintro e w2 ⟨rfl,hww⟩;subst hww;try rw[<-HB0.out]
   clear hw1 HP1;go_wp2_with ((go_at_call 46;refine HW.mono ?_;rintro e wz ⟨rfl,hz⟩;subst hz));go_ret;exact⟨by first|rfl|(rw[FN];rfl)|(simp<;>omega)|(rw[FN];simp<;>omega),by first|exact B1|(rw[HB0.out];exact B1)⟩
theorem rwd_11 (u:Int)(a b:Nat)(HP:∀ w,Calls Tryd.prog 30 #[.int .u64 u] w fun e w'=>e=.returned (.tuple #[.int .i64 11,.int .i64 (a:Int),.int .i64 (b:Int)])/\w'=w)
  (hab:a<268435456) (hbb:b<268435456) (p:Pl) (c:Cd) (w:World) (hC:CdW w p c) :
  Calls Tryd.prog 29 #[cdV p c,.int .u64 u] w fun e w'=>e=.returned (.bool (wrdD c 11 a b))/\Below w.heap.size w w':=by
 obtain⟨w1,hw1⟩:∃w1,w1=w.alloc (.cells (cdA p c) 26):=⟨_,rfl⟩
 obtain⟨b0,hb0⟩:∃b0,b0=w.heap.size:=⟨_,rfl⟩
 have B1:Below w.heap.size w w1:=by rw[hw1];exact b1 _ _
 have K1:bx4 p c w1 b0:=by rw[hw1,hb0];exact bx4_new p c w
 have C1:=hC.below B1;have HB0:Hid (b0=w.heap.size):=hb0;clear hb0 hC;have l1:=C1.lw;have l2:=C1.lc;have l3:=C1.ln;have l4:=C1.lk;have HP1:=HP w1;clear HP;obtain⟨k0,k1,k2,k3⟩:=K1;have HK:=rkindw_c (b:Int) w1;have hkv:kndB (b:Int)=(decide (1<=(b:Int))&&decide ((b:Int)<=3)):=rfl;by_cases h0:(a:Int)=0
 ·cases hk:kndB (b:Int)
  ·rw[hk] at HK hkv;have FN:wrdD c 11 a b=false:=by simp only[wrdD,h0];rw[<-hkv];rfl
   clear hkv;go_enter Tryd.func29,Tryd.ntmps29;go_wp2_with fail;rw[<-hw1];refine HP1.mono ?_;rintro e w2 ⟨rfl,hww⟩;subst hww;try rw[<-HB0.out]
   clear hw1 HP1;go_wp2_with ((go_at_call 28;refine HK.mono ?_;rintro e wz ⟨rfl,hz⟩;subst hz));go_ret;exact⟨by first|rfl|(rw[FN];rfl)|(simp<;>omega)|(rw[FN];simp<;>omega),by first|exact B1|(rw[HB0.out];exact B1)⟩
  ·rw[hk] at HK hkv;have FN:wrdD c 11 a b=true:=by simp only[wrdD,h0];rw[<-hkv];rfl
   clear hkv;go_enter Tryd.func29,Tryd.ntmps29;go_wp2_with fail;rw[<-hw1];refine HP1.mono ?_;rintro e w2 ⟨rfl,hww⟩;subst hww;try rw[<-HB0.out]
   clear hw1 HP1;go_wp2_with ((go_at_call 28;refine HK.mono ?_;rintro e wz ⟨rfl,hz⟩;subst hz));go_ret;exact⟨by first|rfl|(rw[FN];rfl)|(simp<;>omega)|(rw[FN];simp<;>omega),by first|exact B1|(rw[HB0.out];exact B1)⟩
 ·have FN:wrdD c 11 a b=false:=by simp[wrdD,h0];omega
  clear hkv;go_enter Tryd.func29,Tryd.ntmps29;go_wp2_with fail;rw[<-hw1];refine HP1.mono ?_;rintro e w2 ⟨rfl,hww⟩;subst hww;try rw[<-HB0.out]
  clear hw1 HP1;go_wp2_with (fail);go_ret;exact⟨by first|rfl|(rw[FN];rfl)|(simp<;>omega)|(rw[FN];simp<;>omega),by first|exact B1|(rw[HB0.out];exact B1)⟩
theorem rwd_2 (u:Int)(a b:Nat)(HP:∀ w,Calls Tryd.prog 30 #[.int .u64 u] w fun e w'=>e=.returned (.tuple #[.int .i64 2,.int .i64 (a:Int),.int .i64 (b:Int)])/\w'=w)
  (hab:a<268435456) (hbb:b<268435456) (p:Pl) (c:Cd) (w:World) (hC:CdW w p c) :
  Calls Tryd.prog 29 #[cdV p c,.int .u64 u] w fun e w'=>e=.returned (.bool (wrdD c 2 a b))/\Below w.heap.size w w':=by
 obtain⟨w1,hw1⟩:∃w1,w1=w.alloc (.cells (cdA p c) 26):=⟨_,rfl⟩
 obtain⟨b0,hb0⟩:∃b0,b0=w.heap.size:=⟨_,rfl⟩
 have B1:Below w.heap.size w w1:=by rw[hw1];exact b1 _ _
 have K1:bx4 p c w1 b0:=by rw[hw1,hb0];exact bx4_new p c w
 have C1:=hC.below B1;have HB0:Hid (b0=w.heap.size):=hb0;clear hb0 hC;have l1:=C1.lw;have l2:=C1.lc;have l3:=C1.ln;have l4:=C1.lk;have HP1:=HP w1;clear HP;obtain⟨k0,k1,k2,k3⟩:=K1;have HW:=within_c (a:Int) c.cs.length w1;cases hw:within (a:Int) c.cs.length
 ·rw[hw] at HW;have FN:wrdD c 2 a b=false:=by simp[wrdD,hw]
  go_enter Tryd.func29,Tryd.ntmps29;go_wp2_with fail;rw[<-hw1];refine HP1.mono ?_;rintro e w2 ⟨rfl,hww⟩;subst hww;try rw[<-HB0.out]
  clear hw1 HP1;go_wp2_with ((go_at_call 46;refine HW.mono ?_;rintro e wz ⟨rfl,hz⟩;subst hz));go_ret;exact⟨by first|rfl|(rw[FN];rfl)|(simp<;>omega)|(rw[FN];simp<;>omega),by first|exact B1|(rw[HB0.out];exact B1)⟩
 ·rw[hw] at HW;have hlt:a<c.cs.length:=by simp[within] at hw;omega
  have haI:(a:Int)<(c.cs.length:Int):=by omega
  obtain⟨cb,co,hac,hcb,hcx⟩:=C1.cs.at (isV_at hlt);have hv:∀ z:Int,c.cs.getD a 0=z->wrdD c 2 a b=(decide (0<=z)&&decide ((b:Int)=0)):=fun z hz=>by
   subst hz;simp only[wrdD,hw,Int.toNat_natCast];simp
  obtain⟨z,hz⟩:∃z,c.cs.getD a 0=z:=⟨_,rfl⟩
  have hv2:=hv z hz;rw[hz] at hcx;clear hv hz;rw[hac] at k1;by_cases h0:(0:Int)<=z
  ·by_cases h1:(b:Int)=0
   ·have FN:wrdD c 2 a b=true:=by rw[hv2];simp[h0,h1]<;>omega
    clear hv2;go_enter Tryd.func29,Tryd.ntmps29;go_wp2_with fail;rw[<-hw1];refine HP1.mono ?_;rintro e w2 ⟨rfl,hww⟩;subst hww;try rw[<-HB0.out]
    clear hw1 HP1;go_wp2_with ((go_at_call 46;refine HW.mono ?_;rintro e wz ⟨rfl,hz⟩;subst hz));go_ret;exact⟨by first|rfl|(rw[FN];rfl)|(simp<;>omega)|(rw[FN];simp<;>omega),by first|exact B1|(rw[HB0.out];exact B1)⟩
   ·have FN:wrdD c 2 a b=false:=by rw[hv2];simp[h0,h1]<;>omega
    clear hv2;go_enter Tryd.func29,Tryd.ntmps29;go_wp2_with fail;rw[<-hw1];refine HP1.mono ?_;rintro e w2 ⟨rfl,hww⟩;subst hww;try rw[<-HB0.out]
    clear hw1 HP1;go_wp2_with ((go_at_call 46;refine HW.mono ?_;rintro e wz ⟨rfl,hz⟩;subst hz));go_ret;exact⟨by first|rfl|(rw[FN];rfl)|(simp<;>omega)|(rw[FN];simp<;>omega),by first|exact B1|(rw[HB0.out];exact B1)⟩
  ·have FN:wrdD c 2 a b=false:=by rw[hv2];simp[h0]<;>omega
   clear hv2;go_enter Tryd.func29,Tryd.ntmps29;go_wp2_with fail;rw[<-hw1];refine HP1.mono ?_;rintro e w2 ⟨rfl,hww⟩;subst hww;try rw[<-HB0.out]
   clear hw1 HP1;go_wp2_with ((go_at_call 46;refine HW.mono ?_;rintro e wz ⟨rfl,hz⟩;subst hz));go_ret;exact⟨by first|rfl|(rw[FN];rfl)|(simp<;>omega)|(rw[FN];simp<;>omega),by first|exact B1|(rw[HB0.out];exact B1)⟩
theorem rwd_1 (u:Int)(a b:Nat)(HP:∀ w,Calls Tryd.prog 30 #[.int .u64 u] w fun e w'=>e=.returned (.tuple #[.int .i64 1,.int .i64 (a:Int),.int .i64 (b:Int)])/\w'=w)
  (hab:a<268435456) (hbb:b<268435456) (p:Pl) (c:Cd) (w:World) (hC:CdW w p c) :
  Calls Tryd.prog 29 #[cdV p c,.int .u64 u] w fun e w'=>e=.returned (.bool (wrdD c 1 a b))/\Below w.heap.size w w':=by
 obtain⟨w1,hw1⟩:∃w1,w1=w.alloc (.cells (cdA p c) 26):=⟨_,rfl⟩
 obtain⟨b0,hb0⟩:∃b0,b0=w.heap.size:=⟨_,rfl⟩
 have B1:Below w.heap.size w w1:=by rw[hw1];exact b1 _ _
 have K1:bx4 p c w1 b0:=by rw[hw1,hb0];exact bx4_new p c w
 have C1:=hC.below B1;have HB0:Hid (b0=w.heap.size):=hb0;clear hb0 hC;have l1:=C1.lw;have l2:=C1.lc;have l3:=C1.ln;have l4:=C1.lk;have HP1:=HP w1;clear HP;obtain⟨k0,k1,k2,k3⟩:=K1;have HW:=within_c (a:Int) c.cs.length w1;cases hw:within (a:Int) c.cs.length
 ·rw[hw] at HW;have FN:wrdD c 1 a b=false:=by simp[wrdD,hw]
  go_enter Tryd.func29,Tryd.ntmps29;go_wp2_with fail;rw[<-hw1];refine HP1.mono ?_;rintro e w2 ⟨rfl,hww⟩;subst hww;try rw[<-HB0.out]
  clear hw1 HP1;go_wp2_with ((go_at_call 46;refine HW.mono ?_;rintro e wz ⟨rfl,hz⟩;subst hz));go_ret;exact⟨by first|rfl|(rw[FN];rfl)|(simp<;>omega)|(rw[FN];simp<;>omega),by first|exact B1|(rw[HB0.out];exact B1)⟩
 ·rw[hw] at HW;have hlt:a<c.cs.length:=by simp[within] at hw;omega
  have haI:(a:Int)<(c.cs.length:Int):=by omega
  obtain⟨cb,co,hac,hcb,hcx⟩:=C1.cs.at (isV_at hlt);by_cases h0:(b:Int)=1
  ·have FN:wrdD c 1 a b=true:=by simp[wrdD,hw,h0]
   go_enter Tryd.func29,Tryd.ntmps29;go_wp2_with fail;rw[<-hw1];refine HP1.mono ?_;rintro e w2 ⟨rfl,hww⟩;subst hww;try rw[<-HB0.out]
   clear hw1 HP1;go_wp2_with ((go_at_call 46;refine HW.mono ?_;rintro e wz ⟨rfl,hz⟩;subst hz));go_ret;exact⟨by first|rfl|(rw[FN];rfl)|(simp<;>omega)|(rw[FN];simp<;>omega),by first|exact B1|(rw[HB0.out];exact B1)⟩
  ·by_cases h1:(b:Int)=2
   ·have hv:wrdD c 1 a b=within (c.cs.getD a 0) 2:=by
     simp only[wrdD,hw,h1,Int.toNat_natCast];simp
    have HZ:=within_c (c.cs.getD a 0) 2 w1;rw[<-hv] at HZ;generalize c.cs.getD a 0=z at hcx HZ;rw[hac] at k1;clear hv;go_enter Tryd.func29,Tryd.ntmps29;generalize wrdD c 1 a b=X at HZ ⊢;go_wp2_with fail;rw[<-hw1];refine HP1.mono ?_;rintro e w2 ⟨rfl,hww⟩;subst hww;try rw[<-HB0.out]
    clear hw1 HP1;go_wp2_with fail;refine HW.mono ?_;rintro e wz ⟨rfl,hz⟩;subst hz;go_wp2_with fail;refine HZ.mono ?_;rintro e wz ⟨rfl,hz⟩;subst hz;go_wp2;go_ret;exact⟨by first|rfl|simp,by first|exact B1|(rw[HB0.out];exact B1)⟩
   ·have FN:wrdD c 1 a b=false:=by simp[wrdD,hw,h0,h1]
    have q1:((b:Int) != 1)=true:=by simpa using h0
    have q2:((b:Int) != 2)=true:=by simpa using h1
    go_enter Tryd.func29,Tryd.ntmps29;go_wp2_with fail;rw[<-hw1];refine HP1.mono ?_;rintro e w2 ⟨rfl,hww⟩;subst hww;try rw[<-HB0.out]
    clear hw1 HP1;go_wp2_with fail;refine HW.mono ?_;rintro e wz ⟨rfl,hz⟩;subst hz;go_wp2_with fail;go_ret;exact⟨by first|rfl|(rw[FN];rfl),by first|exact B1|(rw[HB0.out];exact B1)⟩
theorem rwd_z (u:Int)(o:Nat)(a b:Nat)(HP:∀ w,Calls Tryd.prog 30 #[.int .u64 u] w fun e w'=>e=.returned (.tuple #[.int .i64 (o:Int),.int .i64 (a:Int),.int .i64 (b:Int)])/\w'=w)
  (ho:o<256) (n1:¬(o:Int)=1) (n2:¬(o:Int)=2) (n3:¬(o:Int)=3) (n11:¬(o:Int)=11) (n12:¬(o:Int)=12) (n13:¬(o:Int)=13) (n14:¬(o:Int)=14) (n15:¬(o:Int)=15) (n24:¬(o:Int)=24) (n16:¬(o:Int)=16) (n17:¬(o:Int)=17) (n18:¬(o:Int)=18) (n19:¬(o:Int)=19) (n21:¬(o:Int)=21) (n23:¬(o:Int)=23) (n26:¬(o:Int)=26)
  (hab:a<268435456) (hbb:b<268435456) (p:Pl) (c:Cd) (w:World) (hC:CdW w p c) :
  Calls Tryd.prog 29 #[cdV p c,.int .u64 u] w fun e w'=>e=.returned (.bool (wrdD c (o:Int) a b))/\Below w.heap.size w w':=by
 obtain⟨w1,hw1⟩:∃w1,w1=w.alloc (.cells (cdA p c) 26):=⟨_,rfl⟩
 obtain⟨b0,hb0⟩:∃b0,b0=w.heap.size:=⟨_,rfl⟩
 have B1:Below w.heap.size w w1:=by rw[hw1];exact b1 _ _
 have K1:bx4 p c w1 b0:=by rw[hw1,hb0];exact bx4_new p c w
 have C1:=hC.below B1;have HB0:Hid (b0=w.heap.size):=hb0;clear hb0 hC;have l1:=C1.lw;have l2:=C1.lc;have l3:=C1.ln;have l4:=C1.lk;have HP1:=HP w1;clear HP;obtain⟨k0,k1,k2,k3⟩:=K1;have hv:wrdD c (o:Int) a b=(decide ((o:Int)<28)&&decide ((a:Int)=0)&&decide ((b:Int)=0)):=by
  simp[wrdD,n1,n2,n3,n11,n12,n13,n14,n15,n24,n16,n17,n18,n19,n21,n23,n26]
 by_cases h0:(o:Int)<28
 ·by_cases h1:(a:Int)=0
  ·by_cases h2:(b:Int)=0
   ·have FN:wrdD c (o:Int) a b=true:=by rw[hv];simp[h0,h1,h2]<;>omega
    clear hv;go_enter Tryd.func29,Tryd.ntmps29;go_wp2_with fail;rw[<-hw1];refine HP1.mono ?_;rintro e w2 ⟨rfl,hww⟩;subst hww;try rw[<-HB0.out]
    clear hw1 HP1;go_wp2_with (fail);go_ret;exact⟨by first|rfl|(rw[FN];rfl)|(simp<;>omega)|(rw[FN];simp<;>omega),by first|exact B1|(rw[HB0.out];exact B1)⟩
   ·have FN:wrdD c (o:Int) a b=false:=by rw[hv];simp[h0,h1,h2]<;>omega
    clear hv;go_enter Tryd.func29,Tryd.ntmps29;go_wp2_with fail;rw[<-hw1];refine HP1.mono ?_;rintro e w2 ⟨rfl,hww⟩;subst hww;try rw[<-HB0.out]
    clear hw1 HP1;go_wp2_with (fail);go_ret;exact⟨by first|rfl|(rw[FN];rfl)|(simp<;>omega)|(rw[FN];simp<;>omega),by first|exact B1|(rw[HB0.out];exact B1)⟩
  ·have FN:wrdD c (o:Int) a b=false:=by rw[hv];simp[h0,h1]<;>omega
   clear hv;go_enter Tryd.func29,Tryd.ntmps29;go_wp2_with fail;rw[<-hw1];refine HP1.mono ?_;rintro e w2 ⟨rfl,hww⟩;subst hww;try rw[<-HB0.out]
   clear hw1 HP1;go_wp2_with (fail);go_ret;exact⟨by first|rfl|(rw[FN];rfl)|(simp<;>omega)|(rw[FN];simp<;>omega),by first|exact B1|(rw[HB0.out];exact B1)⟩
 ·have FN:wrdD c (o:Int) a b=false:=by rw[hv];simp[h0]<;>omega
  clear hv;go_enter Tryd.func29,Tryd.ntmps29;go_wp2_with fail;rw[<-hw1];refine HP1.mono ?_;rintro e w2 ⟨rfl,hww⟩;subst hww;try rw[<-HB0.out]
  clear hw1 HP1;go_wp2_with (fail);go_ret;exact⟨by first|rfl|(rw[FN];rfl)|(simp<;>omega)|(rw[FN];simp<;>omega),by first|exact B1|(rw[HB0.out];exact B1)⟩
end Go.Proofs.YtpdfdhkdfkhfkaaDoor

import Derived.Test.YtbjdkekhnajafaaGreatDoorEmK
set_option maxRecDepth 100000
set_option maxHeartbeats 8000000
namespace Go.Proofs.YtbjdkekhnajafaaGreatDoor
open Go.ChangeShapes Go.WideShapes Go.ChangeAt Go.RowKit
set_option linter.unusedVariables false
set_option linter.unusedSimpArgs false
theorem nS:∀ (f:Fs),(kdF f).length=f.len
 | ⟨none⟩=>rfl
 | ⟨some ⟨k,n,nm,a,ks,r⟩⟩=>by simp only[kdF,Fs.len,List.length_cons];rw[nS r]
theorem rR {nc:Nat}:∀ {f:Fs},okF nc f->∀ v ∈ kdF f,1<=v/\v<=3
 | ⟨none⟩,_=>fun v hv=>by simp[kdF] at hv
 | ⟨some ⟨k,n,nm,a,ks,r⟩⟩,h=>fun v hv=>by
  have h1:=rR h.2.1;have hl:=nS ks;have hd:=gX h.1.1;simp only[kdF,List.mem_cons] at hv;rcases hv with rfl|hv
  ·unfold kdN;split
   ·omega
   ·split
    ·omega
    ·split
     ·rename_i e
      have:=hd.1 e
      have hlt:1<(kdF ks).length:=by omega
      rw[List.getD_eq_getElem?_getD,List.getElem?_eq_getElem hlt];exact h1 _ (List.getElem_mem hlt)
     ·split
      ·rename_i e
       have:=hd.2.1 e
       have hlt:0<(kdF ks).length:=by omega
       rw[List.getD_eq_getElem?_getD,List.getElem?_eq_getElem hlt];exact h1 _ (List.getElem_mem hlt)
      ·split
       ·unfold qk;split;omega;split<;>omega
       ·split
        ·unfold qi;split<;>omega
        ·omega
  ·exact rR h.2.2 v hv
theorem iG {nc:Nat}{e:Ex}(h:okE nc e):1<=kdE e/\kdE e<=3:=rR (f:=one e) (show okF nc (one e) from ⟨h.1,h.2,trivial⟩) (kdE e) (by simp[kdF,one,kdE])
theorem DD (s:Em)(x:List UInt8):Grw s (s.kn x) 1:=⟨s.mes_kn x,Nat.le_refl _,rfl,id⟩
def opK (k:Int):Prop:=k=6\/k=7\/k=8\/k=9\/k=10\/k=11\/k=12\/k=13\/k=14\/k=15\/k=16\/k=20\/k=22\/k=23\/k=24\/k=25
theorem qn (nc:Nat)(e:Ex)(ao:Option Addr)(cap:Nat)(w:World)(o:Nat->Nat)(rb:Nat)(lv:Value)(ls:List Int)(s:Em)(hk:opK e.k)(ho:okE nc e)(S:SnO w o e.kids ao)(hlen:e.kids.len<=268435455)(hnm:e.nm.length<=maxLen)(hm:s.mes+3<=100000000)(X:EmX w o lv ls)(h:EmW w o rb lv s) :
  Calls Tryz.prog 97 #[.pointer (some ⟨rb,0,none⟩),exN e ao cap] w (lA w o rb lv s (opr e.k e.n e.nm (kdF e.kids) s) 3):=by
 obtain⟨k,n,nm,a,ks⟩:=e;obtain⟨⟨hd,-,-⟩,hok⟩:=ho;simp only at hd hok hk S hlen hnm;rw[ah];simp only;have hdl:=gX hd;by_cases h6:k=6
 ·subst h6;have hv:opr 6 n nm (kdF ks) s=s.lay 4 0 0:=by simp[opr,fx]
  rw[hv];obtain⟨w1,hw1⟩:∃w1,w1=w.alloc (.cells #[.int .i64 6,.int .i64 n,stv nm,.slice ao ks.len cap] 34):=⟨_,rfl⟩
  obtain⟨g,hg⟩:∃g,g=w.heap.size:=⟨_,rfl⟩
  have s0:∀ {I:Nat->Prop},aa I w o w1 (ae w o 0):=fun {I}=>by rw[hw1];exact aO I w o _
  have C1:w1.heap[g]?=some (.cells #[.int .i64 6,.int .i64 n,stv nm,.slice ao ks.len cap] 34):=by rw[hw1,hg];exact heap_alloc_new _ _
  have C1o:ae w o 0 g=0:=by rw[hg];exact ax (Nat.le_refl _)
  have E1:=h.step (s0 (I:=fun _=>False)) noF;have X1:=X.step (s0 (I:=fun _=>False)) id;have S1:=S.stepO (s0 (I:=fun _=>False)) id;have S0:=s0 (I:=I17);generalize ae w o 0=o1 at *;obtain⟨⟨c0,c1,c2,c3⟩,-⟩:=as C1;have HG:=Lib.hid hg;clear s0 hg h X S hdl hd;have HL:=bU 4 0 0 w1 o1 rb lv ls s (by omega) (by omega) (by omega) (by omega) X1 E1;have hbr:=X1.bar 6 (by omega);simp only[List.getD_cons_succ,List.getD_cons_zero] at hbr;clear hv;go_enter Tryz.func97,Tryz.ntmps97;go_upto_region 1 with fail;rw[<-hw1,<-HG.out];clear hw1;go_wp2_with (first|(go_at_call 47;refine HL.mono ?_;rintro e w2 ⟨rfl,o2,E2,S2⟩))
  go_end0
  exact⟨rfl,⟨o2,E2,S0.trans S2⟩,(bF s _ _ _).le (by omega)⟩
 by_cases h7:k=7
 ·subst h7;have hv:opr 7 n nm (kdF ks) s=s.lay 5 0 0:=by simp[opr,fx]
  rw[hv];obtain⟨w1,hw1⟩:∃w1,w1=w.alloc (.cells #[.int .i64 7,.int .i64 n,stv nm,.slice ao ks.len cap] 34):=⟨_,rfl⟩
  obtain⟨g,hg⟩:∃g,g=w.heap.size:=⟨_,rfl⟩
  have s0:∀ {I:Nat->Prop},aa I w o w1 (ae w o 0):=fun {I}=>by rw[hw1];exact aO I w o _
  have C1:w1.heap[g]?=some (.cells #[.int .i64 7,.int .i64 n,stv nm,.slice ao ks.len cap] 34):=by rw[hw1,hg];exact heap_alloc_new _ _
  have C1o:ae w o 0 g=0:=by rw[hg];exact ax (Nat.le_refl _)
  have E1:=h.step (s0 (I:=fun _=>False)) noF;have X1:=X.step (s0 (I:=fun _=>False)) id;have S1:=S.stepO (s0 (I:=fun _=>False)) id;have S0:=s0 (I:=I17);generalize ae w o 0=o1 at *;obtain⟨⟨c0,c1,c2,c3⟩,-⟩:=as C1;have HG:=Lib.hid hg;clear s0 hg h X S hdl hd;have HL:=bU 5 0 0 w1 o1 rb lv ls s (by omega) (by omega) (by omega) (by omega) X1 E1;have hbr:=X1.bar 7 (by omega);simp only[List.getD_cons_succ,List.getD_cons_zero] at hbr;clear hv;go_enter Tryz.func97,Tryz.ntmps97;go_upto_region 1 with fail;rw[<-hw1,<-HG.out];clear hw1;go_wp2_with (first|(go_at_call 47;refine HL.mono ?_;rintro e w2 ⟨rfl,o2,E2,S2⟩))
  go_end0
  exact⟨rfl,⟨o2,E2,S0.trans S2⟩,(bF s _ _ _).le (by omega)⟩
 by_cases h8:k=8
 ·subst h8;have hv:opr 8 n nm (kdF ks) s=s.lay 6 0 0:=by simp[opr,fx]
  rw[hv];obtain⟨w1,hw1⟩:∃w1,w1=w.alloc (.cells #[.int .i64 8,.int .i64 n,stv nm,.slice ao ks.len cap] 34):=⟨_,rfl⟩
  obtain⟨g,hg⟩:∃g,g=w.heap.size:=⟨_,rfl⟩
  have s0:∀ {I:Nat->Prop},aa I w o w1 (ae w o 0):=fun {I}=>by rw[hw1];exact aO I w o _
  have C1:w1.heap[g]?=some (.cells #[.int .i64 8,.int .i64 n,stv nm,.slice ao ks.len cap] 34):=by rw[hw1,hg];exact heap_alloc_new _ _
  have C1o:ae w o 0 g=0:=by rw[hg];exact ax (Nat.le_refl _)
  have E1:=h.step (s0 (I:=fun _=>False)) noF;have X1:=X.step (s0 (I:=fun _=>False)) id;have S1:=S.stepO (s0 (I:=fun _=>False)) id;have S0:=s0 (I:=I17);generalize ae w o 0=o1 at *;obtain⟨⟨c0,c1,c2,c3⟩,-⟩:=as C1;have HG:=Lib.hid hg;clear s0 hg h X S hdl hd;have HL:=bU 6 0 0 w1 o1 rb lv ls s (by omega) (by omega) (by omega) (by omega) X1 E1;have hbr:=X1.bar 8 (by omega);simp only[List.getD_cons_succ,List.getD_cons_zero] at hbr;clear hv;go_enter Tryz.func97,Tryz.ntmps97;go_upto_region 1 with fail;rw[<-hw1,<-HG.out];clear hw1;go_wp2_with (first|(go_at_call 47;refine HL.mono ?_;rintro e w2 ⟨rfl,o2,E2,S2⟩))
  go_end0
  exact⟨rfl,⟨o2,E2,S0.trans S2⟩,(bF s _ _ _).le (by omega)⟩
 by_cases h9:k=9
 ·subst h9;have hv:opr 9 n nm (kdF ks) s=s.lay 7 0 0:=by simp[opr,fx]
  rw[hv];obtain⟨w1,hw1⟩:∃w1,w1=w.alloc (.cells #[.int .i64 9,.int .i64 n,stv nm,.slice ao ks.len cap] 34):=⟨_,rfl⟩
  obtain⟨g,hg⟩:∃g,g=w.heap.size:=⟨_,rfl⟩
  have s0:∀ {I:Nat->Prop},aa I w o w1 (ae w o 0):=fun {I}=>by rw[hw1];exact aO I w o _
  have C1:w1.heap[g]?=some (.cells #[.int .i64 9,.int .i64 n,stv nm,.slice ao ks.len cap] 34):=by rw[hw1,hg];exact heap_alloc_new _ _
  have C1o:ae w o 0 g=0:=by rw[hg];exact ax (Nat.le_refl _)
  have E1:=h.step (s0 (I:=fun _=>False)) noF;have X1:=X.step (s0 (I:=fun _=>False)) id;have S1:=S.stepO (s0 (I:=fun _=>False)) id;have S0:=s0 (I:=I17);generalize ae w o 0=o1 at *;obtain⟨⟨c0,c1,c2,c3⟩,-⟩:=as C1;have HG:=Lib.hid hg;clear s0 hg h X S hdl hd;have HL:=bU 7 0 0 w1 o1 rb lv ls s (by omega) (by omega) (by omega) (by omega) X1 E1;have hbr:=X1.bar 9 (by omega);simp only[List.getD_cons_succ,List.getD_cons_zero] at hbr;clear hv;go_enter Tryz.func97,Tryz.ntmps97;go_upto_region 1 with fail;rw[<-hw1,<-HG.out];clear hw1;go_wp2_with (first|(go_at_call 47;refine HL.mono ?_;rintro e w2 ⟨rfl,o2,E2,S2⟩))
  go_end0
  exact⟨rfl,⟨o2,E2,S0.trans S2⟩,(bF s _ _ _).le (by omega)⟩
 by_cases h10:k=10
 ·subst h10;have hv:opr 10 n nm (kdF ks) s=s.lay 8 0 0:=by simp[opr,fx]
  rw[hv];obtain⟨w1,hw1⟩:∃w1,w1=w.alloc (.cells #[.int .i64 10,.int .i64 n,stv nm,.slice ao ks.len cap] 34):=⟨_,rfl⟩
  obtain⟨g,hg⟩:∃g,g=w.heap.size:=⟨_,rfl⟩
  have s0:∀ {I:Nat->Prop},aa I w o w1 (ae w o 0):=fun {I}=>by rw[hw1];exact aO I w o _
  have C1:w1.heap[g]?=some (.cells #[.int .i64 10,.int .i64 n,stv nm,.slice ao ks.len cap] 34):=by rw[hw1,hg];exact heap_alloc_new _ _
  have C1o:ae w o 0 g=0:=by rw[hg];exact ax (Nat.le_refl _)
  have E1:=h.step (s0 (I:=fun _=>False)) noF;have X1:=X.step (s0 (I:=fun _=>False)) id;have S1:=S.stepO (s0 (I:=fun _=>False)) id;have S0:=s0 (I:=I17);generalize ae w o 0=o1 at *;obtain⟨⟨c0,c1,c2,c3⟩,-⟩:=as C1;have HG:=Lib.hid hg;clear s0 hg h X S hdl hd;have HL:=bU 8 0 0 w1 o1 rb lv ls s (by omega) (by omega) (by omega) (by omega) X1 E1;have hbr:=X1.bar 10 (by omega);simp only[List.getD_cons_succ,List.getD_cons_zero] at hbr;clear hv;go_enter Tryz.func97,Tryz.ntmps97;go_upto_region 1 with fail;rw[<-hw1,<-HG.out];clear hw1;go_wp2_with (first|(go_at_call 47;refine HL.mono ?_;rintro e w2 ⟨rfl,o2,E2,S2⟩))
  go_end0
  exact⟨rfl,⟨o2,E2,S0.trans S2⟩,(bF s _ _ _).le (by omega)⟩
 by_cases h11:k=11
 ·subst h11;have hv:opr 11 n nm (kdF ks) s=s.lay 9 0 0:=by simp[opr,fx]
  rw[hv];obtain⟨w1,hw1⟩:∃w1,w1=w.alloc (.cells #[.int .i64 11,.int .i64 n,stv nm,.slice ao ks.len cap] 34):=⟨_,rfl⟩
  obtain⟨g,hg⟩:∃g,g=w.heap.size:=⟨_,rfl⟩
  have s0:∀ {I:Nat->Prop},aa I w o w1 (ae w o 0):=fun {I}=>by rw[hw1];exact aO I w o _
  have C1:w1.heap[g]?=some (.cells #[.int .i64 11,.int .i64 n,stv nm,.slice ao ks.len cap] 34):=by rw[hw1,hg];exact heap_alloc_new _ _
  have C1o:ae w o 0 g=0:=by rw[hg];exact ax (Nat.le_refl _)
  have E1:=h.step (s0 (I:=fun _=>False)) noF;have X1:=X.step (s0 (I:=fun _=>False)) id;have S1:=S.stepO (s0 (I:=fun _=>False)) id;have S0:=s0 (I:=I17);generalize ae w o 0=o1 at *;obtain⟨⟨c0,c1,c2,c3⟩,-⟩:=as C1;have HG:=Lib.hid hg;clear s0 hg h X S hdl hd;have HL:=bU 9 0 0 w1 o1 rb lv ls s (by omega) (by omega) (by omega) (by omega) X1 E1;have hbr:=X1.bar 11 (by omega);simp only[List.getD_cons_succ,List.getD_cons_zero] at hbr;clear hv;go_enter Tryz.func97,Tryz.ntmps97;go_upto_region 1 with fail;rw[<-hw1,<-HG.out];clear hw1;go_wp2_with (first|(go_at_call 47;refine HL.mono ?_;rintro e w2 ⟨rfl,o2,E2,S2⟩))
  go_end0
  exact⟨rfl,⟨o2,E2,S0.trans S2⟩,(bF s _ _ _).le (by omega)⟩
 by_cases h12:k=12
 ·subst h12;have hv:opr 12 n nm (kdF ks) s=s.lay 10 0 0:=by simp[opr,fx]
  rw[hv];obtain⟨w1,hw1⟩:∃w1,w1=w.alloc (.cells #[.int .i64 12,.int .i64 n,stv nm,.slice ao ks.len cap] 34):=⟨_,rfl⟩
  obtain⟨g,hg⟩:∃g,g=w.heap.size:=⟨_,rfl⟩
  have s0:∀ {I:Nat->Prop},aa I w o w1 (ae w o 0):=fun {I}=>by rw[hw1];exact aO I w o _
  have C1:w1.heap[g]?=some (.cells #[.int .i64 12,.int .i64 n,stv nm,.slice ao ks.len cap] 34):=by rw[hw1,hg];exact heap_alloc_new _ _
  have C1o:ae w o 0 g=0:=by rw[hg];exact ax (Nat.le_refl _)
  have E1:=h.step (s0 (I:=fun _=>False)) noF;have X1:=X.step (s0 (I:=fun _=>False)) id;have S1:=S.stepO (s0 (I:=fun _=>False)) id;have S0:=s0 (I:=I17);generalize ae w o 0=o1 at *;obtain⟨⟨c0,c1,c2,c3⟩,-⟩:=as C1;have HG:=Lib.hid hg;clear s0 hg h X S hdl hd;have HL:=bU 10 0 0 w1 o1 rb lv ls s (by omega) (by omega) (by omega) (by omega) X1 E1;have hbr:=X1.bar 12 (by omega);simp only[List.getD_cons_succ,List.getD_cons_zero] at hbr;clear hv;go_enter Tryz.func97,Tryz.ntmps97;go_upto_region 1 with fail;rw[<-hw1,<-HG.out];clear hw1;go_wp2_with (first|(go_at_call 47;refine HL.mono ?_;rintro e w2 ⟨rfl,o2,E2,S2⟩))
  go_end0
  exact⟨rfl,⟨o2,E2,S0.trans S2⟩,(bF s _ _ _).le (by omega)⟩
 by_cases h13:k=13
 ·subst h13;have hl2:ks.len=2:=hdl.2.2.1 (by omega) (by omega);rw[hl2];obtain⟨x,y,hks⟩:=eq hl2;have hx:okE nc x:=by rw[hks] at hok;exact(aK hok).1
  have hb:=iG hx;obtain⟨kx,hkx⟩:∃kx:Nat,(kx:Int)=kdE x:=⟨(kdE x).toNat,by omega⟩
  have hv:opr 13 n nm (kdF ks) s=s.lay 11 0 kx:=by rw[hks,iD];simp[opr,<-hkx]
  rw[hv];rw[hks] at S;obtain⟨w1,hw1⟩:∃w1,w1=w.alloc (.cells #[.int .i64 13,.int .i64 n,stv nm,.slice ao 2 cap] 34):=⟨_,rfl⟩
  obtain⟨g,hg⟩:∃g,g=w.heap.size:=⟨_,rfl⟩
  have s0:∀ {I:Nat->Prop},aa I w o w1 (ae w o 0):=fun {I}=>by rw[hw1];exact aO I w o _
  have C1:w1.heap[g]?=some (.cells #[.int .i64 13,.int .i64 n,stv nm,.slice ao 2 cap] 34):=by rw[hw1,hg];exact heap_alloc_new _ _
  have C1o:ae w o 0 g=0:=by rw[hg];exact ax (Nat.le_refl _)
  have E1:=h.step (s0 (I:=fun _=>False)) noF;have X1:=X.step (s0 (I:=fun _=>False)) id;have S1:=S.stepO (s0 (I:=fun _=>False)) id;have S0:=s0 (I:=I17);generalize ae w o 0=o1 at *;obtain⟨⟨c0,c1,c2,c3⟩,-⟩:=as C1;have HG:=Lib.hid hg;clear s0 hg h X S hdl hd;obtain⟨b,off,ak,ck,rfl,x0,x1,x2,x3,Sy⟩:=sR S1;have HK:=gL nc (x.kids.size+1) x ak ck w1 (by omega) hx Sy.all;rw[ah,<-hkx] at HK;have hb2:kx<=3:=by omega
  clear hv hks S1 Sy hkx hb hl2;go_enter Tryz.func97,Tryz.ntmps97;go_upto_region 1 with fail;rw[<-hw1,<-HG.out];clear hw1;go_wp2_with fail;refine HK.mono ?_;rintro r w1b ⟨rfl,B1⟩;have HL:=bU 11 0 kx w1b o1 rb lv ls s (by omega) (by omega) (by omega) (by omega) (X1.below B1) (E1.below B1);have SB:aa I17 w1 o1 w1b o1:=aa.ofBelow o1 B1;clear HK;go_wp2_with (first|(go_at_call 47;refine HL.mono ?_;rintro e w2 ⟨rfl,o2,E2,S2⟩))
  go_end0
  exact⟨rfl,⟨o2,E2,(S0.trans SB).trans S2⟩,(bF s _ _ _).le (by omega)⟩
 by_cases h14:k=14
 ·subst h14;have hl2:ks.len=2:=hdl.2.2.1 (by omega) (by omega);rw[hl2];obtain⟨x,y,hks⟩:=eq hl2;have hx:okE nc x:=by rw[hks] at hok;exact(aK hok).1
  have hb:=iG hx;obtain⟨kx,hkx⟩:∃kx:Nat,(kx:Int)=kdE x:=⟨(kdE x).toNat,by omega⟩
  have hv:opr 14 n nm (kdF ks) s=(s.lay 11 0 kx).lay 5 0 0:=by rw[hks,iD];simp[opr,<-hkx]
  rw[hv];rw[hks] at S;obtain⟨w1,hw1⟩:∃w1,w1=w.alloc (.cells #[.int .i64 14,.int .i64 n,stv nm,.slice ao 2 cap] 34):=⟨_,rfl⟩
  obtain⟨g,hg⟩:∃g,g=w.heap.size:=⟨_,rfl⟩
  have s0:∀ {I:Nat->Prop},aa I w o w1 (ae w o 0):=fun {I}=>by rw[hw1];exact aO I w o _
  have C1:w1.heap[g]?=some (.cells #[.int .i64 14,.int .i64 n,stv nm,.slice ao 2 cap] 34):=by rw[hw1,hg];exact heap_alloc_new _ _
  have C1o:ae w o 0 g=0:=by rw[hg];exact ax (Nat.le_refl _)
  have E1:=h.step (s0 (I:=fun _=>False)) noF;have X1:=X.step (s0 (I:=fun _=>False)) id;have S1:=S.stepO (s0 (I:=fun _=>False)) id;have S0:=s0 (I:=I17);generalize ae w o 0=o1 at *;obtain⟨⟨c0,c1,c2,c3⟩,-⟩:=as C1;have HG:=Lib.hid hg;clear s0 hg h X S hdl hd;obtain⟨b,off,ak,ck,rfl,x0,x1,x2,x3,Sy⟩:=sR S1;have HK:=gL nc (x.kids.size+1) x ak ck w1 (by omega) hx Sy.all;rw[ah,<-hkx] at HK;have hb2:kx<=3:=by omega
  clear hv hks S1 Sy hkx hb hl2;go_enter Tryz.func97,Tryz.ntmps97;go_upto_region 1 with fail;rw[<-hw1,<-HG.out];clear hw1;go_wp2_with fail;refine HK.mono ?_;rintro r w1b ⟨rfl,B1⟩;have HL:=bU 11 0 kx w1b o1 rb lv ls s (by omega) (by omega) (by omega) (by omega) (X1.below B1) (E1.below B1);have SB:aa I17 w1 o1 w1b o1:=aa.ofBelow o1 B1;clear HK;go_upto_region 7 with (first|(go_at_call 47;refine HL.mono ?_;rintro e w2 ⟨rfl,o2,E2,S2⟩))
  have gl:=bF s 11 0 kx;have HL2:=bU 5 0 0 w2 o2 rb lv ls (s.lay 11 0 kx) (by omega) (by omega) (by omega) (by have:=gl.mes;omega) ((X1.below B1).step S2 (by decide)) E2;clear HL;go_wp2_with (first|(go_at_call 47;refine HL2.mono ?_;rintro e w3 ⟨rfl,o3,E3,S3⟩))
  go_end0
  exact⟨rfl,⟨o3,E3,((S0.trans SB).trans S2).trans S3⟩,(gl.trans (bF _ _ _ _)).le (by omega)⟩
 by_cases h15:k=15
 ·subst h15;have hv:opr 15 n nm (kdF ks) s=s.lay 12 0 0:=by simp[opr]
  rw[hv];obtain⟨w1,hw1⟩:∃w1,w1=w.alloc (.cells #[.int .i64 15,.int .i64 n,stv nm,.slice ao ks.len cap] 34):=⟨_,rfl⟩
  obtain⟨g,hg⟩:∃g,g=w.heap.size:=⟨_,rfl⟩
  have s0:∀ {I:Nat->Prop},aa I w o w1 (ae w o 0):=fun {I}=>by rw[hw1];exact aO I w o _
  have C1:w1.heap[g]?=some (.cells #[.int .i64 15,.int .i64 n,stv nm,.slice ao ks.len cap] 34):=by rw[hw1,hg];exact heap_alloc_new _ _
  have C1o:ae w o 0 g=0:=by rw[hg];exact ax (Nat.le_refl _)
  have E1:=h.step (s0 (I:=fun _=>False)) noF;have X1:=X.step (s0 (I:=fun _=>False)) id;have S1:=S.stepO (s0 (I:=fun _=>False)) id;have S0:=s0 (I:=I17);generalize ae w o 0=o1 at *;obtain⟨⟨c0,c1,c2,c3⟩,-⟩:=as C1;have HG:=Lib.hid hg;clear s0 hg h X S hdl hd;have HL:=bU 12 0 0 w1 o1 rb lv ls s (by omega) (by omega) (by omega) (by omega) X1 E1;clear hv;go_enter Tryz.func97,Tryz.ntmps97;go_upto_region 1 with fail;rw[<-hw1,<-HG.out];clear hw1;go_wp2_with (first|(go_at_call 47;refine HL.mono ?_;rintro e w2 ⟨rfl,o2,E2,S2⟩))
  go_end0
  exact⟨rfl,⟨o2,E2,S0.trans S2⟩,(bF s _ _ _).le (by omega)⟩
 by_cases h16:k=16
 ·subst h16;have hv:opr 16 n nm (kdF ks) s=s.lay 12 0 1:=by simp[opr]
  rw[hv];obtain⟨w1,hw1⟩:∃w1,w1=w.alloc (.cells #[.int .i64 16,.int .i64 n,stv nm,.slice ao ks.len cap] 34):=⟨_,rfl⟩
  obtain⟨g,hg⟩:∃g,g=w.heap.size:=⟨_,rfl⟩
  have s0:∀ {I:Nat->Prop},aa I w o w1 (ae w o 0):=fun {I}=>by rw[hw1];exact aO I w o _
  have C1:w1.heap[g]?=some (.cells #[.int .i64 16,.int .i64 n,stv nm,.slice ao ks.len cap] 34):=by rw[hw1,hg];exact heap_alloc_new _ _
  have C1o:ae w o 0 g=0:=by rw[hg];exact ax (Nat.le_refl _)
  have E1:=h.step (s0 (I:=fun _=>False)) noF;have X1:=X.step (s0 (I:=fun _=>False)) id;have S1:=S.stepO (s0 (I:=fun _=>False)) id;have S0:=s0 (I:=I17);generalize ae w o 0=o1 at *;obtain⟨⟨c0,c1,c2,c3⟩,-⟩:=as C1;have HG:=Lib.hid hg;clear s0 hg h X S hdl hd;have HL:=bU 12 0 1 w1 o1 rb lv ls s (by omega) (by omega) (by omega) (by omega) X1 E1;clear hv;go_enter Tryz.func97,Tryz.ntmps97;go_upto_region 1 with fail;rw[<-hw1,<-HG.out];clear hw1;go_wp2_with (first|(go_at_call 47;refine HL.mono ?_;rintro e w2 ⟨rfl,o2,E2,S2⟩))
  go_end0
  exact⟨rfl,⟨o2,E2,S0.trans S2⟩,(bF s _ _ _).le (by omega)⟩
 by_cases h20:k=20
 ·subst h20;have hn:=hdl.2.2.2.2.1 rfl;obtain⟨n0,hn0⟩:∃n0:Nat,(n0:Int)=n:=⟨n.toNat,by omega⟩
  subst hn0;have hv:opr 20 (n0:Int) nm (kdF ks) s=s.lay 16 n0 0:=by simp[opr]
  rw[hv];obtain⟨w1,hw1⟩:∃w1,w1=w.alloc (.cells #[.int .i64 20,.int .i64 (n0:Int),stv nm,.slice ao ks.len cap] 34):=⟨_,rfl⟩
  obtain⟨g,hg⟩:∃g,g=w.heap.size:=⟨_,rfl⟩
  have s0:∀ {I:Nat->Prop},aa I w o w1 (ae w o 0):=fun {I}=>by rw[hw1];exact aO I w o _
  have C1:w1.heap[g]?=some (.cells #[.int .i64 20,.int .i64 (n0:Int),stv nm,.slice ao ks.len cap] 34):=by rw[hw1,hg];exact heap_alloc_new _ _
  have C1o:ae w o 0 g=0:=by rw[hg];exact ax (Nat.le_refl _)
  have E1:=h.step (s0 (I:=fun _=>False)) noF;have X1:=X.step (s0 (I:=fun _=>False)) id;have S1:=S.stepO (s0 (I:=fun _=>False)) id;have S0:=s0 (I:=I17);generalize ae w o 0=o1 at *;obtain⟨⟨c0,c1,c2,c3⟩,-⟩:=as C1;have HG:=Lib.hid hg;clear s0 hg h X S hdl hd;have HL:=bU 16 n0 0 w1 o1 rb lv ls s (by omega) (by omega) (by omega) (by omega) X1 E1;clear hv;go_enter Tryz.func97,Tryz.ntmps97;go_upto_region 1 with fail;rw[<-hw1,<-HG.out];clear hw1;go_wp2_with (first|(go_at_call 47;refine HL.mono ?_;rintro e w2 ⟨rfl,o2,E2,S2⟩))
  go_end0
  exact⟨rfl,⟨o2,E2,S0.trans S2⟩,(bF s _ _ _).le (by omega)⟩
 by_cases h22:k=22
 ·subst h22;have hv:opr 22 n nm (kdF ks) s=s.lay 20 0 0:=by simp[opr,fx]
  rw[hv];obtain⟨w1,hw1⟩:∃w1,w1=w.alloc (.cells #[.int .i64 22,.int .i64 n,stv nm,.slice ao ks.len cap] 34):=⟨_,rfl⟩
  obtain⟨g,hg⟩:∃g,g=w.heap.size:=⟨_,rfl⟩
  have s0:∀ {I:Nat->Prop},aa I w o w1 (ae w o 0):=fun {I}=>by rw[hw1];exact aO I w o _
  have C1:w1.heap[g]?=some (.cells #[.int .i64 22,.int .i64 n,stv nm,.slice ao ks.len cap] 34):=by rw[hw1,hg];exact heap_alloc_new _ _
  have C1o:ae w o 0 g=0:=by rw[hg];exact ax (Nat.le_refl _)
  have E1:=h.step (s0 (I:=fun _=>False)) noF;have X1:=X.step (s0 (I:=fun _=>False)) id;have S1:=S.stepO (s0 (I:=fun _=>False)) id;have S0:=s0 (I:=I17);generalize ae w o 0=o1 at *;obtain⟨⟨c0,c1,c2,c3⟩,-⟩:=as C1;have HG:=Lib.hid hg;clear s0 hg h X S hdl hd;have HL:=bU 20 0 0 w1 o1 rb lv ls s (by omega) (by omega) (by omega) (by omega) X1 E1;have hbr:=X1.bar 22 (by omega);simp only[List.getD_cons_succ,List.getD_cons_zero] at hbr;clear hv;go_enter Tryz.func97,Tryz.ntmps97;go_upto_region 1 with fail;rw[<-hw1,<-HG.out];clear hw1;go_wp2_with (first|(go_at_call 47;refine HL.mono ?_;rintro e w2 ⟨rfl,o2,E2,S2⟩))
  go_end0
  exact⟨rfl,⟨o2,E2,S0.trans S2⟩,(bF s _ _ _).le (by omega)⟩
 by_cases h23:k=23
 ·subst h23;have hv:opr 23 n nm (kdF ks) s=(s.kn nm).lay 21 (s.ns.idxOf nm) 0:=by simp[opr]
  rw[hv];obtain⟨w1,hw1⟩:∃w1,w1=w.alloc (.cells #[.int .i64 23,.int .i64 n,stv nm,.slice ao ks.len cap] 34):=⟨_,rfl⟩
  obtain⟨g,hg⟩:∃g,g=w.heap.size:=⟨_,rfl⟩
  have s0:∀ {I:Nat->Prop},aa I w o w1 (ae w o 0):=fun {I}=>by rw[hw1];exact aO I w o _
  have C1:w1.heap[g]?=some (.cells #[.int .i64 23,.int .i64 n,stv nm,.slice ao ks.len cap] 34):=by rw[hw1,hg];exact heap_alloc_new _ _
  have C1o:ae w o 0 g=0:=by rw[hg];exact ax (Nat.le_refl _)
  have E1:=h.step (s0 (I:=fun _=>False)) noF;have X1:=X.step (s0 (I:=fun _=>False)) id;have S1:=S.stepO (s0 (I:=fun _=>False)) id;have S0:=s0 (I:=I17);generalize ae w o 0=o1 at *;obtain⟨⟨c0,c1,c2,c3⟩,-⟩:=as C1;have HG:=Lib.hid hg;clear s0 hg h X S hdl hd;have HN:=xW nm w1 o1 rb lv ls s hnm (by omega) X1 E1;have hi:s.ns.idxOf nm<=268435455:=by
   have:=List.idxOf_le_length (a:=nm) (l:=s.ns)
   unfold Em.mes at hm;omega
  have gk:=DD s nm;clear hv;go_enter Tryz.func97,Tryz.ntmps97;go_upto_region 1 with fail;rw[<-hw1,<-HG.out];clear hw1;go_wp2_with fail;refine HN.mono ?_;rintro e w1b ⟨rfl,o1b,E1b,S1b⟩;have HL:=bU 21 (s.ns.idxOf nm) 0 w1b o1b rb lv ls (s.kn nm) (by omega) hi (by omega) (by have:=gk.mes;omega) (X1.step S1b (by decide)) E1b;clear HN;go_wp2_with (first|(go_at_call 47;refine HL.mono ?_;rintro e w2 ⟨rfl,o2,E2,S2⟩))
  go_end0
  exact⟨rfl,⟨o2,E2,(S0.trans S1b).trans S2⟩,(gk.trans (bF _ _ _ _)).le (by omega)⟩
 by_cases h24:k=24
 ·subst h24;have hv:opr 24 n nm (kdF ks) s=s.lay 22 0 0:=by simp[opr,fx]
  rw[hv];obtain⟨w1,hw1⟩:∃w1,w1=w.alloc (.cells #[.int .i64 24,.int .i64 n,stv nm,.slice ao ks.len cap] 34):=⟨_,rfl⟩
  obtain⟨g,hg⟩:∃g,g=w.heap.size:=⟨_,rfl⟩
  have s0:∀ {I:Nat->Prop},aa I w o w1 (ae w o 0):=fun {I}=>by rw[hw1];exact aO I w o _
  have C1:w1.heap[g]?=some (.cells #[.int .i64 24,.int .i64 n,stv nm,.slice ao ks.len cap] 34):=by rw[hw1,hg];exact heap_alloc_new _ _
  have C1o:ae w o 0 g=0:=by rw[hg];exact ax (Nat.le_refl _)
  have E1:=h.step (s0 (I:=fun _=>False)) noF;have X1:=X.step (s0 (I:=fun _=>False)) id;have S1:=S.stepO (s0 (I:=fun _=>False)) id;have S0:=s0 (I:=I17);generalize ae w o 0=o1 at *;obtain⟨⟨c0,c1,c2,c3⟩,-⟩:=as C1;have HG:=Lib.hid hg;clear s0 hg h X S hdl hd;have HL:=bU 22 0 0 w1 o1 rb lv ls s (by omega) (by omega) (by omega) (by omega) X1 E1;have hbr:=X1.bar 24 (by omega);simp only[List.getD_cons_succ,List.getD_cons_zero] at hbr;clear hv;go_enter Tryz.func97,Tryz.ntmps97;go_upto_region 1 with fail;rw[<-hw1,<-HG.out];clear hw1;go_wp2_with (first|(go_at_call 47;refine HL.mono ?_;rintro e w2 ⟨rfl,o2,E2,S2⟩))
  go_end0
  exact⟨rfl,⟨o2,E2,S0.trans S2⟩,(bF s _ _ _).le (by omega)⟩
 by_cases h25:k=25
 ·subst h25;have hv:opr 25 n nm (kdF ks) s=s.lay 23 ks.len 0:=by simp[opr,nS]
  rw[hv];obtain⟨w1,hw1⟩:∃w1,w1=w.alloc (.cells #[.int .i64 25,.int .i64 n,stv nm,.slice ao ks.len cap] 34):=⟨_,rfl⟩
  obtain⟨g,hg⟩:∃g,g=w.heap.size:=⟨_,rfl⟩
  have s0:∀ {I:Nat->Prop},aa I w o w1 (ae w o 0):=fun {I}=>by rw[hw1];exact aO I w o _
  have C1:w1.heap[g]?=some (.cells #[.int .i64 25,.int .i64 n,stv nm,.slice ao ks.len cap] 34):=by rw[hw1,hg];exact heap_alloc_new _ _
  have C1o:ae w o 0 g=0:=by rw[hg];exact ax (Nat.le_refl _)
  have E1:=h.step (s0 (I:=fun _=>False)) noF;have X1:=X.step (s0 (I:=fun _=>False)) id;have S1:=S.stepO (s0 (I:=fun _=>False)) id;have S0:=s0 (I:=I17);generalize ae w o 0=o1 at *;obtain⟨⟨c0,c1,c2,c3⟩,-⟩:=as C1;have HG:=Lib.hid hg;clear s0 hg h X S hdl hd;have HL:=bU 23 ks.len 0 w1 o1 rb lv ls s (by omega) (by omega) (by omega) (by omega) X1 E1;clear hv;go_enter Tryz.func97,Tryz.ntmps97;go_upto_region 1 with fail;rw[<-hw1,<-HG.out];clear hw1;go_wp2_with (first|(go_at_call 47;refine HL.mono ?_;rintro e w2 ⟨rfl,o2,E2,S2⟩))
  go_end0
  exact⟨rfl,⟨o2,E2,S0.trans S2⟩,(bF s _ _ _).le (by omega)⟩
 exfalso;rcases hk with h|h|h|h|h|h|h|h|h|h|h|h|h|h|h|h<;>contradiction
theorem dJ {I:Nat->Prop}{w w':World}(o:Nat->Nat)(b:Below w.heap.size w w'):aa I w o w' (ae w o 0):=⟨b.os,b.tape,b.output,b.size,fun k hk=>aC hk,fun k hk _=>b.block k hk⟩
theorem al2 (w:World)(a b:Obj):((w.alloc a).alloc b).heap[w.heap.size]?=some a/\((w.alloc a).alloc b).heap[w.heap.size+1]?=some b/\((w.alloc a).alloc b).heap.size=w.heap.size+2/\Below w.heap.size w ((w.alloc a).alloc b):=by
 refine⟨(heap_alloc_old _ _ (by simp)).trans (heap_alloc_new _ _),?_,by simp,((Below.refl _ w).alloc (Nat.le_refl _) _).alloc (by simp) _⟩
 have:=heap_alloc_new (w.alloc a) b
 rw[World.size_alloc] at this;exact this
theorem al3 (w:World)(a b c:Obj):(((w.alloc a).alloc b).alloc c).heap[w.heap.size]?=some a/\(((w.alloc a).alloc b).alloc c).heap[w.heap.size+1]?=some b/\(((w.alloc a).alloc b).alloc c).heap[w.heap.size+2]?=some c/\(((w.alloc a).alloc b).alloc c).heap.size=w.heap.size+3/\Below w.heap.size w (((w.alloc a).alloc b).alloc c):=by
 obtain⟨h1,h2,h3,h4⟩:=al2 w a b;refine⟨(heap_alloc_old _ _ (by omega)).trans h1,(heap_alloc_old _ _ (by omega)).trans h2,?_,by simp,h4.alloc (by omega) _⟩
 have:=heap_alloc_new ((w.alloc a).alloc b) c
 rw[h3] at this;exact this
theorem al4 (w:World)(a b c d:Obj):((((w.alloc a).alloc b).alloc c).alloc d).heap[w.heap.size]?=some a/\((((w.alloc a).alloc b).alloc c).alloc d).heap[w.heap.size+1]?=some b/\((((w.alloc a).alloc b).alloc c).alloc d).heap[w.heap.size+2]?=some c/\((((w.alloc a).alloc b).alloc c).alloc d).heap[w.heap.size+3]?=some d/\((((w.alloc a).alloc b).alloc c).alloc d).heap.size=w.heap.size+4/\Below w.heap.size w ((((w.alloc a).alloc b).alloc c).alloc d):=by
 obtain⟨h1,h2,h3,h4,h5⟩:=al3 w a b c;refine⟨(heap_alloc_old _ _ (by omega)).trans h1,(heap_alloc_old _ _ (by omega)).trans h2,(heap_alloc_old _ _ (by omega)).trans h3,?_,by simp,h5.alloc (by omega) _⟩
 have:=heap_alloc_new (((w.alloc a).alloc b).alloc c) d
 rw[h4] at this;exact this
theorem al5 (w:World)(a b c d e:Obj):(((((w.alloc a).alloc b).alloc c).alloc d).alloc e).heap[w.heap.size]?=some a/\(((((w.alloc a).alloc b).alloc c).alloc d).alloc e).heap[w.heap.size+1]?=some b/\(((((w.alloc a).alloc b).alloc c).alloc d).alloc e).heap[w.heap.size+2]?=some c/\(((((w.alloc a).alloc b).alloc c).alloc d).alloc e).heap[w.heap.size+3]?=some d/\(((((w.alloc a).alloc b).alloc c).alloc d).alloc e).heap[w.heap.size+4]?=some e/\(((((w.alloc a).alloc b).alloc c).alloc d).alloc e).heap.size=w.heap.size+5/\Below w.heap.size w (((((w.alloc a).alloc b).alloc c).alloc d).alloc e):=by
 obtain⟨h1,h2,h3,h4,h5,h6⟩:=al4 w a b c d;refine⟨(heap_alloc_old _ _ (by omega)).trans h1,(heap_alloc_old _ _ (by omega)).trans h2,(heap_alloc_old _ _ (by omega)).trans h3,(heap_alloc_old _ _ (by omega)).trans h4,?_,by simp,h6.alloc (by omega) _⟩
 have:=heap_alloc_new ((((w.alloc a).alloc b).alloc c).alloc d) e
 rw[h5] at this;exact this
end Go.Proofs.YtbjdkekhnajafaaGreatDoor

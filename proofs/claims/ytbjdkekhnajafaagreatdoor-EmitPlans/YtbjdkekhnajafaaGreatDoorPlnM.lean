import Derived.Test.YtbjdkekhnajafaaGreatDoorWrqJ
set_option maxRecDepth 100000
set_option maxHeartbeats 8000000
namespace Go.Proofs.YtbjdkekhnajafaaGreatDoor
open Go.ChangeShapes Go.WideShapes Go.ChangeAt Go.RowKit
set_option linter.unusedVariables false
set_option linter.unusedSimpArgs false
theorem DI (k:Int):(dS k).isSome=decide (8<=k/\k<=18):=by
 by_cases h:8<=k/\k<=18
 ·rw[show decide (8<=k/\k<=18)=true by simpa using h]
  have:k=8\/k=9\/k=10\/k=11\/k=12\/k=13\/k=14\/k=15\/k=16\/k=17\/k=18:=by omega
  rcases this with rfl|rfl|rfl|rfl|rfl|rfl|rfl|rfl|rfl|rfl|rfl<;>rfl
 ·rw[show decide (8<=k/\k<=18)=false by simpa using h,Option.isSome_eq_false_iff,Option.isNone_iff_eq_none];unfold dS;rw[List.find?_eq_none];intro x hx
  have:∀ x ∈ eE,8<=x.2.1/\x.2.1<=18:=by decide
  have:=this x hx
  simp only[beq_iff_eq];omega
theorem vW {n:Int}(h:1<=n/\n<=10):∃x,fm n=some x/\(x.2.2:Int)=if 1<=n/\n<=3 then 2 else 1:=by
 have:n=1\/n=2\/n=3\/n=4\/n=5\/n=6\/n=7\/n=8\/n=9\/n=10:=by omega
 rcases this with rfl|rfl|rfl|rfl|rfl|rfl|rfl|rfl|rfl|rfl<;>exact⟨_,rfl,rfl⟩
theorem BS {k n:Int}(h:bS k n=true)(m:Nat):aR k n m=(!decide (cQ k n < -1)&&(decide (cQ k n<0)||decide ((m:Int)=cQ k n))):=by
 have e0:∀ c:Int,decide ((m:Int)=c)=((m:Int)==c):=fun c=>rfl;by_cases h1:k=1
 ·subst h1
  first|(simp[aR,cQ,e0];done)|(simp[aR,cQ,e0];rw[Bool.eq_iff_iff];simp)
 by_cases h2:k=2
 ·subst h2
  first|(simp[aR,cQ,e0];done)|(simp[aR,cQ,e0];rw[Bool.eq_iff_iff];simp)
 by_cases h3:k=3
 ·subst h3
  first|(simp[aR,cQ,e0];done)|(simp[aR,cQ,e0];rw[Bool.eq_iff_iff];simp)
 by_cases h4:k=4
 ·subst h4
  first|(simp[aR,cQ,e0];done)|(simp[aR,cQ,e0];rw[Bool.eq_iff_iff];simp)
 by_cases h22:k=22
 ·subst h22
  first|(simp[aR,cQ,e0];done)|(simp[aR,cQ,e0];rw[Bool.eq_iff_iff];simp)
 by_cases h23:k=23
 ·subst h23
  first|(simp[aR,cQ,e0];done)|(simp[aR,cQ,e0];rw[Bool.eq_iff_iff];simp)
 by_cases h6:k=6
 ·subst h6
  first|(simp[aR,cQ,e0];done)|(simp[aR,cQ,e0];rw[Bool.eq_iff_iff];simp)
 by_cases h7:k=7
 ·subst h7
  first|(simp[aR,cQ,e0];done)|(simp[aR,cQ,e0];rw[Bool.eq_iff_iff];simp)
 by_cases h24:k=24
 ·subst h24
  first|(simp[aR,cQ,e0];done)|(simp[aR,cQ,e0];rw[Bool.eq_iff_iff];simp)
 by_cases h21:k=21
 ·subst h21
  first|(simp[aR,cQ,e0];done)|(simp[aR,cQ,e0];rw[Bool.eq_iff_iff];simp)
 by_cases h19:k=19
 ·subst h19
  first|(simp[aR,cQ,e0];done)|(simp[aR,cQ,e0];rw[Bool.eq_iff_iff];simp)
 by_cases h25:k=25
 ·subst h25
  first|(simp[aR,cQ,e0];done)|(simp[aR,cQ,e0];rw[Bool.eq_iff_iff];simp)
 by_cases h20:k=20
 ·subst h20;have hr:1<=n/\n<=10:=by simpa [bS,bE] using h
  obtain⟨x,hx,hm⟩:=vW hr;by_cases h3:1<=n/\n<=3
  ·rw[if_pos h3] at hm;simp[aR,cQ,hx,hm,h3,e0]
  ·rw[if_neg h3] at hm;simp[aR,cQ,hx,hm,h3,e0]
 have hkb:aR k n m=((dS k).isSome&&(m:Int)==2):=by simp[aR,h1,h2,h3,h4,h22,h23,h6,h7,h24,h21,h19,h25,h20]
 rw[hkb,DI];by_cases ho:8<=k/\k<=18
 ·have hk2:cQ k n=2:=by
   unfold cQ;rw[if_neg (by omega),if_neg (by omega),if_pos (by omega)]
  rw[hk2];simp[ho,e0]
 ·have hk2:cQ k n=-2:=by
   unfold cQ;rw[if_neg (by omega),if_neg (by omega),if_neg (by omega),if_neg (by omega),if_neg (by omega),if_neg (by omega)]
  rw[hk2];simp;omega
theorem CO {k:Int}{z:List UInt8 × Nat × Nat × Nat × Nat}(h:dS k=some z):iY k 0=z.2.2.2.1/\iY k 1=z.2.2.2.2/\z.1.length<=3/\(k==21)=false:=by
 have hm:=List.mem_of_find?_eq_some h;have hk:((z.2.1:Nat):Int)=k:=by have:=List.find?_some h;simpa using this
 subst hk;simp only[eE,List.mem_cons,List.not_mem_nil,or_false] at hm;rcases hm with rfl|rfl|rfl|rfl|rfl|rfl|rfl|rfl|rfl|rfl|rfl<;>exact⟨rfl,rfl,by decide,rfl⟩
theorem jz {N:Nat}(IH:gp N)(e:Ex)(hNk:e.kids.size<=N)(he:e.fit)(ao:Option Addr)(cap wb:Nat)(st:Ow)(w:World)(o:Nat->Nat)(S:Sl w (L0 o) e.kids ao)(H:WQ w o wb st)(hk:e.k=19\/e.k=20\/e.k=21\/e.k=24\/e.k=25)(hv:(bS e.k e.n&&cr e.k e.nm&&aR e.k e.n e.kids.len)=true) :
  Calls Tryz.prog 274 #[.pointer (some ⟨wb,0,none⟩),exV e ao cap] w (eQ w o wb (bi e.k e.n e.nm (fun g s=>oFs e.kids (e.k==21) g 0 s) st)):=by
 simp only[Bool.and_eq_true] at hv;rcases hk with hk|hk|hk|hk|hk
 ·exact xu IH e hNk he ao cap wb st w o S H hk (by have h3:=hv.2;rw[hk] at h3;simp[aR] at h3;omega)
 ·exact q9 IH e hNk he ao cap wb st w o S H hk (by have h3:=hv.1.1;rw[hk] at h3;simpa [bS,bE] using h3)
 ·exact pP IH e hNk he ao cap wb st w o S H hk (by have h3:=hv.1.1;rw[hk] at h3;simpa [bS,bc] using h3) (by have h3:=hv.2;rw[hk] at h3;simp[aR] at h3;omega) (jB hv.1.2)
 ·exact oV IH e hNk he ao cap wb st w o S H hk
 ·exact rG IH e hNk he ao cap wb st w o S H hk
theorem rW {N:Nat}(IH:gp N):gp (N+1):=by
 intro e ao cap set wb st w o hNN he S H;have hNk:e.kids.size<=N:=by omega
 obtain⟨V,hV⟩:∃V,V=(bS e.k e.n&&cr e.k e.nm&&aR e.k e.n e.kids.len&&(bm e.k==set)):=⟨_,rfl⟩
 have HX:Hid (oEx e set st=if V=true then bi e.k e.n e.nm (fun g s=>oFs e.kids (e.k==21) g 0 s) st else none):=by show _=_;rw[hV];rfl
 have HV:Hid (V=(bS e.k e.n&&cr e.k e.nm&&aR e.k e.n e.kids.len&&(bm e.k==set))):=hV;clear hNN hV;have s0:=aO (fun _=>False) w o (bxX e ao cap);have E0:Blk (w.alloc (bxX e ao cap)) (ae w o 0) 0 w.heap.size (bxX e ao cap):=fC w o _ _;have S0:=S.stp0 s0;have H0:=H.stp0 s0;have T0:=s0.i12;clear S H s0;rw[am];go_enter Tryz.func227,Tryz.ntmps227;go_upto_region 1 with fail;generalize w.alloc (bxX e ao cap)=w0 at *;generalize ae w o 0=o0 at *;generalize w.heap.size=be at *;obtain⟨p0,p1,p2,p3,p4,pf⟩:=ai E0.1;have c1:=BV e.k e.n e.nm ao e.kids.len cap e.a w0;generalize hkN:cQ e.k e.n=kN at *;have HKN:=Lib.hid hkN;clear hkN;go_wp2_with fail;refine c1.mono ?_;rintro e2 w1 ⟨rfl,b1⟩;have s1:aa (fun _=>False) w0 o0 w1 o0:=aa.ofB o0 b1;have E1:=E0.step s1 id;have S1:=S0.stp0 s1;have H1:=H0.stp0 s1;have T1:=T0.trans s1.i12;clear c1 b1 s1 E0 S0 H0 T0 p0 p1 p2 p3 p4 pf;obtain⟨p0,p1,p2,p3,p4,pf⟩:=ai E1.1;have c2:=wQ e.k e.n e.nm ao e.kids.len cap e.a w1 he.nm;generalize hF:(bS e.k e.n&&cr e.k e.nm)=Fd at *;have HFD:=Lib.hid hF;clear hF;go_wp2_with fail;refine c2.mono ?_;rintro e2 w2 ⟨rfl,b2⟩;have s2:aa (fun _=>False) w1 o0 w2 o0:=aa.ofB o0 b2;have E2:=E1.step s2 id;have S2:=S1.stp0 s2;have H2:=H1.stp0 s2;have T2:=T1.trans s2.i12;clear c2 b2 s2 E1 S1 H1 T1 p0 p1 p2 p3 p4 pf;obtain⟨p0,p1,p2,p3,p4,pf⟩:=ai E2.1;obtain⟨c3,cf,sE,HE⟩:=H2.end;go_upto_region 3 with fail;go_cut [42] (fun v wx=>v=.bool (!(st.isSome&&V))/\wx=w2)
 case first =>
  clear HX S2 T2 HE sE;cases hst:st.isSome with
  | false =>
   rw[hst] at c3;go_wp2;go_meet;exact⟨by simp[hst],rfl⟩
  | true =>
   rw[hst] at c3;cases Fd with
   | false =>
    have fv:V=false:=by rw[HV.out];rfl
    subst fv;go_wp2;go_meet;exact⟨by simp[hst],rfl⟩
   | true =>
    have hnb:bS e.k e.n=true:=by have:=HFD.out;simp only[Bool.and_eq_true] at this;exact this.1
    have HV2:Hid (V=(!decide (kN < -1)&&(decide (kN<0)||decide ((e.kids.len:Int)=kN))&&(bm e.k==set))):=by show V=_;rw[HV.out,Bool.true_and,BS hnb,HKN.out]
    clear HV hnb HFD HKN;by_cases h1:kN < -1
    ·have fv:V=false:=by rw[HV2.out];simp[h1]
     subst fv;go_wp2;go_meet;exact⟨by simp[hst],rfl⟩
    ·have cS:=Ay e.k w2;by_cases h2:0<=kN
     ·by_cases h3:(e.kids.len:Int)=kN
      ·have h3b:((e.kids.len:Int)==kN)=true:=by simpa using h3
       have h3c:((e.kids.len:Int) != kN)=false:=by simpa using h3
       have fv:V=(bm e.k==set):=by rw[HV2.out];simp[h1,h3]
       have HFV:=Lib.hid fv;clear fv h3 HV2;cases hs:bm e.k<;>cases set
       all_goals
        rw[hs] at cS;have fv:=HFV.out;rw[hs] at fv;subst fv;go_wp2_with fail;refine cS.mono ?_;rintro e2 w3 ⟨rfl,rfl⟩;go_wp2;go_meet;exact⟨by simp[hst],rfl⟩
      ·have h3b:((e.kids.len:Int)==kN)=false:=by simpa using h3
       have h3c:((e.kids.len:Int) != kN)=true:=by simpa using h3
       have fv:V=false:=by rw[HV2.out];simp[h3];omega
       subst fv;clear h3;go_wp2;go_meet;exact⟨by simp[hst],rfl⟩
     ·have fv:V=(bm e.k==set):=by rw[HV2.out];simp[h1];omega
      have HFV:=Lib.hid fv;clear fv HV2;cases hs:bm e.k<;>cases set
      all_goals
       rw[hs] at cS;have fv:=HFV.out;rw[hs] at fv;subst fv;go_wp2_with fail;refine cS.mono ?_;rintro e2 w3 ⟨rfl,rfl⟩;go_wp2;go_meet;exact⟨by simp[hst],rfl⟩
 case rest =>
 obtain⟨rfl,hwc⟩:=hcut;rw[hwc];clear hwc;by_cases hB:(st.isSome&&V)=true
 case neg =>
  have hB2:(st.isSome&&V)=false:=by simpa using hB
  have FIN:Hid (oEx e set st=none):=by
   show _=_;rw[HX.out];cases hst:st with
   | none =>
    cases V with
    | true=>rw[if_pos rfl];exact nN (fun g=>i8 _ _ _ _)
    | false=>rw[if_neg (by simp)]
   | some s1 =>
    rw[hst] at hB2;rw[if_neg (by intro hv;rw[hv] at hB2;cases hB2)]
  have T3:=T2.trans sE;rw[hB2];clear HX HV HFD HKN hB hB2 E2 S2 H2 T2 sE;go_wp2
  (try simp only[Exit.inBlock,Exit.then])
  refine bodyPost_ret (results_none rfl _ _ _) rfl ?_;exact⟨rfl,o0,by rw[FIN.out];exact HE,T3⟩
 case pos =>
 rw[hB];have hv0:V=true:=by simp only[Bool.and_eq_true] at hB;exact hB.2
 have HF0:Hid (oEx e set st=bi e.k e.n e.nm (fun g s=>oFs e.kids (e.k==21) g 0 s) st):=by show _=_;rw[HX.out,if_pos hv0]
 have HVA:Hid ((bS e.k e.n&&cr e.k e.nm&&aR e.k e.n e.kids.len)=true):=by
  show _=true;have h9:=HV.out;rw[hv0,<-HFD.out] at h9;have h9:=h9.symm;rw[Bool.and_eq_true] at h9;exact h9.1
 clear HX HV HFD HKN hB hv0 HE sE c3 cf;by_cases h1:e.k=1
 ·have HF:Hid (oEx e set st=aM (Go.Lib.itoa e.n) st):=by
   show _=_;rw[HF0.out];unfold bi;rw[if_neg (by omega),if_neg (by omega),if_neg (by omega),if_neg (by omega),if_neg (by omega),if_neg (by omega),if_neg (by omega)];unfold eD;rw[if_pos h1]
  have b1:(e.k==1)=true:=by simp[h1]
  have hn0:0<=e.n:=by have h9:=HVA.out;rw[h1] at h9;simp[bS] at h9;exact h9.1.1
  clear h1 HF0 HVA;have cd:=pD e.n hn0 he.n2 w2;have hil:=Go.Lib.itoa_length_le e.n he.n1 he.n2;go_wp2_with fail;refine cd.mono ?_;rintro e2 w3 ⟨rfl,b3⟩;clear cd;have s3:aa (fun _=>False) w2 o0 w3 o0:=aa.ofB o0 b3;have E3:=E2.step s3 id;have S3:=S2.stp0 s3;have H3:=H2.stp0 s3;have T3:=T2.trans s3.i12;clear E2 S2 H2 T2 s3 p0 p1 p2 p3 p4 pf;obtain⟨p0,p1,p2,p3,p4,pf⟩:=ai E3.1;clear b3;obtain⟨o3,ho3⟩:∃o3,o3=o0:=⟨_,rfl⟩
  rw[<-ho3] at E3 S3 H3 T3;clear ho3;have c4:=cF (Go.Lib.itoa e.n) H3 (by omega);generalize aM (Go.Lib.itoa e.n) st=st4 at *;go_wp2_with fail;refine c4.mono ?_;rintro e2 w4 ⟨rfl,o4,H4,s4⟩;have T4:=T3.trans s4;have S4:=S3.stp s4;have E4:=E3.stp s4;clear c4 H3 T3 S3 E3 s4 p0 p1 p2 p3 p4 pf;obtain⟨p0,p1,p2,p3,p4,pf⟩:=ai E4.1;go_wp2
  go_end0
  exact⟨rfl,o4,by rw[HF.out];exact H4,T4⟩
 by_cases h2:e.k=2
 ·have HF:Hid (oEx e set st=aM (Go.Lib.formatBool (e.n==1)) st):=by
   show _=_;rw[HF0.out];unfold bi;rw[if_neg (by omega),if_neg (by omega),if_neg (by omega),if_neg (by omega),if_neg (by omega),if_neg (by omega),if_neg (by omega)];unfold eD;rw[if_neg (by omega),if_pos h2]
  have b1:(e.k==1)=false:=bne (by omega);have b2:(e.k==2)=true:=by simp[h2]
  have hn2:e.n=0\/e.n=1:=by have h9:=HVA.out;rw[h2] at h9;simp[bS] at h9;exact h9.1.1
  clear h2 HF0 HVA;rcases hn2 with hn2|hn2
  ·rw[hn2] at p1;have HF:Hid (oEx e set st=aM [102,97,108,115,101] st):=by show _=_;rw[HF.out,hn2];rfl
   clear hn2;have s3:=dK (fun _=>False) w2 o0 (.cells #[.string ⟨#[102,97,108,115,101]⟩,.string ⟨#[116,114,117,101]⟩] 9);have E3:=E2.step s3 id;have S3:=S2.stp0 s3;have H3:=H2.stp0 s3;have T3:=T2.trans s3.i12;have hbe:be<w2.heap.size:=E2.lt;have c4:=cF [102,97,108,115,101] H3 (by simp);generalize aM [102,97,108,115,101] st=st4 at *;go_wp2_with fail;refine c4.mono ?_;rintro e2 w4 ⟨rfl,o4,H4,s4⟩;have T4:=T3.trans s4;clear c4 H2 T2 S2 E2 H3 T3 S3 E3 s3 s4 p0 p1 p2 p3 p4 pf;go_wp2
   go_end0
   exact⟨rfl,o4,by rw[HF.out];exact H4,T4⟩
  ·rw[hn2] at p1;have HF:Hid (oEx e set st=aM [116,114,117,101] st):=by show _=_;rw[HF.out,hn2];rfl
   clear hn2;have s3:=dK (fun _=>False) w2 o0 (.cells #[.string ⟨#[102,97,108,115,101]⟩,.string ⟨#[116,114,117,101]⟩] 9);have E3:=E2.step s3 id;have S3:=S2.stp0 s3;have H3:=H2.stp0 s3;have T3:=T2.trans s3.i12;have hbe:be<w2.heap.size:=E2.lt;have c4:=cF [116,114,117,101] H3 (by simp);generalize aM [116,114,117,101] st=st4 at *;go_wp2_with fail;refine c4.mono ?_;rintro e2 w4 ⟨rfl,o4,H4,s4⟩;have T4:=T3.trans s4;clear c4 H2 T2 S2 E2 H3 T3 S3 E3 s3 s4 p0 p1 p2 p3 p4 pf;go_wp2
   go_end0
   exact⟨rfl,o4,by rw[HF.out];exact H4,T4⟩
 by_cases h3:e.k=3
 ·have HF:Hid (oEx e set st=aM ([64]++Go.Lib.itoa e.n) st):=by
   show _=_;rw[HF0.out];unfold bi;rw[if_neg (by omega),if_neg (by omega),if_neg (by omega),if_neg (by omega),if_neg (by omega),if_neg (by omega),if_neg (by omega)];unfold eD;rw[if_neg (by omega),if_neg (by omega),if_pos h3]
  have b1:(e.k==1)=false:=bne (by omega);have b2:(e.k==2)=false:=bne (by omega);have b3:(e.k==3)=true:=by simp[h3]
  have hn0:0<=e.n:=by have h9:=HVA.out;rw[h3] at h9;simp[bS] at h9;exact h9.1.1
  clear h3 HF0 HVA;have cd:=pD e.n hn0 he.n2 w2;have hil:=Go.Lib.itoa_length_le e.n he.n1 he.n2;have hsm:=fF (Go.Lib.itoa e.n);generalize Go.Lib.itoa e.n=dg at *;go_wp2_with fail;refine cd.mono ?_;rintro e2 w3 ⟨rfl,b3⟩;clear cd;have s3:aa (fun _=>False) w2 o0 w3 o0:=aa.ofB o0 b3;have E3:=E2.step s3 id;have S3:=S2.stp0 s3;have H3:=H2.stp0 s3;have T3:=T2.trans s3.i12;clear E2 S2 H2 T2 s3 p0 p1 p2 p3 p4 pf;obtain⟨p0,p1,p2,p3,p4,pf⟩:=ai E3.1;clear b3;obtain⟨o3,ho3⟩:∃o3,o3=o0:=⟨_,rfl⟩
  rw[<-ho3] at E3 S3 H3 T3;clear ho3;have c4:=cF ([64]++dg) H3 (by simp;omega);have ec:(⟨([64]++dg).toArray⟩:ByteArray)=⟨#[64]⟩++⟨dg.toArray⟩:=(vZ [64] dg).symm;rw[show stv ([64]++dg)=.string (⟨#[64]⟩++⟨dg.toArray⟩) by rw[<-ec]] at c4;generalize aM ([64]++dg) st=st4 at *;clear ec;go_wp2_with fail;refine c4.mono ?_;rintro e2 w4 ⟨rfl,o4,H4,s4⟩;have T4:=T3.trans s4;have S4:=S3.stp s4;have E4:=E3.stp s4;clear c4 H3 T3 S3 E3 s4 p0 p1 p2 p3 p4 pf;obtain⟨p0,p1,p2,p3,p4,pf⟩:=ai E4.1;go_wp2
  go_end0
  exact⟨rfl,o4,by rw[HF.out];exact H4,T4⟩
 by_cases h4:e.k=4
 ·have HF:Hid (oEx e set st=aM e.nm st):=by
   show _=_;rw[HF0.out];unfold bi;rw[if_neg (by omega),if_neg (by omega),if_neg (by omega),if_neg (by omega),if_neg (by omega),if_neg (by omega),if_neg (by omega)];unfold eD;rw[if_neg (by omega),if_neg (by omega),if_neg (by omega),if_pos (by omega)]
  have b1:(e.k==1)=false:=bne (by omega);have b2:(e.k==2)=false:=bne (by omega);have b3:(e.k==3)=false:=bne (by omega);have b4:(e.k==4)=true:=by simp[h4]
  have hnl:e.nm.length<=12:=by have h9:=HVA.out;simp only[Bool.and_eq_true] at h9;exact jB h9.1.2
  clear h4 HF0 HVA;have c3:=cF e.nm H2 (by omega);generalize aM e.nm st=st3 at *;go_wp2_with fail;refine c3.mono ?_;rintro e2 w3 ⟨rfl,o3,H3,s3⟩;have T3:=T2.trans s3;have S3:=S2.stp s3;have E3:=E2.stp s3;clear c3 H2 T2 S2 E2 s3 p0 p1 p2 p3 p4 pf;obtain⟨p0,p1,p2,p3,p4,pf⟩:=ai E3.1;go_wp2
  go_end0
  exact⟨rfl,o3,by rw[HF.out];exact H3,T3⟩
 by_cases h23:e.k=23
 ·have HF:Hid (oEx e set st=aM e.nm st):=by
   show _=_;rw[HF0.out];unfold bi;rw[if_neg (by omega),if_neg (by omega),if_neg (by omega),if_neg (by omega),if_neg (by omega),if_neg (by omega),if_neg (by omega)];unfold eD;rw[if_neg (by omega),if_neg (by omega),if_neg (by omega),if_pos (by omega)]
  have b1:(e.k==1)=false:=bne (by omega);have b2:(e.k==2)=false:=bne (by omega);have b3:(e.k==3)=false:=bne (by omega);have b4:(e.k==4)=false:=bne (by omega);have b23:(e.k==23)=true:=by simp[h23]
  have hnl:e.nm.length<=12:=by have h9:=HVA.out;simp only[Bool.and_eq_true] at h9;exact jB h9.1.2
  clear h23 HF0 HVA;have c3:=cF e.nm H2 (by omega);generalize aM e.nm st=st3 at *;go_wp2_with fail;refine c3.mono ?_;rintro e2 w3 ⟨rfl,o3,H3,s3⟩;have T3:=T2.trans s3;have S3:=S2.stp s3;have E3:=E2.stp s3;clear c3 H2 T2 S2 E2 s3 p0 p1 p2 p3 p4 pf;obtain⟨p0,p1,p2,p3,p4,pf⟩:=ai E3.1;go_wp2
  go_end0
  exact⟨rfl,o3,by rw[HF.out];exact H3,T3⟩
 by_cases h22:e.k=22
 ·have HF:Hid (oEx e set st=aM [118,101,114,116,105,99,101,115] st):=by
   show _=_;rw[HF0.out];unfold bi;rw[if_neg (by omega),if_neg (by omega),if_neg (by omega),if_neg (by omega),if_neg (by omega),if_neg (by omega),if_neg (by omega)];unfold eD;rw[if_neg (by omega),if_neg (by omega),if_neg (by omega),if_neg (by omega),if_pos h22]
  have b1:(e.k==1)=false:=bne (by omega);have b2:(e.k==2)=false:=bne (by omega);have b3:(e.k==3)=false:=bne (by omega);have b4:(e.k==4)=false:=bne (by omega);have b23:(e.k==23)=false:=bne (by omega);have b22:(e.k==22)=true:=by simp[h22]
  clear h22 HF0 HVA;have c3:=cF [118,101,114,116,105,99,101,115] H2 (by simp);generalize aM [118,101,114,116,105,99,101,115] st=st3 at *;go_wp2_with fail;refine c3.mono ?_;rintro e2 w3 ⟨rfl,o3,H3,s3⟩;have T3:=T2.trans s3;have S3:=S2.stp s3;have E3:=E2.stp s3;clear c3 H2 T2 S2 E2 s3 p0 p1 p2 p3 p4 pf;obtain⟨p0,p1,p2,p3,p4,pf⟩:=ai E3.1;go_wp2
  go_end0
  exact⟨rfl,o3,by rw[HF.out];exact H3,T3⟩
 by_cases h6:e.k=6
 ·have hl:e.kids.len=1:=by have h9:=HVA.out;simp only[Bool.and_eq_true] at h9;have h9:=h9.2;rw[h6] at h9;simp[aR] at h9;omega
  obtain⟨x,hks⟩:=sr hl;have hk0:Hid (e.kids=Fs.app .nil (Fs.ex x .nil)):=hks;have hsz:e.kids.size=x.kids.size+0+1:=by rw[hks];rfl
  have hNx:x.kids.size<N:=by omega
  have hfx:=Ex.kidfit he hk0.out;clear hsz;have HF:Hid (oEx e set st=dN (dW e x 0 (aM [45] (aU st)))):=by
   show _=_;rw[HF0.out];unfold bi;rw[if_neg (by omega),if_pos h6];simp only[hks,mx];rw[ep e x 0 _ (by rw[h6];rfl) (by rw[h6];rfl)];rfl
  have b1:(e.k==1)=false:=bne (by omega);have b2:(e.k==2)=false:=bne (by omega);have b3:(e.k==3)=false:=bne (by omega);have b4:(e.k==4)=false:=bne (by omega);have b23:(e.k==23)=false:=bne (by omega);have b22:(e.k==22)=false:=bne (by omega);have b6:(e.k==6)=true:=by simp[h6]
  clear h6 hks hl HF0 HVA;have c3:=fi [45] H2 (by simp);have hb3:Bal (aU st) (aM [45] (aU st)):=(Bal.refl _).put [45];have hp:Hid (∀ s,Bal (aU st) s->∀ x,s=some x->1<=x.o):=fun s h=>eK h;generalize aM [45] (aU st)=st3 at *;generalize aU st=se at *;go_wp2_with fail;refine c3.mono ?_;rintro e2 w3 ⟨rfl,o3,H3,s3⟩;have T3:=T2.trans s3;have S3:=S2.stp s3;have E3:=E2.stp s3;clear c3 H2 T2 S2 E2 s3 p0 p1 p2 p3 p4 pf;obtain⟨p0,p1,p2,p3,p4,pf⟩:=ai E3.1;have c4:=fy IH e x .nil .nil hk0.out 0 rfl (by omega) (hNx) (hfx) ao cap wb st3 w3 o3 S3 H3;rw[am] at c4;have hb4:=hb3.trans (eL e x 0 st3);generalize dW e x 0 st3=st4 at *;go_wp2_with fail;refine c4.mono ?_;rintro e2 w4 ⟨rfl,o4,H4,s4⟩;have T4:=T3.trans s4;have S4:=S3.stp s4;have E4:=E3.stp s4;clear c4 H3 T3 S3 E3 s4 p0 p1 p2 p3 p4 pf hb3;obtain⟨p0,p1,p2,p3,p4,pf⟩:=ai E4.1;obtain⟨oo5,dd5,df5,s5,H5⟩:=H4.lea (hp.out _ hb4);generalize dN st4=st5 at *;have T5:=T4.trans s5;have S5:=S4.stp s5;have E5:=E4.stp s5;go_wp2;generalize w4.setCell ⟨wb,1,none⟩ (.int .i64 (wrap64 (oo5-1)))=w5 at *;clear dd5 df5 H4 T4 S4 E4 s5 p0 p1 p2 p3 p4 pf hp hb4;generalize o4=o5 at *;obtain⟨p0,p1,p2,p3,p4,pf⟩:=ai E5.1
  go_end0
  exact⟨rfl,o5,by rw[HF.out];exact H5,T5⟩
 by_cases h7:e.k=7
 ·have hl:e.kids.len=1:=by have h9:=HVA.out;simp only[Bool.and_eq_true] at h9;have h9:=h9.2;rw[h7] at h9;simp[aR] at h9;omega
  obtain⟨x,hks⟩:=sr hl;have hk0:Hid (e.kids=Fs.app .nil (Fs.ex x .nil)):=hks;have hsz:e.kids.size=x.kids.size+0+1:=by rw[hks];rfl
  have hNx:x.kids.size<N:=by omega
  have hfx:=Ex.kidfit he hk0.out;clear hsz;have HF:Hid (oEx e set st=dN (dW e x 0 (aM [110,111,116,32] (aU st)))):=by
   show _=_;rw[HF0.out];unfold bi;rw[if_pos h7];simp only[hks,mx];rw[ep e x 0 _ (by rw[h7];rfl) (by rw[h7];rfl)];rfl
  have b1:(e.k==1)=false:=bne (by omega);have b2:(e.k==2)=false:=bne (by omega);have b3:(e.k==3)=false:=bne (by omega);have b4:(e.k==4)=false:=bne (by omega);have b23:(e.k==23)=false:=bne (by omega);have b22:(e.k==22)=false:=bne (by omega);have b6:(e.k==6)=false:=bne (by omega);have b7:(e.k==7)=true:=by simp[h7]
  clear h7 hks hl HF0 HVA;have c3:=fi [110,111,116,32] H2 (by simp);have hb3:Bal (aU st) (aM [110,111,116,32] (aU st)):=(Bal.refl _).put [110,111,116,32];have hp:Hid (∀ s,Bal (aU st) s->∀ x,s=some x->1<=x.o):=fun s h=>eK h;generalize aM [110,111,116,32] (aU st)=st3 at *;generalize aU st=se at *;go_wp2_with fail;refine c3.mono ?_;rintro e2 w3 ⟨rfl,o3,H3,s3⟩;have T3:=T2.trans s3;have S3:=S2.stp s3;have E3:=E2.stp s3;clear c3 H2 T2 S2 E2 s3 p0 p1 p2 p3 p4 pf;obtain⟨p0,p1,p2,p3,p4,pf⟩:=ai E3.1;have c4:=fy IH e x .nil .nil hk0.out 0 rfl (by omega) (hNx) (hfx) ao cap wb st3 w3 o3 S3 H3;rw[am] at c4;have hb4:=hb3.trans (eL e x 0 st3);generalize dW e x 0 st3=st4 at *;go_wp2_with fail;refine c4.mono ?_;rintro e2 w4 ⟨rfl,o4,H4,s4⟩;have T4:=T3.trans s4;have S4:=S3.stp s4;have E4:=E3.stp s4;clear c4 H3 T3 S3 E3 s4 p0 p1 p2 p3 p4 pf hb3;obtain⟨p0,p1,p2,p3,p4,pf⟩:=ai E4.1;obtain⟨oo5,dd5,df5,s5,H5⟩:=H4.lea (hp.out _ hb4);generalize dN st4=st5 at *;have T5:=T4.trans s5;have S5:=S4.stp s5;have E5:=E4.stp s5;go_wp2;generalize w4.setCell ⟨wb,1,none⟩ (.int .i64 (wrap64 (oo5-1)))=w5 at *;clear dd5 df5 H4 T4 S4 E4 s5 p0 p1 p2 p3 p4 pf hp hb4;generalize o4=o5 at *;obtain⟨p0,p1,p2,p3,p4,pf⟩:=ai E5.1
  go_end0
  exact⟨rfl,o5,by rw[HF.out];exact H5,T5⟩
 by_cases h19:e.k=19
 ·have HF:Hid (oEx e set st=bi e.k e.n e.nm (fun g s=>oFs e.kids (e.k==21) g 0 s) st):=HF0.out;have hgr:e.k=19\/e.k=20\/e.k=21\/e.k=24\/e.k=25:=by omega
  have b1:(e.k==1)=false:=bne (by omega);have b2:(e.k==2)=false:=bne (by omega);have b3:(e.k==3)=false:=bne (by omega);have b4:(e.k==4)=false:=bne (by omega);have b23:(e.k==23)=false:=bne (by omega);have b22:(e.k==22)=false:=bne (by omega);have b6:(e.k==6)=false:=bne (by omega);have b7:(e.k==7)=false:=bne (by omega);have b19:(e.k==19)=true:=by simp[h19]
  clear h19 HF0;have c3:=jz IH e hNk he ao cap wb st w2 o0 S2 H2 hgr HVA.out;rw[am] at c3;generalize bi e.k e.n e.nm (fun g s=>oFs e.kids (e.k==21) g 0 s) st=st3 at *;clear hgr;go_wp2_with fail;refine c3.mono ?_;rintro e2 w3 ⟨rfl,o3,H3,s3⟩;have T3:=T2.trans s3;have S3:=S2.stp s3;have E3:=E2.stp s3;clear c3 H2 T2 S2 E2 s3 p0 p1 p2 p3 p4 pf;obtain⟨p0,p1,p2,p3,p4,pf⟩:=ai E3.1;go_wp2
  go_end0
  exact⟨rfl,o3,by rw[HF.out];exact H3,T3⟩
 by_cases h21:e.k=21
 ·have HF:Hid (oEx e set st=bi e.k e.n e.nm (fun g s=>oFs e.kids (e.k==21) g 0 s) st):=HF0.out;have hgr:e.k=19\/e.k=20\/e.k=21\/e.k=24\/e.k=25:=by omega
  have b1:(e.k==1)=false:=bne (by omega);have b2:(e.k==2)=false:=bne (by omega);have b3:(e.k==3)=false:=bne (by omega);have b4:(e.k==4)=false:=bne (by omega);have b23:(e.k==23)=false:=bne (by omega);have b22:(e.k==22)=false:=bne (by omega);have b6:(e.k==6)=false:=bne (by omega);have b7:(e.k==7)=false:=bne (by omega);have b19:(e.k==19)=false:=bne (by omega);have b21:(e.k==21)=true:=by simp[h21]
  clear h21 HF0;have c3:=jz IH e hNk he ao cap wb st w2 o0 S2 H2 hgr HVA.out;rw[am] at c3;generalize bi e.k e.n e.nm (fun g s=>oFs e.kids (e.k==21) g 0 s) st=st3 at *;clear hgr;go_wp2_with fail;refine c3.mono ?_;rintro e2 w3 ⟨rfl,o3,H3,s3⟩;have T3:=T2.trans s3;have S3:=S2.stp s3;have E3:=E2.stp s3;clear c3 H2 T2 S2 E2 s3 p0 p1 p2 p3 p4 pf;obtain⟨p0,p1,p2,p3,p4,pf⟩:=ai E3.1;go_wp2
  go_end0
  exact⟨rfl,o3,by rw[HF.out];exact H3,T3⟩
 by_cases h20:e.k=20
 ·have HF:Hid (oEx e set st=bi e.k e.n e.nm (fun g s=>oFs e.kids (e.k==21) g 0 s) st):=HF0.out;have hgr:e.k=19\/e.k=20\/e.k=21\/e.k=24\/e.k=25:=by omega
  have b1:(e.k==1)=false:=bne (by omega);have b2:(e.k==2)=false:=bne (by omega);have b3:(e.k==3)=false:=bne (by omega);have b4:(e.k==4)=false:=bne (by omega);have b23:(e.k==23)=false:=bne (by omega);have b22:(e.k==22)=false:=bne (by omega);have b6:(e.k==6)=false:=bne (by omega);have b7:(e.k==7)=false:=bne (by omega);have b19:(e.k==19)=false:=bne (by omega);have b21:(e.k==21)=false:=bne (by omega);have b20:(e.k==20)=true:=by simp[h20]
  clear h20 HF0;have c3:=jz IH e hNk he ao cap wb st w2 o0 S2 H2 hgr HVA.out;rw[am] at c3;generalize bi e.k e.n e.nm (fun g s=>oFs e.kids (e.k==21) g 0 s) st=st3 at *;clear hgr;go_wp2_with fail;refine c3.mono ?_;rintro e2 w3 ⟨rfl,o3,H3,s3⟩;have T3:=T2.trans s3;have S3:=S2.stp s3;have E3:=E2.stp s3;clear c3 H2 T2 S2 E2 s3 p0 p1 p2 p3 p4 pf;obtain⟨p0,p1,p2,p3,p4,pf⟩:=ai E3.1;go_wp2
  go_end0
  exact⟨rfl,o3,by rw[HF.out];exact H3,T3⟩
 by_cases h24:e.k=24
 ·have HF:Hid (oEx e set st=bi e.k e.n e.nm (fun g s=>oFs e.kids (e.k==21) g 0 s) st):=HF0.out;have hgr:e.k=19\/e.k=20\/e.k=21\/e.k=24\/e.k=25:=by omega
  have b1:(e.k==1)=false:=bne (by omega);have b2:(e.k==2)=false:=bne (by omega);have b3:(e.k==3)=false:=bne (by omega);have b4:(e.k==4)=false:=bne (by omega);have b23:(e.k==23)=false:=bne (by omega);have b22:(e.k==22)=false:=bne (by omega);have b6:(e.k==6)=false:=bne (by omega);have b7:(e.k==7)=false:=bne (by omega);have b19:(e.k==19)=false:=bne (by omega);have b21:(e.k==21)=false:=bne (by omega);have b20:(e.k==20)=false:=bne (by omega);have b24:(e.k==24)=true:=by simp[h24]
  clear h24 HF0;have c3:=jz IH e hNk he ao cap wb st w2 o0 S2 H2 hgr HVA.out;rw[am] at c3;generalize bi e.k e.n e.nm (fun g s=>oFs e.kids (e.k==21) g 0 s) st=st3 at *;clear hgr;go_wp2_with fail;refine c3.mono ?_;rintro e2 w3 ⟨rfl,o3,H3,s3⟩;have T3:=T2.trans s3;have S3:=S2.stp s3;have E3:=E2.stp s3;clear c3 H2 T2 S2 E2 s3 p0 p1 p2 p3 p4 pf;obtain⟨p0,p1,p2,p3,p4,pf⟩:=ai E3.1;go_wp2
  go_end0
  exact⟨rfl,o3,by rw[HF.out];exact H3,T3⟩
 by_cases h25:e.k=25
 ·have HF:Hid (oEx e set st=bi e.k e.n e.nm (fun g s=>oFs e.kids (e.k==21) g 0 s) st):=HF0.out;have hgr:e.k=19\/e.k=20\/e.k=21\/e.k=24\/e.k=25:=by omega
  have b1:(e.k==1)=false:=bne (by omega);have b2:(e.k==2)=false:=bne (by omega);have b3:(e.k==3)=false:=bne (by omega);have b4:(e.k==4)=false:=bne (by omega);have b23:(e.k==23)=false:=bne (by omega);have b22:(e.k==22)=false:=bne (by omega);have b6:(e.k==6)=false:=bne (by omega);have b7:(e.k==7)=false:=bne (by omega);have b19:(e.k==19)=false:=bne (by omega);have b21:(e.k==21)=false:=bne (by omega);have b20:(e.k==20)=false:=bne (by omega);have b24:(e.k==24)=false:=bne (by omega);have b25:(e.k==25)=true:=by simp[h25]
  clear h25 HF0;have c3:=jz IH e hNk he ao cap wb st w2 o0 S2 H2 hgr HVA.out;rw[am] at c3;generalize bi e.k e.n e.nm (fun g s=>oFs e.kids (e.k==21) g 0 s) st=st3 at *;clear hgr;go_wp2_with fail;refine c3.mono ?_;rintro e2 w3 ⟨rfl,o3,H3,s3⟩;have T3:=T2.trans s3;have S3:=S2.stp s3;have E3:=E2.stp s3;clear c3 H2 T2 S2 E2 s3 p0 p1 p2 p3 p4 pf;obtain⟨p0,p1,p2,p3,p4,pf⟩:=ai E3.1;go_wp2
  go_end0
  exact⟨rfl,o3,by rw[HF.out];exact H3,T3⟩
 have hop:(dS e.k).isSome=true/\e.kids.len=2:=by
  have h9:=HVA.out;simp only[Bool.and_eq_true] at h9;have h9:=h9.2;have h10:(dS e.k).isSome=true/\(e.kids.len:Int)=2:=by simpa [aR,h1,h2,h3,h4,h23,h22,h6,h7,h19,h21,h20,h24,h25] using h9
  exact⟨h10.1,by omega⟩
 obtain⟨x,y,hks⟩:=fQ hop.2;obtain⟨z,hz⟩:=Option.isSome_iff_exists.1 hop.1;have hk0:Hid (e.kids=Fs.app .nil (Fs.ex x (Fs.ex y .nil))):=hks;have hk1:Hid (e.kids=Fs.app (one x) (Fs.ex y .nil)):=by show _=_;rw[hks];rfl
 have hsz:e.kids.size=x.kids.size+(y.kids.size+0+1)+1:=by rw[hks];rfl
 have hNx:x.kids.size<N:=by omega
 have hNy:y.kids.size<N:=by omega
 have hfx:=Ex.kidfit he hk0.out;have hfy:=Ex.kidfit he hk1.out;obtain⟨oa0,oa1,ol3,o21⟩:=CO hz;have HF:Hid (oEx e set st=dW e y 1 (aM ([32]++z.1++[32]) (dW e x 0 st))):=by
  show _=_;rw[HF0.out];unfold bi;rw[if_neg (by omega),if_neg (by omega),if_neg (by omega),if_neg (by omega),if_neg (by omega),if_neg (by omega),if_neg (by omega)];unfold eD;rw[if_neg (by omega),if_neg (by omega),if_neg (by omega),if_neg (by omega),if_neg (by omega)];simp only[hks,mx];have e0:opS e.k 0=([],z.2.2.2.1):=by unfold opS;rw[hz];rfl
  have e1:opS e.k (0+1)=([32]++z.1++[32],z.2.2.2.2):=by unfold opS;rw[hz];rfl
  rw[e0,e1];simp only;rw[sJ H2,ep e x 0 _ (by rw[o21];rfl) oa0.symm,ep e y 1 _ (by rw[o21];rfl) oa1.symm];rfl
 have hsg:=CM hz;have hm1:=fF z.1;generalize z.1=zx at *;have b1:(e.k==1)=false:=bne (by omega);have b2:(e.k==2)=false:=bne (by omega);have b3:(e.k==3)=false:=bne (by omega);have b4:(e.k==4)=false:=bne (by omega);have b23:(e.k==23)=false:=bne (by omega);have b22:(e.k==22)=false:=bne (by omega);have b6:(e.k==6)=false:=bne (by omega);have b7:(e.k==7)=false:=bne (by omega);have b19:(e.k==19)=false:=bne (by omega);have b21:(e.k==21)=false:=bne (by omega);have b20:(e.k==20)=false:=bne (by omega);have b24:(e.k==24)=false:=bne (by omega);have b25:(e.k==25)=false:=bne (by omega);clear h1 h2 h3 h4 h23 h22 h6 h7 h19 h21 h20 h24 h25 hop hks hz hsz HF0 HVA oa0 oa1 o21;have c3:=fy IH e x .nil (Fs.ex y .nil) hk0.out 0 rfl (by omega) hNx hfx ao cap wb st w2 o0 S2 H2;rw[am] at c3;generalize dW e x 0 st=st3 at *;go_wp2_with fail;refine c3.mono ?_;rintro e2 w3 ⟨rfl,o3,H3,s3⟩;have T3:=T2.trans s3;have S3:=S2.stp s3;have E3:=E2.stp s3;clear c3 H2 T2 S2 E2 s3 p0 p1 p2 p3 p4 pf;obtain⟨p0,p1,p2,p3,p4,pf⟩:=ai E3.1;have cd:=hsg w3;clear hsg;go_wp2_with fail;refine cd.mono ?_;rintro e2 w4 ⟨rfl,b4⟩;clear cd;have s4:aa (fun _=>False) w3 o3 w4 o3:=aa.ofB o3 b4;have E4:=E3.step s4 id;have S4:=S3.stp0 s4;have H4:=H3.stp0 s4;have T4:=T3.trans s4.i12;clear E3 S3 H3 T3 s4 b4 p0 p1 p2 p3 p4 pf;obtain⟨o4,ho4⟩:∃o4,o4=o3:=⟨_,rfl⟩
 rw[<-ho4] at E4 S4 H4 T4;clear ho4;obtain⟨p0,p1,p2,p3,p4,pf⟩:=ai E4.1;have c5:=cF ([32]++zx++[32]) H4 (by simp;omega);have ec:(⟨([32]++zx++[32]).toArray⟩:ByteArray)=⟨#[32]⟩++⟨zx.toArray⟩++⟨#[32]⟩:=by rw[<-vZ,<-vZ]
 rw[show stv ([32]++zx++[32])=.string (⟨#[32]⟩++⟨zx.toArray⟩++⟨#[32]⟩) by rw[<-ec]] at c5;generalize aM ([32]++zx++[32]) st3=st5 at *;clear ec;go_wp2_with fail;refine c5.mono ?_;rintro e2 w5 ⟨rfl,o5,H5,s5⟩;have T5:=T4.trans s5;have S5:=S4.stp s5;have E5:=E4.stp s5;clear c5 H4 T4 S4 E4 s5 p0 p1 p2 p3 p4 pf;obtain⟨p0,p1,p2,p3,p4,pf⟩:=ai E5.1;have c6:=fy IH e y (one x) .nil hk1.out 1 rfl (by omega) (hNy) (hfy) ao cap wb st5 w5 o5 S5 H5;rw[am] at c6;generalize dW e y 1 st5=st6 at *;go_wp2_with fail;refine c6.mono ?_;rintro e2 w6 ⟨rfl,o6,H6,s6⟩;have T6:=T5.trans s6;have S6:=S5.stp s6;have E6:=E5.stp s6;clear c6 H5 T5 S5 E5 s6 p0 p1 p2 p3 p4 pf;obtain⟨p0,p1,p2,p3,p4,pf⟩:=ai E6.1;go_wp2
 go_end0
 exact⟨rfl,o6,by rw[HF.out];exact H6,T6⟩
theorem nf:∀ N,gp N
 | 0=>fun e ao cap set wb st w o h=>absurd h (Nat.not_lt_zero _)
 | N+1=>rW (nf N)
theorem Bf (e:Ex)(ao:Option Addr)(cap:Nat)(w:World)(he:e.fit)(S:SlT w e.kids ao) :
  Calls Tryz.prog 160 #[exV e ao cap] w (DJ w (fu e)):=by
 obtain⟨w1,hw1⟩:∃w1,w1=(w.alloc (bxX e ao cap)).alloc (.cells #[.slice none 0 0,.int .i64 0,.int .i64 0,.bool true] 267):=⟨_,rfl⟩
 obtain⟨be,hbe⟩:∃be,be=w.heap.size:=⟨_,rfl⟩
 obtain⟨o1,ho1⟩:∃o1:Nat->Nat,o1=fun k=>if k=be+1 then 1 else 0:=⟨_,rfl⟩
 have B1:Below be w w1:=by rw[hw1,hbe];exact((Below.refl _ w).alloc (Nat.le_refl _) _).alloc (by simp) _
 have E1:w1.heap[be]?=some (bxX e ao cap):=by
  rw[hw1,hbe];exact(Below.heap_alloc _ _ _ (by simp)).trans (heap_alloc_new w _)
 have W1:w1.heap[be+1]?=some (.cells #[.slice none 0 0,.int .i64 0,.int .i64 0,.bool true] 267 (0,0)):=by
  rw[hw1,hbe]
  have:=heap_alloc_new (w.alloc (bxX e ao cap)) (.cells #[.slice none 0 0,.int .i64 0,.int .i64 0,.bool true] 267)
  simpa using this
 have L1:∀ k,k<=be->o1 k=0:=fun k hk=>by rw[ho1];show (if k=be+1 then 1 else 0)=0;rw[if_neg (by omega)]
 have L2:o1 (be+1)=1:=by rw[ho1];show (if be+1=be+1 then 1 else 0)=1;rw[if_pos rfl]
 have Q1:WQ w1 o1 (be+1) (some ⟨[],0,0⟩):=⟨⟨.slice none 0 0,⟨W1,L2⟩,Row.nil _ _ _ _ _⟩,by simp,by simp,by simp⟩
 have S1:Sl w1 (L0 o1) e.kids ao:=S.mono (fun i _ hl=>B1.block i (by rw[hbe];exact hl)) B1.size (fun i _ hl=>L1 i (by omega));have c2:=nf (e.kids.size+1) e ao cap false (be+1) _ w1 o1 (Nat.lt_succ_self _) he S1 Q1;obtain⟨R,hR⟩:∃R,R=oEx e false (some ⟨[],0,0⟩):=⟨_,rfl⟩
 rw[<-hR] at c2;have HR:Hid (fu e=R.map (·.t)):=by show _=_;rw[<-zc,hR];rfl
 obtain⟨W,hW⟩:∃W,W=fu e:=⟨_,rfl⟩
 rw[<-hW] at HR ⊢;obtain⟨p0,p1,p2,p3,p4,pf⟩:=ai E1;rw[am] at c2 ⊢;clear S ho1 Q1 S1 hR hW;go_enter Tryz.func160,Tryz.ntmps160;go_upto_region 2 with fail;rw[<-hw1,<-hbe];have HB:Hid (be=w.heap.size):=hbe;clear hw1 hbe W1;go_wp2_with fail;refine c2.mono ?_;rintro e2 w2 ⟨rfl,o2,Q2,s2⟩;have B2:Below be w w2:=aJ B1 s2 (fun k hk hi=>by rw[L1 k (by omega)] at hi;rcases hi with h|h<;>omega) (by rw[HB.out];exact Nat.le_refl _);have B3:Hid (Below w.heap.size w w2):=by show Below w.heap.size w w2;rw[<-HB.out];exact B2
 clear c2 s2 B1 B2 L1 L2 p0 p1 p2 p3 p4 pf E1 HB;cases R with
 | none =>
  obtain⟨c3,cf,-,-⟩:=Q2.end;have c3:w2.cell? ⟨be+1,3,none⟩=some (.bool false):=c3;have FIN:Hid (W=none):=HR.out;clear HR Q2;go_wp2;go_ret2;exact⟨by rw[FIN.out];rfl,B3.out⟩
 | some s =>
  obtain⟨c3,cf,-,-⟩:=Q2.end;have c3:w2.cell? ⟨be+1,3,none⟩=some (.bool true):=c3;obtain⟨⟨v,hb,hr⟩,-⟩:=Q2;obtain⟨d0,d1,d2,d3,df⟩:=Blk.cells4 hb;have F:=xj hr;obtain⟨aov,capv,rfl⟩:=hr.form;have FIN:Hid (W=some s.t):=HR.out;clear HR hb hr d1 d2 d3;go_wp2;go_ret2;exact⟨by rw[FIN.out];rfl,B3.out⟩
theorem Be (e:Ex)(ao:Option Addr)(cap:Nat)(w:World)(he:e.fit)(S:SlT w e.kids ao) :
  Calls Tryz.prog 99 #[exV e ao cap] w fun x w'=>x=.returned (.bool (fu e).isSome)/\Below w.heap.size w w':=by
 have B0:Below w.heap.size w (w.alloc (bxX e ao cap)):=(Below.refl _ w).alloc (Nat.le_refl _) _;have E0:(w.alloc (bxX e ao cap)).heap[w.heap.size]?=some (bxX e ao cap):=heap_alloc_new w _;have c1:=Bf e ao cap (w.alloc (bxX e ao cap)) he (SlT.below S B0);obtain⟨p0,p1,p2,p3,p4,pf⟩:=ai E0;rw[am] at c1 ⊢;generalize fu e=W at *;go_enter Tryz.func99,Tryz.ntmps99;go_wp2_with fail;refine c1.mono ?_;rintro e2 w1 ⟨rfl,b1⟩;have B1:=B0.trans (b1.mono B0.size);clear c1 p0 p1 p2 p3 p4 pf E0;cases W with
 | none =>
  go_wp2;go_ret;exact⟨rfl,B1⟩
 | some t =>
  go_wp2;go_ret;exact⟨rfl,B1⟩
abbrev yL (t:Int × Nat × Int):Value:=.tuple #[.int .i64 t.1,.int .i64 (t.2.1:Nat),.int .i64 t.2.2]
theorem xi {e:Ex}(hf:e.fit){t:List UInt8}(h:fu e=some t):e.okA/\e.kids.size<=2000/\bm e.k=false:=by
 unfold fu at h;by_cases hs:bm e.k=true
 ·rw[if_pos hs] at h;cases h
 ·rw[if_neg hs] at h;cases hh:hE e 0 with
  | none=>rw[hh] at h;cases h
  | some c =>
   obtain⟨h1,h2,h3⟩:=DQ hf hh;exact⟨h1,by omega,by simpa using hs⟩
theorem vP {e:Ex}{t:List UInt8}(h:fu e=some t):e.kids.stk (e.k==21):=by
 unfold fu at h;split at h
 ·cases h
 ·cases hh:hE e 0 with
  | none=>rw[hh] at h;cases h
  | some c=>exact Di hh
theorem yk (e:Ex)(ao:Option Addr)(cap:Nat)(w:World)(hf:e.fit)(S:SlT w e.kids ao) :
  Calls Tryz.prog 50 #[exV e ao cap] w fun x w'=>x=.returned (yL (lL e))/\Below w.heap.size w w':=by
 obtain⟨T,hT⟩:∃T,T=lL e:=⟨_,rfl⟩
 rw[<-hT];have HT:Hid (T=lL e):=hT;clear hT;have B0:Below w.heap.size w (w.alloc (.cells #[.int .i64 e.k,.int .i64 e.n,stv e.nm,.slice ao e.kids.len cap,.int .i64 e.a] 25)):=(Below.refl _ w).alloc (Nat.le_refl _) _;have E0:(w.alloc (.cells #[.int .i64 e.k,.int .i64 e.n,stv e.nm,.slice ao e.kids.len cap,.int .i64 e.a] 25)).heap[w.heap.size]?=some (.cells #[.int .i64 e.k,.int .i64 e.n,stv e.nm,.slice ao e.kids.len cap,.int .i64 e.a] 25):=heap_alloc_new w _;have S0:=SlT.below S B0;rw[am];go_enter Tryz.func50,Tryz.ntmps50;go_upto_region 1 with fail;generalize w.alloc (.cells #[.int .i64 e.k,.int .i64 e.n,stv e.nm,.slice ao e.kids.len cap,.int .i64 e.a] 25)=w0 at *;obtain⟨bx,hbx⟩:∃bx,bx=w.heap.size:=⟨_,rfl⟩
 rw[<-hbx] at E0 B0 ⊢;have HB:Hid (bx=w.heap.size):=hbx;clear hbx;obtain⟨p0,p1,p2,p3,p4,pf⟩:=ai E0;have hbx0:=lt_of_block E0;have c1:=Be e ao cap w0 hf S0;rw[am] at c1;go_wp2_with fail;refine c1.mono ?_;rintro x w1 ⟨rfl,b1⟩;have E1:=(b1.block _ hbx0).trans E0;have B1:Below bx w w1:=B0.trans (b1.mono (Nat.le_of_lt hbx0));have S1:=SlT.below S0 b1;clear c1 b1 p0 p1 p2 p3 p4 pf E0 B0 S0 S;cases hw:fu e with
 | none =>
  have FIN:Hid (T=(0,122,0)):=by show T=_;rw[HT.out];unfold lL;rw[hw]
  simp only[Option.isSome_none];clear HT hw;go_wp2;refine bodyPost_ret (v:=yL (0,122,0)) (by simp[results,Tryz.results50,go_sem]) rfl ⟨by rw[FIN.out],?_⟩;rw[<-HB.out];exact B1
 | some t =>
  obtain⟨hok,hsz,hset⟩:=xi hf hw;have hsk:=vP hw;simp only[Option.isSome_some];have HT2:Hid (T=(match bK e [] with | .inl (er,a)=>(0,er,a) | .inr k=>(k,0,0))):=by
   show T=_;rw[HT.out];unfold lL;rw[hw];simp only;cases bK e [] with
   | inl z=>obtain⟨er,a⟩:=z;rfl
   | inr k=>rfl
  clear HT hw;have b2:Below w1.heap.size w1 (w1.alloc (.cells #[.slice none 0 0,.int .i64 0,.int .i64 0] 154)):=(Below.refl _ w1).alloc (Nat.le_refl _) _;have W2:Wk (w1.alloc (.cells #[.slice none 0 0,.int .i64 0,.int .i64 0] 154)) w1.heap.size (.slice none 0 0) none:=⟨heap_alloc_new w1 _,vd.none⟩
  have E2:=(b2.block _ (lt_of_block E1)).trans E1;have B2:=B1.trans (b2.mono (Nat.le_of_lt (lt_of_block E1)));have S2:Sl (w1.alloc (.cells #[.slice none 0 0,.int .i64 0,.int .i64 0] 154)) (Nf w1.heap.size) e.kids ao:=S1.mono (fun i _ hl=>b2.block i hl) b2.size (fun i _ hl=>by show i≠_;omega);have hwb:bx<w1.heap.size:=lt_of_block E1;go_upto_region 5 with fail;generalize w1.alloc (.cells #[.slice none 0 0,.int .i64 0,.int .i64 0] 154)=w2 at *;generalize w1.heap.size=wb at *;obtain⟨p0,p1,p2,p3,p4,pf⟩:=ai E2;have c4:=ue (e.kids.size+1) e ao cap wb (.slice none 0 0) [] w2 ⟨by omega,hok,hset,hsk,hf.len,hf.sh,by simp;omega⟩ W2 ⟨Nms.nil w2,fun g off n c h=>by cases h⟩ S2;rw[am] at c4;have hwb2:=lt_of_block W2.blk;clear b2 E1 B1 S1 S2 W2;go_wp2_with fail;refine c4.mono ?_;rintro x w4 ⟨⟨k',rfl,hk'⟩,W4,K4⟩;have HZ:Hid (Below bx w w4):=B2.trans (K4.below (Nat.le_of_lt hwb) hwb2);clear c4 K4 p0 p1 p2 p3 p4 pf;obtain⟨q0,q1,q2,qf⟩:=it W4.blk;cases hc:bK e [] with
  | inl z =>
   obtain⟨er,a⟩:=z;have her:=sY hc;rw[hc] at q1 q2;simp only[stS,erO,plO] at q1 q2;have hne:((er:Int) != 0)=true:=by simp;omega
   have FIN:Hid (T=(0,er,a)):=by show T=_;rw[HT2.out,hc]
   clear HT2 hc her hk' W4;go_wp2_with fail
   go_quiet (fail)
   go_wp2;refine bodyPost_ret (v:=yL (0,er,a)) (by simp[results,Tryz.results50,go_sem]) rfl ⟨by rw[FIN.out],?_⟩;rw[<-HB.out];exact HZ.out.trans ⟨rfl,rfl,rfl,Nat.le_refl _,fun _ _=>rfl⟩
  | inr k =>
   obtain rfl:=hk' k hc;rw[hc] at q1 q2;simp only[stS,erO,plO] at q1 q2;have FIN:Hid (T=(k',0,0)):=by show T=_;rw[HT2.out,hc]
   clear HT2 hc hk' W4;go_wp2;refine bodyPost_ret (v:=yL (k',0,0)) (by simp[results,Tryz.results50,go_sem]) rfl ⟨by rw[FIN.out],?_⟩;rw[<-HB.out];exact HZ.out
def cZ:Fs->Fs->Bool
 | ⟨none⟩,⟨none⟩=>true
 | ⟨some ⟨k,n,nm,_,ks,r⟩⟩,⟨some ⟨k',n',nm',_,ks',r'⟩⟩=>k==k'&&n==n'&&nm==nm'&&cZ ks ks'&&cZ r r'
 | _,_=>false
def br (a b:Ex):Bool:=a.k==b.k&&a.n==b.n&&a.nm==b.nm&&cZ a.kids b.kids
theorem jI:∀ (x y:Fs),x.len≠y.len->cZ x y=false
 | ⟨none⟩,⟨none⟩,h=>absurd rfl h
 | ⟨none⟩,⟨some ⟨k',n',nm',a',ks',r'⟩⟩,h=>rfl
 | ⟨some ⟨k,n,nm,a,ks,r⟩⟩,⟨none⟩,h=>rfl
 | ⟨some ⟨k,n,nm,a,ks,r⟩⟩,⟨some ⟨k',n',nm',a',ks',r'⟩⟩,h=>by
  have h2:r.len≠r'.len:=fun e=>h (by simp only[Fs.len,e]);simp only[cZ,jI r r' h2,Bool.and_false]
theorem iQ:∀ (x:Fs),cZ x x=true
 | ⟨none⟩=>rfl
 | ⟨some ⟨k,n,nm,a,ks,r⟩⟩=>by simp[cZ,iQ ks,iQ r]
def nmP (k:Int)(nm:List UInt8):Bool:=if k==23 then aX nm else nm==[]
def nuP (nc:Nat)(k n:Int)(ar:Nat):Bool :=
 if k==1 then true else if k==2 then n==0||n==1 else if k==3 then decide (0<=n) else if k==5 then decide (0<=n)&&decide (n<(ar:Int))
 else if k==20 then decide (1<=n)&&decide (n<=10) else if k==21 then decide (1<=n)&&decide (n<=6) else if k==26 then decide (0<=n)&&decide (n<(nc:Int)) else n==0
def wkP (ks:List Int)(i:Nat):Int :=
 match ks[i]? with
 | some k=>if k=4 then 0 else k
 | none=>0
def aZ (k n:Int)(ks:List Int):List Int × Int :=
 if k=1 then ([],1) else if k=2 then ([],2) else if k=3\/k=5 then ([],3) else if k=6 then ([1],1) else if k=7 then ([2],2)
 else if 8<=k/\k<=12 then ([1,1],1) else if k=15\/k=16 then ([1,1],2) else if k=17\/k=18 then ([2,2],2)
 else if k=13\/k=14 then ([wkP ks 0,wkP ks 0],2) else if k=19 then ([2,wkP ks 1,wkP ks 1],wkP ks 1)
 else if k=20 then (if n=1\/n=2 then ([3,3],2) else if n=3 then ([3,3],1) else if n=10 then ([3],3) else ([3],1))
 else if k=21 then (if n=1\/n=2 then ([4,2],2) else if n=3 then ([4,2],1) else ([4,1],1))
 else if k=26 then ([wkP ks 0],wkP ks 0) else if k=22\/k=23 then ([],4) else if k=24 then ([3],4) else if k=25 then (List.replicate ks.length 3,4) else ([],0)
def hgF:Fs->Int->Int
 | ⟨none⟩,_=>0
 | ⟨some ⟨k,n,_,_,ks,r⟩⟩,ar=>max (max (if k=5/\n<ar then n+1 else 0) (hgF ks ar)) (hgF r ar)
def hgE (e:Ex)(ar:Int):Int:=max (if e.k=5/\e.n<ar then e.n+1 else 0) (hgF e.kids ar)
abbrev Rg:=Nat × (Nat->Option Ex)
def aL (pk:Int)(i ar wi:Nat):Nat × Nat:=if pk=21 then (if i=0 then ar else ar+1,wi+1) else (ar,wi)
def cT (cells:List Int)(n:Int)(ks:Fs)(ar:Nat)(s:Rg):Option Rg :=
 match cells[n.toNat]? with
 | none=>none
 | some lv =>
  if (ar:Int)<lv\/lv<hgE ks.head ar then none else
  match s.2 n.toNat with
  | none=>some (s.1,fun i=>if i=n.toNat then some ks.head else s.2 i)
  | some x=>if br x ks.head then some s else none
def rgF (cells:List Int):Fs->Int->Nat->Nat->Nat->Rg->Option (Rg × List Int)
 | ⟨none⟩,_,_,_,_,s=>some (s,[])
 | ⟨some ⟨k,n,nm,a,ks,r⟩⟩,pk,i,ar,wi,s =>
  if 4096<s.1+1\/4<(aL pk i ar wi).2\/nmP k nm=false\/nuP cells.length k n (aL pk i ar wi).1=false then none else
  match rgF cells ks k 0 (aL pk i ar wi).1 (aL pk i ar wi).2 (s.1+1,s.2) with
  | none=>none
  | some (s1,kd) =>
   if (aZ k n kd).2=0\/(aZ k n kd).1≠kd then none else
   match (if k=26 then cT cells n ks (aL pk i ar wi).1 s1 else some s1) with
   | none=>none
   | some s2 =>
    match rgF cells r pk (i+1) ar wi s2 with
    | none=>none
    | some (s3,rest)=>some (s3,(aZ k n kd).2::rest)
def bO (cells:List Int)(e:Ex):Int :=
 if 256<cells.length\/cells.any (fun c=>decide (c<0)||decide (4<c))=true then 0 else
 match rgF cells (one e) 0 0 0 0 (0,fun _=>none) with
 | some (_,[k])=>if k=4 then 0 else k
 | _=>0
theorem oC (cells:List Int):∀ (f:Fs) (pk:Int) (i ar wi:Nat) (s s':Rg) (kd:List Int),rgF cells f pk i ar wi s=some (s',kd)->kd.length=f.len
 | ⟨none⟩,pk,i,ar,wi,s,s',kd,h=>by
  simp only[rgF] at h;injection h with h
  injection h with h1 h2
  subst h2;rfl
 | ⟨some ⟨k,n,nm,a,ks,r⟩⟩,pk,i,ar,wi,s,s',kd,h=>by
  unfold rgF at h;split at h
  ·cases h
  ·split at h
   ·cases h
   ·split at h
    ·cases h
    ·split at h
     ·cases h
     ·split at h
      ·cases h
      ·rename_i s3 rest h5
       injection h with h
       injection h with h1 h2
       subst h2
       have:=oC cells r pk (i+1) ar wi _ _ _ h5
       simp only[List.length_cons,Fs.len];omega
end Go.Proofs.YtbjdkekhnajafaaGreatDoor

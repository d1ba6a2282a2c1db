import Derived.Test.YtbjdkekhnajafaaGreatDoorEmR
set_option maxRecDepth 100000
set_option maxHeartbeats 8000000
namespace Go.Proofs.YtbjdkekhnajafaaGreatDoor
open Go.ChangeShapes Go.WideShapes Go.ChangeAt Go.RowKit
set_option linter.unusedVariables false
set_option linter.unusedSimpArgs false
theorem BO:Ent 92:=fun _ _=>by kernel_rfl
theorem Cc:Ent 93:=fun _ _=>by kernel_rfl
theorem tP (s:Em)(op a b u:Nat)(hu:u<=1000000000):Grw s (s.push op a b u) 1:=⟨by rw[Em.mes_push];omega,by simp[Em.push],rfl,fun h=>by show max s.dp (u+1)<=_;omega⟩
theorem DV (s:Em)(n:Int):Grw s (s.kc n) 1:=⟨s.mes_kc n,Nat.le_refl _,rfl,id⟩
theorem xK {k n:Int}{nm:List UInt8}{len:Nat}(h:aD k n nm len=true):nm.length<=12:=by
 have hk:=dI h;unfold aD at h;rcases hk with rfl|rfl|rfl|rfl|rfl|rfl|rfl|rfl|rfl|rfl|rfl|rfl|rfl|rfl|rfl|rfl|rfl|rfl|rfl|rfl|rfl|rfl|rfl|rfl|rfl
 all_goals first
 | (simp at h;have h2:nm=[]:=(by first|exact h.1|exact h.2.1|exact h.2.2.1|exact h.2|exact h);rw[h2];simp;done)
 | (
  simp at h;have h2:=h.2.2;unfold aX at h2;split at h2
  ·cases h2
  ·simp only[Bool.and_eq_true,decide_eq_true_eq] at h2;simp;omega)
theorem nP:∀ (d:Fs) (y:Ex) (r:Fs),d.app (Fs.ex y r)=(d.snoc y).app r
 | ⟨none⟩,y,r=>rfl
 | ⟨some ⟨k,n,nm,a,ks,t⟩⟩,y,r=>by
  have h:=nP t y r;simp only[Fs.app,Fs.snoc] at h ⊢;rw[h]
theorem oJ {nc:Nat}:∀ {d r:Fs},okF nc (d.app r)->okF nc r
 | ⟨none⟩,r,h=>h
 | ⟨some ⟨k,n,nm,a,ks,t⟩⟩,r,h=>oJ (d:=t) h.2.2
theorem eS:∀ (f:Fs),f.len<=f.size
 | ⟨none⟩=>Nat.le_refl _
 | ⟨some ⟨k,n,nm,a,ks,r⟩⟩=>by have:=eS r;simp only[Fs.len,Fs.size];omega
abbrev Bx (w:World)(g rb:Nat)(k n:Int)(nm:List UInt8)(sl:Value)(ar u:Nat):Prop:=w.cell? ⟨g,0,none⟩=some (pt0 rb)/\(w.cell? ⟨g+1,0,none⟩=some (.int .i64 k)/\w.cell? ⟨g+1,1,none⟩=some (.int .i64 n)/\w.cell? ⟨g+1,2,none⟩=some (stv nm)/\w.cell? ⟨g+1,3,none⟩=some sl)/\w.cell? ⟨g+2,0,none⟩=some (.int .i64 (ar:Nat))/\w.cell? ⟨g+2,1,none⟩=some (.int .i64 (u:Nat))
theorem rZ (nc N:Nat)(ih:fq nc N):fq nc (N+1):=by
 intro e ao cap ar u w o rb lv ls s hN hoe hls hnc S hks hm hu har hd X h;obtain⟨k,n,nm,a,ks⟩:=e;have hok:=hoe.2;have hdl:=gX hoe.1.1;simp only at hN hok hdl S hm hu har;rw[ah];simp only;by_cases h1:k=1
 ·subst h1;have hv:emE ls ⟨1,n,nm,a,ks⟩ ar u s=s.con n 1 u:=by simp[emE,prt]
  rw[hv];have hke:kdE ⟨1,n,nm,a,ks⟩=1:=by simp[kdE,kdN]
  obtain⟨g,hg⟩:∃g,g=w.heap.size:=⟨_,rfl⟩
  obtain⟨w1,hw1⟩:∃w1,w1=((w.alloc (.cells #[pt0 rb] 87)).alloc (.cells #[.int .i64 1,.int .i64 n,stv nm,.slice ao ks.len cap] 34)).alloc (.cells #[.int .i64 (ar:Nat),.int .i64 (u:Nat)] 91):=⟨_,rfl⟩
  obtain⟨z1,z2,z3,z4,z5⟩:=al3 w (.cells #[pt0 rb] 87) (.cells #[.int .i64 1,.int .i64 n,stv nm,.slice ao ks.len cap] 34) (.cells #[.int .i64 (ar:Nat),.int .i64 (u:Nat)] 91);rw[<-hw1,<-hg] at z1 z2 z3 z4 z5;have s0:∀ {I:Nat->Prop},aa I w o w1 (ae w o 0):=fun {I}=>dJ o (by rw[<-hg];exact z5);have hnl:∀ j,ae w o 0 (g+j)=0:=fun j=>ax (by omega);have SN1:=S.stepO (s0 (I:=fun _=>False)) id;have E1:=h.step (s0 (I:=fun _=>False)) noF;have X1:=X.step (s0 (I:=fun _=>False)) id;have S0:=s0 (I:=I17);have b1w:Blk w1 (ae w o 0) 0 g (.cells #[pt0 rb] 87):=⟨z1,hnl 0⟩
  have b1n:Blk w1 (ae w o 0) 0 (g+1) (.cells #[.int .i64 1,.int .i64 n,stv nm,.slice ao ks.len cap] 34):=⟨z2,hnl 1⟩
  have b1a:Blk w1 (ae w o 0) 0 (g+2) (.cells #[.int .i64 (ar:Nat),.int .i64 (u:Nat)] 91):=⟨z3,hnl 2⟩
  generalize ae w o 0=o1 at *;have HG:=Lib.hid hg;have KK:Hid (∀ w' o',aa I17 w1 o1 w' o'->Bx w' g rb 1 n nm (.slice ao ks.len cap) ar u):=fun w' o' S=>⟨bD (b1w.step S aA).1,(as (b1n.step S aA).1).1,(aE (b1a.step S aA).1).1,(aE (b1a.step S aA).1).2⟩;obtain⟨c0,⟨m0,m1,m2,m3⟩,a0,a1⟩:=KK.out _ _ (aa.refl I17 w1 o1);obtain⟨d0,⟨f0,f1,f2,f3⟩,e0,e1⟩:=KK.out _ _ ((aa.refl I17 w1 o1).drew);have SD:aa I17 w1 o1 w1.drew o1:=(aa.refl _ w1 o1).drew;have dF:aa (fun _=>False) w1 o1 w1.drew o1:=(aa.refl _ w1 o1).drew;have HKS:=Lib.hid hks;have HLS:=Lib.hid hls;clear s0 hnl z1 z2 z3 z4 z5 h X S hg hks hls hdl;have HK:=gL nc (ks.size+1) ⟨1,n,nm,a,ks⟩ ao cap w1.drew (by show ks.size < _;omega) hoe (SN1.stepO dF id).all;rw[ah,hke] at HK;simp only at HK;have HC:∀ w2,Below w1.drew.heap.size w1.drew w2->Calls Tryz.prog 86 #[.pointer (some ⟨rb,0,none⟩),.int .i64 n,.int .i64 1,spV ar u] w2 (j6 w2 o1 rb lv (s.con n 1 u) (.tuple #[])):=fun w2 B=>bY n 1 ar u w2 o1 rb lv ls s hoe.1.2.2.2 (by omega) (by omega) hd (by omega) ((X1.step dF id).below B) ((E1.step dF noF).below B);clear hv hke b1w b1n b1a SN1 E1 hok;go_enter Tryz.func46,Tryz.ntmps46;go_upto_region 1 with fail;rw[<-hw1,<-HG.out];clear hw1;go_upto_region 10 with fail;go_region_held3 (fun wx=>wx.cell? ⟨g,0,none⟩=some (pt0 rb)/\(wx.cell? ⟨g+1,0,none⟩=some (.int .i64 1)/\wx.cell? ⟨g+1,1,none⟩=some (.int .i64 n)/\wx.cell? ⟨g+1,2,none⟩=some (stv nm)/\wx.cell? ⟨g+1,3,none⟩=some (.slice ao ks.len cap))/\wx.cell? ⟨g+2,0,none⟩=some (.int .i64 (ar:Nat))/\wx.cell? ⟨g+2,1,none⟩=some (.int .i64 (u:Nat))) (go_keep) (first|(go_at_call 87;refine HK.mono ?_;rintro z w2 ⟨rfl,B2⟩;have S2:=SD.trans (aa.ofBelow (I:=I17) o1 B2);obtain⟨d0,⟨f0,f1,f2,f3⟩,e0,e1⟩:=KK.out _ _ S2;have HF:=HC w2 B2)|(go_at_call 86;refine HF.mono ?_;rintro z w3 ⟨rfl,o3,E3,S3⟩;obtain⟨d0,⟨f0,f1,f2,f3⟩,e0,e1⟩:=KK.out _ _ (S2.trans S3)))
  all_goals
   go_wp2
   go_end0
   exact⟨rfl,⟨o3,E3,(S0.trans S2).trans S3⟩,(eC s n 1 u (by omega)).le (by omega)⟩
 by_cases h2:k=2
 ·subst h2;have hv:emE ls ⟨2,n,nm,a,ks⟩ ar u s=s.con n 2 u:=by simp[emE,prt]
  rw[hv];have hke:kdE ⟨2,n,nm,a,ks⟩=2:=by simp[kdE,kdN]
  obtain⟨g,hg⟩:∃g,g=w.heap.size:=⟨_,rfl⟩
  obtain⟨w1,hw1⟩:∃w1,w1=((w.alloc (.cells #[pt0 rb] 87)).alloc (.cells #[.int .i64 2,.int .i64 n,stv nm,.slice ao ks.len cap] 34)).alloc (.cells #[.int .i64 (ar:Nat),.int .i64 (u:Nat)] 91):=⟨_,rfl⟩
  obtain⟨z1,z2,z3,z4,z5⟩:=al3 w (.cells #[pt0 rb] 87) (.cells #[.int .i64 2,.int .i64 n,stv nm,.slice ao ks.len cap] 34) (.cells #[.int .i64 (ar:Nat),.int .i64 (u:Nat)] 91);rw[<-hw1,<-hg] at z1 z2 z3 z4 z5;have s0:∀ {I:Nat->Prop},aa I w o w1 (ae w o 0):=fun {I}=>dJ o (by rw[<-hg];exact z5);have hnl:∀ j,ae w o 0 (g+j)=0:=fun j=>ax (by omega);have SN1:=S.stepO (s0 (I:=fun _=>False)) id;have E1:=h.step (s0 (I:=fun _=>False)) noF;have X1:=X.step (s0 (I:=fun _=>False)) id;have S0:=s0 (I:=I17);have b1w:Blk w1 (ae w o 0) 0 g (.cells #[pt0 rb] 87):=⟨z1,hnl 0⟩
  have b1n:Blk w1 (ae w o 0) 0 (g+1) (.cells #[.int .i64 2,.int .i64 n,stv nm,.slice ao ks.len cap] 34):=⟨z2,hnl 1⟩
  have b1a:Blk w1 (ae w o 0) 0 (g+2) (.cells #[.int .i64 (ar:Nat),.int .i64 (u:Nat)] 91):=⟨z3,hnl 2⟩
  generalize ae w o 0=o1 at *;have HG:=Lib.hid hg;have KK:Hid (∀ w' o',aa I17 w1 o1 w' o'->Bx w' g rb 2 n nm (.slice ao ks.len cap) ar u):=fun w' o' S=>⟨bD (b1w.step S aA).1,(as (b1n.step S aA).1).1,(aE (b1a.step S aA).1).1,(aE (b1a.step S aA).1).2⟩;obtain⟨c0,⟨m0,m1,m2,m3⟩,a0,a1⟩:=KK.out _ _ (aa.refl I17 w1 o1);obtain⟨d0,⟨f0,f1,f2,f3⟩,e0,e1⟩:=KK.out _ _ ((aa.refl I17 w1 o1).drew);have SD:aa I17 w1 o1 w1.drew o1:=(aa.refl _ w1 o1).drew;have dF:aa (fun _=>False) w1 o1 w1.drew o1:=(aa.refl _ w1 o1).drew;have HKS:=Lib.hid hks;have HLS:=Lib.hid hls;clear s0 hnl z1 z2 z3 z4 z5 h X S hg hks hls hdl;have HK:=gL nc (ks.size+1) ⟨2,n,nm,a,ks⟩ ao cap w1.drew (by show ks.size < _;omega) hoe (SN1.stepO dF id).all;rw[ah,hke] at HK;simp only at HK;have HC:∀ w2,Below w1.drew.heap.size w1.drew w2->Calls Tryz.prog 86 #[.pointer (some ⟨rb,0,none⟩),.int .i64 n,.int .i64 2,spV ar u] w2 (j6 w2 o1 rb lv (s.con n 2 u) (.tuple #[])):=fun w2 B=>bY n 2 ar u w2 o1 rb lv ls s hoe.1.2.2.2 (by omega) (by omega) hd (by omega) ((X1.step dF id).below B) ((E1.step dF noF).below B);clear hv hke b1w b1n b1a SN1 E1 hok;go_enter Tryz.func46,Tryz.ntmps46;go_upto_region 1 with fail;rw[<-hw1,<-HG.out];clear hw1;go_upto_region 10 with fail;go_region_held3 (fun wx=>wx.cell? ⟨g,0,none⟩=some (pt0 rb)/\(wx.cell? ⟨g+1,0,none⟩=some (.int .i64 2)/\wx.cell? ⟨g+1,1,none⟩=some (.int .i64 n)/\wx.cell? ⟨g+1,2,none⟩=some (stv nm)/\wx.cell? ⟨g+1,3,none⟩=some (.slice ao ks.len cap))/\wx.cell? ⟨g+2,0,none⟩=some (.int .i64 (ar:Nat))/\wx.cell? ⟨g+2,1,none⟩=some (.int .i64 (u:Nat))) (go_keep) (first|(go_at_call 87;refine HK.mono ?_;rintro z w2 ⟨rfl,B2⟩;have S2:=SD.trans (aa.ofBelow (I:=I17) o1 B2);obtain⟨d0,⟨f0,f1,f2,f3⟩,e0,e1⟩:=KK.out _ _ S2;have HF:=HC w2 B2)|(go_at_call 86;refine HF.mono ?_;rintro z w3 ⟨rfl,o3,E3,S3⟩;obtain⟨d0,⟨f0,f1,f2,f3⟩,e0,e1⟩:=KK.out _ _ (S2.trans S3)))
  all_goals
   go_wp2
   go_end0
   exact⟨rfl,⟨o3,E3,(S0.trans S2).trans S3⟩,(eC s n 2 u (by omega)).le (by omega)⟩
 by_cases h3:k=3
 ·subst h3;have hv:emE ls ⟨3,n,nm,a,ks⟩ ar u s=(s.kc n).push 2 (s.cs.idxOf n) 0 u:=by simp[emE,prt]
  rw[hv];obtain⟨g,hg⟩:∃g,g=w.heap.size:=⟨_,rfl⟩
  obtain⟨w1,hw1⟩:∃w1,w1=((w.alloc (.cells #[pt0 rb] 87)).alloc (.cells #[.int .i64 3,.int .i64 n,stv nm,.slice ao ks.len cap] 34)).alloc (.cells #[.int .i64 (ar:Nat),.int .i64 (u:Nat)] 91):=⟨_,rfl⟩
  obtain⟨z1,z2,z3,z4,z5⟩:=al3 w (.cells #[pt0 rb] 87) (.cells #[.int .i64 3,.int .i64 n,stv nm,.slice ao ks.len cap] 34) (.cells #[.int .i64 (ar:Nat),.int .i64 (u:Nat)] 91);rw[<-hw1,<-hg] at z1 z2 z3 z4 z5;have s0:∀ {I:Nat->Prop},aa I w o w1 (ae w o 0):=fun {I}=>dJ o (by rw[<-hg];exact z5);have hnl:∀ j,ae w o 0 (g+j)=0:=fun j=>ax (by omega);have SN1:=S.stepO (s0 (I:=fun _=>False)) id;have E1:=h.step (s0 (I:=fun _=>False)) noF;have X1:=X.step (s0 (I:=fun _=>False)) id;have S0:=s0 (I:=I17);have b1w:Blk w1 (ae w o 0) 0 g (.cells #[pt0 rb] 87):=⟨z1,hnl 0⟩
  have b1n:Blk w1 (ae w o 0) 0 (g+1) (.cells #[.int .i64 3,.int .i64 n,stv nm,.slice ao ks.len cap] 34):=⟨z2,hnl 1⟩
  have b1a:Blk w1 (ae w o 0) 0 (g+2) (.cells #[.int .i64 (ar:Nat),.int .i64 (u:Nat)] 91):=⟨z3,hnl 2⟩
  generalize ae w o 0=o1 at *;have HG:=Lib.hid hg;have KK:Hid (∀ w' o',aa I17 w1 o1 w' o'->Bx w' g rb 3 n nm (.slice ao ks.len cap) ar u):=fun w' o' S=>⟨bD (b1w.step S aA).1,(as (b1n.step S aA).1).1,(aE (b1a.step S aA).1).1,(aE (b1a.step S aA).1).2⟩;obtain⟨c0,⟨m0,m1,m2,m3⟩,a0,a1⟩:=KK.out _ _ (aa.refl I17 w1 o1);obtain⟨d0,⟨f0,f1,f2,f3⟩,e0,e1⟩:=KK.out _ _ ((aa.refl I17 w1 o1).drew);have SD:aa I17 w1 o1 w1.drew o1:=(aa.refl _ w1 o1).drew;have dF:aa (fun _=>False) w1 o1 w1.drew o1:=(aa.refl _ w1 o1).drew;have HKS:=Lib.hid hks;have HLS:=Lib.hid hls;clear s0 hnl z1 z2 z3 z4 z5 h X S hg hks hls hdl;have HK:=tS n w1.drew o1 rb lv ls s hoe.1.2.2.2 (by omega) (X1.step dF id) (E1.step dF noF);have hix:s.cs.idxOf n<=268435455:=by
   have:=List.idxOf_le_length (a:=n) (l:=s.cs)
   unfold Em.mes at hm;omega
  have gk:=DV s n;have HC:∀ w2 o2,aa I17 w1.drew o1 w2 o2->EmW w2 o2 rb lv (s.kc n)->Calls Tryz.prog 88 #[.pointer (some ⟨rb,0,none⟩),.int .i64 2,.int .i64 (s.cs.idxOf n:Nat),.int .i64 0,spV ar u] w2 (j6 w2 o2 rb lv ((s.kc n).push 2 (s.cs.idxOf n) 0 u) (.tuple #[])):=fun w2 o2 S2 E2=>sw 2 (s.cs.idxOf n) 0 ar u w2 o2 rb lv ls (s.kc n) (by omega) hix (by omega) (by omega) (gk.dp hd) (by have:=gk.mes;omega) ((X1.step dF id).step S2 aA) E2;clear hv b1w b1n b1a SN1 E1 hok;go_enter Tryz.func46,Tryz.ntmps46;go_upto_region 1 with fail;rw[<-hw1,<-HG.out];clear hw1;go_upto_region 12 with fail;go_region_held3 (fun wx=>wx.cell? ⟨g,0,none⟩=some (pt0 rb)/\wx.cell? ⟨g+1,1,none⟩=some (.int .i64 n)/\wx.cell? ⟨g+2,0,none⟩=some (.int .i64 (ar:Nat))/\wx.cell? ⟨g+2,1,none⟩=some (.int .i64 (u:Nat))) (go_keep) (first|(go_at_call 89;refine HK.mono ?_;rintro z w2 ⟨rfl,o2,E2,S2⟩;have S3:=SD.trans S2;obtain⟨d0,⟨f0,f1,f2,f3⟩,e0,e1⟩:=KK.out _ _ S3;have HF:=HC w2 o2 S2 E2)|(go_at_call 88;refine HF.mono ?_;rintro z w3 ⟨rfl,o3,E3,S4⟩;obtain⟨d0,⟨f0,f1,f2,f3⟩,e0,e1⟩:=KK.out _ _ (S3.trans S4)))
  all_goals
   go_wp2
   go_end0
   exact⟨rfl,⟨o3,E3,(S0.trans S3).trans S4⟩,(gk.trans (tP _ 2 _ 0 u (by omega))).le (by omega)⟩
 by_cases h5:k=5
 ·subst h5;have hn:=hdl.2.2.2.2.2.1 (Or.inl rfl);have hn3:n<=3:=hoe.1.2.1 rfl;obtain⟨n0,hn0⟩:∃n0:Nat,(n0:Int)=n:=⟨n.toNat,by omega⟩
  subst hn0;have hv:emE ls ⟨5,(n0:Int),nm,a,ks⟩ ar u s=s.push 3 n0 0 u:=by simp[emE,prt]
  rw[hv];obtain⟨g,hg⟩:∃g,g=w.heap.size:=⟨_,rfl⟩
  obtain⟨w1,hw1⟩:∃w1,w1=((w.alloc (.cells #[pt0 rb] 87)).alloc (.cells #[.int .i64 5,.int .i64 (n0:Int),stv nm,.slice ao ks.len cap] 34)).alloc (.cells #[.int .i64 (ar:Nat),.int .i64 (u:Nat)] 91):=⟨_,rfl⟩
  obtain⟨z1,z2,z3,z4,z5⟩:=al3 w (.cells #[pt0 rb] 87) (.cells #[.int .i64 5,.int .i64 (n0:Int),stv nm,.slice ao ks.len cap] 34) (.cells #[.int .i64 (ar:Nat),.int .i64 (u:Nat)] 91);rw[<-hw1,<-hg] at z1 z2 z3 z4 z5;have s0:∀ {I:Nat->Prop},aa I w o w1 (ae w o 0):=fun {I}=>dJ o (by rw[<-hg];exact z5);have hnl:∀ j,ae w o 0 (g+j)=0:=fun j=>ax (by omega);have SN1:=S.stepO (s0 (I:=fun _=>False)) id;have E1:=h.step (s0 (I:=fun _=>False)) noF;have X1:=X.step (s0 (I:=fun _=>False)) id;have S0:=s0 (I:=I17);have b1w:Blk w1 (ae w o 0) 0 g (.cells #[pt0 rb] 87):=⟨z1,hnl 0⟩
  have b1n:Blk w1 (ae w o 0) 0 (g+1) (.cells #[.int .i64 5,.int .i64 (n0:Int),stv nm,.slice ao ks.len cap] 34):=⟨z2,hnl 1⟩
  have b1a:Blk w1 (ae w o 0) 0 (g+2) (.cells #[.int .i64 (ar:Nat),.int .i64 (u:Nat)] 91):=⟨z3,hnl 2⟩
  generalize ae w o 0=o1 at *;have HG:=Lib.hid hg;have KK:Hid (∀ w' o',aa I17 w1 o1 w' o'->Bx w' g rb 5 (n0:Int) nm (.slice ao ks.len cap) ar u):=fun w' o' S=>⟨bD (b1w.step S aA).1,(as (b1n.step S aA).1).1,(aE (b1a.step S aA).1).1,(aE (b1a.step S aA).1).2⟩;obtain⟨c0,⟨m0,m1,m2,m3⟩,a0,a1⟩:=KK.out _ _ (aa.refl I17 w1 o1);obtain⟨d0,⟨f0,f1,f2,f3⟩,e0,e1⟩:=KK.out _ _ ((aa.refl I17 w1 o1).drew);have SD:aa I17 w1 o1 w1.drew o1:=(aa.refl _ w1 o1).drew;have dF:aa (fun _=>False) w1 o1 w1.drew o1:=(aa.refl _ w1 o1).drew;have HKS:=Lib.hid hks;have HLS:=Lib.hid hls;clear s0 hnl z1 z2 z3 z4 z5 h X S hg hks hls hdl;have HK:=sw 3 n0 0 ar u w1 o1 rb lv ls s (by omega) (by omega) (by omega) (by omega) hd (by omega) X1 E1;clear hv b1w b1n b1a SN1 E1 hok;go_enter Tryz.func46,Tryz.ntmps46;go_upto_region 1 with fail;rw[<-hw1,<-HG.out];clear hw1;go_wp2_with (first|(go_at_call 88;refine HK.mono ?_;rintro z w3 ⟨rfl,o3,E3,S3⟩))
  go_end0
  exact⟨rfl,⟨o3,E3,S0.trans S3⟩,(tP s 3 n0 0 u (by omega)).le (by omega)⟩
 by_cases h17:k=17
 ·subst h17;have hl2:ks.len=2:=hdl.2.2.1 (by omega) (by omega);obtain⟨x,y,hks2⟩:=eq hl2;subst hks2;simp only[aV] at hN hm hu har;have hv:emE ls ⟨17,n,nm,a,Fs.ex x (Fs.ex y .nil)⟩ ar u s=(emE ls x ar u s).fork 14 (emE ls y ar u) (fun t=>t.con (0:Nat) 2 u):=by show prt ls 17 n nm _ (emE ls x::emE ls y::[]) ar u s=_;simp[prt]
  rw[hv];have hsz:(Fs.ex x (Fs.ex y .nil)).size=x.kids.size+y.kids.size+2:=by simp only[aV,Fs.size]<;>omega
  rw[hsz];have hz0:Fs.nil.size=0:=rfl;rw[hz0] at hN hm hu har;obtain⟨g,hg⟩:∃g,g=w.heap.size:=⟨_,rfl⟩
  obtain⟨w1,hw1⟩:∃w1,w1=((w.alloc (.cells #[pt0 rb] 87)).alloc (.cells #[.int .i64 17,.int .i64 n,stv nm,.slice ao (Fs.ex x (Fs.ex y .nil)).len cap] 34)).alloc (.cells #[.int .i64 (ar:Nat),.int .i64 (u:Nat)] 91):=⟨_,rfl⟩
  obtain⟨z1,z2,z3,z4,z5⟩:=al3 w (.cells #[pt0 rb] 87) (.cells #[.int .i64 17,.int .i64 n,stv nm,.slice ao (Fs.ex x (Fs.ex y .nil)).len cap] 34) (.cells #[.int .i64 (ar:Nat),.int .i64 (u:Nat)] 91);rw[<-hw1,<-hg] at z1 z2 z3 z4 z5;have s0:∀ {I:Nat->Prop},aa I w o w1 (ae w o 0):=fun {I}=>dJ o (by rw[<-hg];exact z5);have hnl:∀ j,ae w o 0 (g+j)=0:=fun j=>ax (by omega);have SN1:=S.stepO (s0 (I:=fun _=>False)) id;have E1:=h.step (s0 (I:=fun _=>False)) noF;have X1:=X.step (s0 (I:=fun _=>False)) id;have S0:=s0 (I:=I17);have b1w:Blk w1 (ae w o 0) 0 g (.cells #[pt0 rb] 87):=⟨z1,hnl 0⟩
  have b1n:Blk w1 (ae w o 0) 0 (g+1) (.cells #[.int .i64 17,.int .i64 n,stv nm,.slice ao (Fs.ex x (Fs.ex y .nil)).len cap] 34):=⟨z2,hnl 1⟩
  have b1a:Blk w1 (ae w o 0) 0 (g+2) (.cells #[.int .i64 (ar:Nat),.int .i64 (u:Nat)] 91):=⟨z3,hnl 2⟩
  generalize ae w o 0=o1 at *;have HG:=Lib.hid hg;have KK:Hid (∀ w' o',aa I17 w1 o1 w' o'->Bx w' g rb 17 n nm (.slice ao (Fs.ex x (Fs.ex y .nil)).len cap) ar u):=fun w' o' S=>⟨bD (b1w.step S aA).1,(as (b1n.step S aA).1).1,(aE (b1a.step S aA).1).1,(aE (b1a.step S aA).1).2⟩;obtain⟨c0,⟨m0,m1,m2,m3⟩,a0,a1⟩:=KK.out _ _ (aa.refl I17 w1 o1);obtain⟨d0,⟨f0,f1,f2,f3⟩,e0,e1⟩:=KK.out _ _ ((aa.refl I17 w1 o1).drew);have SD:aa I17 w1 o1 w1.drew o1:=(aa.refl _ w1 o1).drew;have dF:aa (fun _=>False) w1 o1 w1.drew o1:=(aa.refl _ w1 o1).drew;have HKS:=Lib.hid hks;have HLS:=Lib.hid hls;clear s0 hnl z1 z2 z3 z4 z5 h X S hg hks hls hdl;have HK:=yX nc N ih 17 n nm a x y ao cap 14 0 ar u w1 o1 rb lv ls s (by omega) (by omega) hok (by omega) (by omega) HLS.out hnc (by omega) (by omega) SN1 HKS.out (by omega) hd X1 E1;rw[ah] at HK;simp only at HK;clear hv b1w b1n b1a SN1 E1 hok hl2 hsz hz0;go_enter Tryz.func46,Tryz.ntmps46;go_upto_region 1 with fail;rw[<-hw1,<-HG.out];clear hw1;go_wp2_with (first|(go_at_call 90;refine HK.mono ?_;rintro z w3 ⟨rfl,⟨o3,E3,S3⟩,g3⟩))
  go_end0
  exact⟨rfl,⟨o3,E3,S0.trans S3⟩,g3.le (by omega)⟩
 by_cases h18:k=18
 ·subst h18;have hl2:ks.len=2:=hdl.2.2.1 (by omega) (by omega);obtain⟨x,y,hks2⟩:=eq hl2;subst hks2;simp only[aV] at hN hm hu har;have hv:emE ls ⟨18,n,nm,a,Fs.ex x (Fs.ex y .nil)⟩ ar u s=(emE ls x ar u s).fork 15 (emE ls y ar u) (fun t=>t.con (1:Nat) 2 u):=by show prt ls 18 n nm _ (emE ls x::emE ls y::[]) ar u s=_;simp[prt]
  rw[hv];have hsz:(Fs.ex x (Fs.ex y .nil)).size=x.kids.size+y.kids.size+2:=by simp only[aV,Fs.size]<;>omega
  rw[hsz];have hz0:Fs.nil.size=0:=rfl;rw[hz0] at hN hm hu har;obtain⟨g,hg⟩:∃g,g=w.heap.size:=⟨_,rfl⟩
  obtain⟨w1,hw1⟩:∃w1,w1=((w.alloc (.cells #[pt0 rb] 87)).alloc (.cells #[.int .i64 18,.int .i64 n,stv nm,.slice ao (Fs.ex x (Fs.ex y .nil)).len cap] 34)).alloc (.cells #[.int .i64 (ar:Nat),.int .i64 (u:Nat)] 91):=⟨_,rfl⟩
  obtain⟨z1,z2,z3,z4,z5⟩:=al3 w (.cells #[pt0 rb] 87) (.cells #[.int .i64 18,.int .i64 n,stv nm,.slice ao (Fs.ex x (Fs.ex y .nil)).len cap] 34) (.cells #[.int .i64 (ar:Nat),.int .i64 (u:Nat)] 91);rw[<-hw1,<-hg] at z1 z2 z3 z4 z5;have s0:∀ {I:Nat->Prop},aa I w o w1 (ae w o 0):=fun {I}=>dJ o (by rw[<-hg];exact z5);have hnl:∀ j,ae w o 0 (g+j)=0:=fun j=>ax (by omega);have SN1:=S.stepO (s0 (I:=fun _=>False)) id;have E1:=h.step (s0 (I:=fun _=>False)) noF;have X1:=X.step (s0 (I:=fun _=>False)) id;have S0:=s0 (I:=I17);have b1w:Blk w1 (ae w o 0) 0 g (.cells #[pt0 rb] 87):=⟨z1,hnl 0⟩
  have b1n:Blk w1 (ae w o 0) 0 (g+1) (.cells #[.int .i64 18,.int .i64 n,stv nm,.slice ao (Fs.ex x (Fs.ex y .nil)).len cap] 34):=⟨z2,hnl 1⟩
  have b1a:Blk w1 (ae w o 0) 0 (g+2) (.cells #[.int .i64 (ar:Nat),.int .i64 (u:Nat)] 91):=⟨z3,hnl 2⟩
  generalize ae w o 0=o1 at *;have HG:=Lib.hid hg;have KK:Hid (∀ w' o',aa I17 w1 o1 w' o'->Bx w' g rb 18 n nm (.slice ao (Fs.ex x (Fs.ex y .nil)).len cap) ar u):=fun w' o' S=>⟨bD (b1w.step S aA).1,(as (b1n.step S aA).1).1,(aE (b1a.step S aA).1).1,(aE (b1a.step S aA).1).2⟩;obtain⟨c0,⟨m0,m1,m2,m3⟩,a0,a1⟩:=KK.out _ _ (aa.refl I17 w1 o1);obtain⟨d0,⟨f0,f1,f2,f3⟩,e0,e1⟩:=KK.out _ _ ((aa.refl I17 w1 o1).drew);have SD:aa I17 w1 o1 w1.drew o1:=(aa.refl _ w1 o1).drew;have dF:aa (fun _=>False) w1 o1 w1.drew o1:=(aa.refl _ w1 o1).drew;have HKS:=Lib.hid hks;have HLS:=Lib.hid hls;clear s0 hnl z1 z2 z3 z4 z5 h X S hg hks hls hdl;have HK:=yX nc N ih 18 n nm a x y ao cap 15 1 ar u w1 o1 rb lv ls s (by omega) (by omega) hok (by omega) (by omega) HLS.out hnc (by omega) (by omega) SN1 HKS.out (by omega) hd X1 E1;rw[ah] at HK;simp only at HK;clear hv b1w b1n b1a SN1 E1 hok hl2 hsz hz0;go_enter Tryz.func46,Tryz.ntmps46;go_upto_region 1 with fail;rw[<-hw1,<-HG.out];clear hw1;go_wp2_with (first|(go_at_call 90;refine HK.mono ?_;rintro z w3 ⟨rfl,⟨o3,E3,S3⟩,g3⟩))
  go_end0
  exact⟨rfl,⟨o3,E3,S0.trans S3⟩,g3.le (by omega)⟩
 by_cases h19:k=19
 ·subst h19;have hl2:ks.len=3:=hdl.1 rfl;obtain⟨x,y,z,hks2⟩:=gZ hl2;subst hks2;simp only[aV] at hN hm hu har;have hv:emE ls ⟨19,n,nm,a,Fs.ex x (Fs.ex y (Fs.ex z .nil))⟩ ar u s=(emE ls x ar u s).fork 14 (emE ls y ar u) (emE ls z ar u):=by show prt ls 19 n nm _ (emE ls x::emE ls y::emE ls z::[]) ar u s=_;simp[prt]
  rw[hv];have hsz:(Fs.ex x (Fs.ex y (Fs.ex z .nil))).size=x.kids.size+y.kids.size+z.kids.size+3:=by simp only[aV,Fs.size]<;>omega
  rw[hsz];have hz0:Fs.nil.size=0:=rfl;rw[hz0] at hN hm hu har;have hlen:(Fs.ex x (Fs.ex y (Fs.ex z .nil))).len=3:=rfl;have hmf:∀ (fn:Fn) (first cap:Array Value) (w:World),(Instr.makeFunc fn first cap).run Tryz.prog w=.ok (.func fn first cap) w:=fun _ _ _ _=>rfl;obtain⟨g,hg⟩:∃g,g=w.heap.size:=⟨_,rfl⟩
  obtain⟨w1,hw1⟩:∃w1,w1=((w.alloc (.cells #[pt0 rb] 87)).alloc (.cells #[.int .i64 19,.int .i64 n,stv nm,.slice ao (Fs.ex x (Fs.ex y (Fs.ex z .nil))).len cap] 34)).alloc (.cells #[.int .i64 (ar:Nat),.int .i64 (u:Nat)] 91):=⟨_,rfl⟩
  obtain⟨z1,z2,z3,z4,z5⟩:=al3 w (.cells #[pt0 rb] 87) (.cells #[.int .i64 19,.int .i64 n,stv nm,.slice ao (Fs.ex x (Fs.ex y (Fs.ex z .nil))).len cap] 34) (.cells #[.int .i64 (ar:Nat),.int .i64 (u:Nat)] 91);rw[<-hw1,<-hg] at z1 z2 z3 z4 z5;have s0:∀ {I:Nat->Prop},aa I w o w1 (ae w o 0):=fun {I}=>dJ o (by rw[<-hg];exact z5);have hnl:∀ j,ae w o 0 (g+j)=0:=fun j=>ax (by omega);have SN1:=S.stepO (s0 (I:=fun _=>False)) id;have E1:=h.step (s0 (I:=fun _=>False)) noF;have X1:=X.step (s0 (I:=fun _=>False)) id;have S0:=s0 (I:=I17);have b1w:Blk w1 (ae w o 0) 0 g (.cells #[pt0 rb] 87):=⟨z1,hnl 0⟩
  have b1n:Blk w1 (ae w o 0) 0 (g+1) (.cells #[.int .i64 19,.int .i64 n,stv nm,.slice ao (Fs.ex x (Fs.ex y (Fs.ex z .nil))).len cap] 34):=⟨z2,hnl 1⟩
  have b1a:Blk w1 (ae w o 0) 0 (g+2) (.cells #[.int .i64 (ar:Nat),.int .i64 (u:Nat)] 91):=⟨z3,hnl 2⟩
  generalize ae w o 0=o1 at *;have HG:=Lib.hid hg;have KK:Hid (∀ w' o',aa I17 w1 o1 w' o'->Bx w' g rb 19 n nm (.slice ao (Fs.ex x (Fs.ex y (Fs.ex z .nil))).len cap) ar u):=fun w' o' S=>⟨bD (b1w.step S aA).1,(as (b1n.step S aA).1).1,(aE (b1a.step S aA).1).1,(aE (b1a.step S aA).1).2⟩;obtain⟨c0,⟨m0,m1,m2,m3⟩,a0,a1⟩:=KK.out _ _ (aa.refl I17 w1 o1);obtain⟨d0,⟨f0,f1,f2,f3⟩,e0,e1⟩:=KK.out _ _ ((aa.refl I17 w1 o1).drew);have SD:aa I17 w1 o1 w1.drew o1:=(aa.refl _ w1 o1).drew;have dF:aa (fun _=>False) w1 o1 w1.drew o1:=(aa.refl _ w1 o1).drew;have HKS:=Lib.hid hks;have HLS:=Lib.hid hls;clear s0 hnl z1 z2 z3 z4 z5 h X S hg hks hls hdl;obtain⟨b,off,ak,ck,rfl,-,Sy,NK⟩:=dQ (x:=.nil) SN1 0 rfl;have HC:=ih x ak ck ar u w1.drew o1 rb lv ls s (by omega) (aK hok).1 HLS.out hnc (Sy.stepO dF id) HKS.out (by omega) (by omega) (by omega) hd (X1.step dF id) (E1.step dF noF);rw[ah] at HC;have CX:Hid (∀ w' o',aa I17 w1 o1 w' o'->Cx rb g (g+1) (g+2) 19 n nm (Fs.ex x (Fs.ex y (Fs.ex z .nil))) (some ⟨b,off,none⟩) cap ar u w' o'):=fun w' o' S=>⟨b1w.step S aA,b1n.step S aA,b1a.step S aA,SN1.stepO S aA⟩;have NN:Hid (∀ w' o',aa I17 w1 o1 w' o'->Nd4 w' b off x ak ck):=fun w' o' S=>NK S aA;have FK:∀ w2 o2 s2,Cx rb g (g+1) (g+2) 19 n nm (Fs.ex x (Fs.ex y (Fs.ex z .nil))) (some ⟨b,off,none⟩) cap ar u w2 o2->EmX w2 o2 lv ls->EmW w2 o2 rb lv s2->s2.mes+(300*(y.kids.size+1)+300*(z.kids.size+1)+2)<=100000000->s2.dp<=1000000001->s2.ks.length=ls.length->_:=fun w2 o2 s2 K2 X2 E2 hm2 hd2 hk2 =>
   qY 14 92 93 #[pt0 g,pt0 (g+1),pt0 (g+2)] #[pt0 g,pt0 (g+1),pt0 (g+2)] (emE ls y ar u) (emE ls z ar u) (300*(y.kids.size+1)) (300*(z.kids.size+1)) _ (Cx.keeps _ _ _ _ _ _ _ _ _ _ _ _) BO Cc w2 o2 rb lv ls (wX nc N ih rb g (g+1) (g+2) 19 n nm x y z (some ⟨b,off,none⟩) cap ar u lv ls hok (by omega) HLS.out hnc (by omega) (by omega)) (xF nc N ih rb g (g+1) (g+2) 19 n nm x y z (some ⟨b,off,none⟩) cap ar u lv ls hok (by omega) HLS.out hnc (by omega) (by omega)) s2 (by omega) hm2 hd2 hk2 X2 E2 K2
  obtain⟨x0,x1,x2,x3⟩:=NN.out _ _ (aa.refl I17 w1 o1);obtain⟨y0,y1,y2,y3⟩:=NN.out _ _ SD;rw[hlen] at hw1 m3 f3 KK ⊢;clear hv b1w b1n b1a SN1 E1 hl2 hsz hz0 hlen Sy NK;go_enter Tryz.func46,Tryz.ntmps46;go_upto_region 1 with fail;rw[<-hw1,<-HG.out];clear hw1;go_upto_region 20 with fail;go_region_held3 (fun wx=>wx.cell? ⟨g,0,none⟩=some (pt0 rb)/\wx.cell? ⟨g+1,3,none⟩=some (.slice (some ⟨b,off,none⟩) 3 cap)/\(wx.cell? ⟨b,off,none⟩=some (.int .i64 x.k)/\wx.cell? ⟨b,off+1,none⟩=some (.int .i64 x.n)/\wx.cell? ⟨b,off+2,none⟩=some (stv x.nm)/\wx.cell? ⟨b,off+3,none⟩=some (.slice ak x.kids.len ck))/\wx.cell? ⟨g+2,0,none⟩=some (.int .i64 (ar:Nat))/\wx.cell? ⟨g+2,1,none⟩=some (.int .i64 (u:Nat))) (go_keep) (first|(go_at_call 46;refine HC.mono ?_;rintro z2 w2 ⟨rfl,⟨o2,E2,S2⟩,g2⟩;have S3:=SD.trans S2;obtain⟨d0,⟨f0,f1,f2,f3⟩,e0,e1⟩:=KK.out _ _ S3;obtain⟨y0,y1,y2,y3⟩:=NN.out _ _ S3))
  all_goals
   have HF:=FK w2 o2 _ (CX.out _ _ S3) (X1.step S3 aA) E2 (by have:=g2.mes;omega) (g2.dp hd) (g2.ks.trans HKS.out);clear FK HC KK CX NN;go_wp2_with (first|(go_at_call 91;refine HF.mono ?_;rintro z2 w4 ⟨rfl,⟨o4,E4,S4⟩,g4⟩))
   go_end0
   exact⟨rfl,⟨o4,E4,(S0.trans S3).trans S4⟩,(g2.trans g4).le (by omega)⟩
 by_cases h26:k=26
 ·subst h26;have hl2:ks.len=1:=hdl.2.1 rfl;obtain⟨x,hks2⟩:=ju hl2;subst hks2;simp only[aV] at hN hm hu har;have hv:emE ls ⟨26,n,nm,a,Fs.ex x .nil⟩ ar u s=((emE ls x ar u ((s.cel n.toNat (kdE x)).lay 17 n.toNat 0)).lay 18 n.toNat 0).land s.ws.length:=by show prt ls 26 n nm (kdE x::[]) (emE ls x::[]) ar u s=_;simp[prt]
  rw[hv];have hsz:(Fs.ex x .nil).size=x.kids.size+1:=by simp only[aV,Fs.size]<;>omega
  rw[hsz];have hz0:Fs.nil.size=0:=rfl;rw[hz0] at hN hm hu har;obtain⟨g,hg⟩:∃g,g=w.heap.size:=⟨_,rfl⟩
  obtain⟨w1,hw1⟩:∃w1,w1=((w.alloc (.cells #[pt0 rb] 87)).alloc (.cells #[.int .i64 26,.int .i64 n,stv nm,.slice ao (Fs.ex x .nil).len cap] 34)).alloc (.cells #[.int .i64 (ar:Nat),.int .i64 (u:Nat)] 91):=⟨_,rfl⟩
  obtain⟨z1,z2,z3,z4,z5⟩:=al3 w (.cells #[pt0 rb] 87) (.cells #[.int .i64 26,.int .i64 n,stv nm,.slice ao (Fs.ex x .nil).len cap] 34) (.cells #[.int .i64 (ar:Nat),.int .i64 (u:Nat)] 91);rw[<-hw1,<-hg] at z1 z2 z3 z4 z5;have s0:∀ {I:Nat->Prop},aa I w o w1 (ae w o 0):=fun {I}=>dJ o (by rw[<-hg];exact z5);have hnl:∀ j,ae w o 0 (g+j)=0:=fun j=>ax (by omega);have SN1:=S.stepO (s0 (I:=fun _=>False)) id;have E1:=h.step (s0 (I:=fun _=>False)) noF;have X1:=X.step (s0 (I:=fun _=>False)) id;have S0:=s0 (I:=I17);have b1w:Blk w1 (ae w o 0) 0 g (.cells #[pt0 rb] 87):=⟨z1,hnl 0⟩
  have b1n:Blk w1 (ae w o 0) 0 (g+1) (.cells #[.int .i64 26,.int .i64 n,stv nm,.slice ao (Fs.ex x .nil).len cap] 34):=⟨z2,hnl 1⟩
  have b1a:Blk w1 (ae w o 0) 0 (g+2) (.cells #[.int .i64 (ar:Nat),.int .i64 (u:Nat)] 91):=⟨z3,hnl 2⟩
  generalize ae w o 0=o1 at *;have HG:=Lib.hid hg;have KK:Hid (∀ w' o',aa I17 w1 o1 w' o'->Bx w' g rb 26 n nm (.slice ao (Fs.ex x .nil).len cap) ar u):=fun w' o' S=>⟨bD (b1w.step S aA).1,(as (b1n.step S aA).1).1,(aE (b1a.step S aA).1).1,(aE (b1a.step S aA).1).2⟩;obtain⟨c0,⟨m0,m1,m2,m3⟩,a0,a1⟩:=KK.out _ _ (aa.refl I17 w1 o1);obtain⟨d0,⟨f0,f1,f2,f3⟩,e0,e1⟩:=KK.out _ _ ((aa.refl I17 w1 o1).drew);have SD:aa I17 w1 o1 w1.drew o1:=(aa.refl _ w1 o1).drew;have dF:aa (fun _=>False) w1 o1 w1.drew o1:=(aa.refl _ w1 o1).drew;have HKS:=Lib.hid hks;have HLS:=Lib.hid hls;clear s0 hnl z1 z2 z3 z4 z5 h X S hg hks hls hdl;have HK:=Ct nc N ih n nm a x ao cap ar u w1 o1 rb lv ls s hoe (by omega) HLS.out hnc (by omega) (by omega) SN1 HKS.out (by omega) hd X1 E1;rw[ah] at HK;simp only at HK;clear hv b1w b1n b1a SN1 E1 hok hl2 hsz hz0;go_enter Tryz.func46,Tryz.ntmps46;go_upto_region 1 with fail;rw[<-hw1,<-HG.out];clear hw1;go_wp2_with (first|(go_at_call 94;refine HK.mono ?_;rintro z w3 ⟨rfl,⟨o3,E3,S3⟩,g3⟩))
  go_end0
  exact⟨rfl,⟨o3,E3,S0.trans S3⟩,g3.le (by omega)⟩
 by_cases h21:k=21
 ·subst h21;obtain⟨hl2,hn⟩:=hdl.2.2.2.1 rfl;obtain⟨x,y,hks2⟩:=eq hl2;subst hks2;simp only[aV] at hN hm hu har;have hv:emE ls ⟨21,n,nm,a,Fs.ex x (Fs.ex y .nil)⟩ ar u s=qua ls n (emE ls x) (emE ls y) ar u s:=by show prt ls 21 n nm _ (emE ls x::emE ls y::[]) ar u s=_;simp[prt]
  rw[hv];have hsz:(Fs.ex x (Fs.ex y .nil)).size=x.kids.size+y.kids.size+2:=by simp only[aV,Fs.size]<;>omega
  rw[hsz];have hz0:Fs.nil.size=0:=rfl;rw[hz0] at hN hm hu har;obtain⟨g,hg⟩:∃g,g=w.heap.size:=⟨_,rfl⟩
  obtain⟨w1,hw1⟩:∃w1,w1=((w.alloc (.cells #[pt0 rb] 87)).alloc (.cells #[.int .i64 21,.int .i64 n,stv nm,.slice ao (Fs.ex x (Fs.ex y .nil)).len cap] 34)).alloc (.cells #[.int .i64 (ar:Nat),.int .i64 (u:Nat)] 91):=⟨_,rfl⟩
  obtain⟨z1,z2,z3,z4,z5⟩:=al3 w (.cells #[pt0 rb] 87) (.cells #[.int .i64 21,.int .i64 n,stv nm,.slice ao (Fs.ex x (Fs.ex y .nil)).len cap] 34) (.cells #[.int .i64 (ar:Nat),.int .i64 (u:Nat)] 91);rw[<-hw1,<-hg] at z1 z2 z3 z4 z5;have s0:∀ {I:Nat->Prop},aa I w o w1 (ae w o 0):=fun {I}=>dJ o (by rw[<-hg];exact z5);have hnl:∀ j,ae w o 0 (g+j)=0:=fun j=>ax (by omega);have SN1:=S.stepO (s0 (I:=fun _=>False)) id;have E1:=h.step (s0 (I:=fun _=>False)) noF;have X1:=X.step (s0 (I:=fun _=>False)) id;have S0:=s0 (I:=I17);have b1w:Blk w1 (ae w o 0) 0 g (.cells #[pt0 rb] 87):=⟨z1,hnl 0⟩
  have b1n:Blk w1 (ae w o 0) 0 (g+1) (.cells #[.int .i64 21,.int .i64 n,stv nm,.slice ao (Fs.ex x (Fs.ex y .nil)).len cap] 34):=⟨z2,hnl 1⟩
  have b1a:Blk w1 (ae w o 0) 0 (g+2) (.cells #[.int .i64 (ar:Nat),.int .i64 (u:Nat)] 91):=⟨z3,hnl 2⟩
  generalize ae w o 0=o1 at *;have HG:=Lib.hid hg;have KK:Hid (∀ w' o',aa I17 w1 o1 w' o'->Bx w' g rb 21 n nm (.slice ao (Fs.ex x (Fs.ex y .nil)).len cap) ar u):=fun w' o' S=>⟨bD (b1w.step S aA).1,(as (b1n.step S aA).1).1,(aE (b1a.step S aA).1).1,(aE (b1a.step S aA).1).2⟩;obtain⟨c0,⟨m0,m1,m2,m3⟩,a0,a1⟩:=KK.out _ _ (aa.refl I17 w1 o1);obtain⟨d0,⟨f0,f1,f2,f3⟩,e0,e1⟩:=KK.out _ _ ((aa.refl I17 w1 o1).drew);have SD:aa I17 w1 o1 w1.drew o1:=(aa.refl _ w1 o1).drew;have dF:aa (fun _=>False) w1 o1 w1.drew o1:=(aa.refl _ w1 o1).drew;have HKS:=Lib.hid hks;have HLS:=Lib.hid hls;clear s0 hnl z1 z2 z3 z4 z5 h X S hg hks hls hdl;have HK:=zS nc N ih n nm a x y ao cap ar u w1 o1 rb lv ls s hn hok (by omega) (by omega) HLS.out hnc (by omega) (by omega) SN1 HKS.out (by omega) hd X1 E1;rw[ah] at HK;simp only at HK;clear hv b1w b1n b1a SN1 E1 hok hl2 hsz hz0;go_enter Tryz.func46,Tryz.ntmps46;go_upto_region 1 with fail;rw[<-hw1,<-HG.out];clear hw1;go_wp2_with (first|(go_at_call 95;refine HK.mono ?_;rintro z w3 ⟨rfl,⟨o3,E3,S3⟩,g3⟩))
  go_end0
  exact⟨rfl,⟨o3,E3,S0.trans S3⟩,g3.le (by omega)⟩
 have hopk:opK k:=by
  have hkk:=dI hoe.1.1;simp only at hkk;unfold opK;omega
 have hv:emE ls ⟨k,n,nm,a,ks⟩ ar u s=opr k n nm (kdF ks) (kH (emF ls ks) 0 ar u s):=by
  show prt ls k n nm (kdF ks) (emF ls ks) ar u s=_;unfold prt;rw[if_neg h1,if_neg h2,if_neg h3,if_neg h5,if_neg h17,if_neg h18,if_neg h19,if_neg h26,if_neg h21]
 rw[hv];obtain⟨W,hW⟩:∃W,W=kH (emF ls ks) 0 ar u s:=⟨_,rfl⟩
 rw[<-hW];have HW:=Lib.hid hW;clear hW hv;obtain⟨g,hg⟩:∃g,g=w.heap.size:=⟨_,rfl⟩
 obtain⟨w1,hw1⟩:∃w1,w1=((w.alloc (.cells #[pt0 rb] 87)).alloc (.cells #[.int .i64 k,.int .i64 n,stv nm,.slice ao ks.len cap] 34)).alloc (.cells #[.int .i64 (ar:Nat),.int .i64 (u:Nat)] 91):=⟨_,rfl⟩
 obtain⟨z1,z2,z3,z4,z5⟩:=al3 w (.cells #[pt0 rb] 87) (.cells #[.int .i64 k,.int .i64 n,stv nm,.slice ao ks.len cap] 34) (.cells #[.int .i64 (ar:Nat),.int .i64 (u:Nat)] 91);rw[<-hw1,<-hg] at z1 z2 z3 z4 z5;have s0:∀ {I:Nat->Prop},aa I w o w1 (ae w o 0):=fun {I}=>dJ o (by rw[<-hg];exact z5);have hnl:∀ j,ae w o 0 (g+j)=0:=fun j=>ax (by omega);have SN1:=S.stepO (s0 (I:=fun _=>False)) id;have E1:=h.step (s0 (I:=fun _=>False)) noF;have X1:=X.step (s0 (I:=fun _=>False)) id;have S0:=s0 (I:=I17);have b1w:Blk w1 (ae w o 0) 0 g (.cells #[pt0 rb] 87):=⟨z1,hnl 0⟩
 have b1n:Blk w1 (ae w o 0) 0 (g+1) (.cells #[.int .i64 k,.int .i64 n,stv nm,.slice ao ks.len cap] 34):=⟨z2,hnl 1⟩
 have b1a:Blk w1 (ae w o 0) 0 (g+2) (.cells #[.int .i64 (ar:Nat),.int .i64 (u:Nat)] 91):=⟨z3,hnl 2⟩
 generalize ae w o 0=o1 at *;have HG:=Lib.hid hg;have KK:Hid (∀ w' o',aa I17 w1 o1 w' o'->Bx w' g rb k n nm (.slice ao ks.len cap) ar u):=fun w' o' S=>⟨bD (b1w.step S aA).1,(as (b1n.step S aA).1).1,(aE (b1a.step S aA).1).1,(aE (b1a.step S aA).1).2⟩;obtain⟨c0,⟨m0,m1,m2,m3⟩,a0,a1⟩:=KK.out _ _ (aa.refl I17 w1 o1);obtain⟨d0,⟨f0,f1,f2,f3⟩,e0,e1⟩:=KK.out _ _ ((aa.refl I17 w1 o1).drew);have SD:aa I17 w1 o1 w1.drew o1:=(aa.refl _ w1 o1).drew;have dF:aa (fun _=>False) w1 o1 w1.drew o1:=(aa.refl _ w1 o1).drew;have HKS:=Lib.hid hks;have HLS:=Lib.hid hls;clear s0 hnl z1 z2 z3 z4 z5 h X S hg hks hls hdl;have hlz:=eS ks;have hnmz:=xK hoe.1.1;simp only at hnmz;clear d0 f0 f1 f2 f3 e0 e1 b1w b1n b1a;have HOE:=Lib.hid hoe;have HOK:=Lib.hid hok;clear hoe hok;have hb1:(k==1)=false:=by simpa using h1
 have hb2:(k==2)=false:=by simpa using h2
 have hb3:(k==3)=false:=by simpa using h3
 have hb5:(k==5)=false:=by simpa using h5
 have hb17:(k==17)=false:=by simpa using h17
 have hb18:(k==18)=false:=by simpa using h18
 have hb19:(k==19)=false:=by simpa using h19
 have hb26:(k==26)=false:=by simpa using h26
 have hb21:(k==21)=false:=by simpa using h21
 clear h1 h2 h3 h5 h17 h18 h19 h26 h21;go_enter Tryz.func46,Tryz.ntmps46;go_upto_region 1 with fail;rw[<-hw1,<-HG.out];clear hw1;go_wp2_with fail;go_loopw [13] (fun vi wr=>∃(d r:Fs) (s':Em) (o':Nat->Nat),Hid (ks=d.app r)/\vi=.int .i64 (d.len:Nat)/\EmW wr o' rb lv s'/\aa I17 w1 o1 wr o'/\Grw s s' (300*d.size)/\Hid (W=kH (emF ls r) d.len ar u s')) (fun vi _=>ks.len-(intOf vi).toNat)
 case atStart=>exact⟨.nil,ks,s,o1,rfl,by show _=Value.int .i64 ((0:Nat):Int);rfl,E1,aa.refl _ _ _,⟨by simp,Nat.le_refl _,rfl,id⟩,HW⟩
 case round =>
  clear HW E1 c0 m0 m1 m2 m3 a0 a1;obtain⟨d,r,s',o',HK,rfl,E2,S2,g2,HW⟩:=hrel;obtain⟨c0,⟨m0,m1,m2,m3⟩,a0,a1⟩:=KK.out _ _ S2;have hlk:ks.len=d.len+r.len:=by rw[HK.out,Fs.len_app]
  have hsk:ks.size=d.size+r.size:=by rw[HK.out,Fs.size_app]
  have hld:=eS d;cases r using Fs.on with
  | nil =>
   have hkI:¬(d.len:Int)<(ks.len:Int):=by simp only[Fs.len] at hlk;omega
   have HW2:W=s':=HW.out;subst HW2;have HO:=qn nc ⟨k,n,nm,a,ks⟩ ao cap wr o' rb lv ls W hopk HOE.out (SN1.stepO S2 aA) (by show ks.len<=_;omega) (by show nm.length<=maxLen;unfold maxLen;omega) (by have:=g2.mes;simp only[Fs.size] at hsk;omega) (X1.step S2 aA) E2;rw[ah] at HO;simp only at HO;have hsd:d.size<=ks.size:=by omega
   clear HW HK hlk hsk hld hlz KK;go_wp2_with (first|(go_at_call 97;refine HO.mono ?_;rintro z w3 ⟨rfl,⟨o3,E3,S3⟩,g3⟩))
   go_end0
   exact⟨rfl,⟨o3,E3,(S0.trans S2).trans S3⟩,(g2.trans g3).le (by omega)⟩
  | cons kk kn km ka kks kr =>
   obtain⟨y,hy⟩:∃y:Ex,y=⟨kk,kn,km,ka,kks⟩:=⟨_,rfl⟩
   have hcy:Fs.cons kk kn km ka kks kr=Fs.ex y kr:=by rw[hy];rfl
   rw[hcy] at HK HW hlk hsk;have hly:(Fs.ex y kr).len=kr.len+1:=rfl;rw[hly] at hlk;rw[aV] at hsk;have oky:okE nc y:=by
    have h0:=HOK.out;rw[HK.out] at h0;exact(aK (oJ h0)).1
   have SNk:=SN1.stepO S2 aA;rw[HK.out] at SNk;obtain⟨b,off,ak,ck,rfl,NN,Sy,NK⟩:=dQ (x:=d) SNk d.len rfl;obtain⟨x0,x1,x2,x3⟩:=NN;have hkI:(d.len:Int)<(ks.len:Int):=by omega
   obtain⟨w3,hw3⟩:∃w3,w3=wr.alloc (.cells (ed y ak ck) 34):=⟨_,rfl⟩
   obtain⟨gy,hgy⟩:∃gy,gy=wr.heap.size:=⟨_,rfl⟩
   have s3:∀ {I:Nat->Prop},aa I wr o' w3 (ae wr o' 0):=fun {I}=>dJ o' (by rw[hw3];exact b1 _ _);have B3:Blk w3 (ae wr o' 0) 0 gy (.cells (ed y ak ck) 34):=by rw[hw3,hgy];exact⟨heap_alloc_new _ _,ax (Nat.le_refl _)⟩
   have E3:=E2.step (s3 (I:=fun _=>False)) noF;have S3:=S2.trans (s3 (I:=I17));have Sy3:=Sy.stepO (s3 (I:=fun _=>False)) id;generalize ae wr o' 0=o3 at *;have S3d:=S3.trans ((aa.refl I17 w3 o3).drew);have HOv:=fun w'=>f6 ar u d.len w' (by omega) (by omega);have HC:∀ w4,Below w3.drew.heap.size w3.drew w4->_:=fun w4 B4=>ih y ak ck ar (u+d.len) w4 o3 rb lv ls s' (by omega) oky HLS.out hnc ((Sy3.stepO ((aa.refl (fun _=>False) w3 o3).drew) id).stepO (aa.ofBelow (I:=fun _=>False) o3 B4) id) (g2.ks.trans HKS.out) (by have:=g2.mes;omega) (by omega) (by omega) (g2.dp hd) ((X1.step S3d aA).below B4) ((E3.step ((aa.refl (fun _=>False) w3 o3).drew) noF).below B4);have KY:Hid (∀ w' o2,aa I17 w3 o3 w' o2->(w'.cell? ⟨g,0,none⟩=some (pt0 rb)/\w'.cell? ⟨g+2,0,none⟩=some (.int .i64 (ar:Nat))/\w'.cell? ⟨g+2,1,none⟩=some (.int .i64 (u:Nat)))/\w'.cell? ⟨gy,0,none⟩=some (.int .i64 y.k)/\w'.cell? ⟨gy,1,none⟩=some (.int .i64 y.n)/\w'.cell? ⟨gy,2,none⟩=some (stv y.nm)/\w'.cell? ⟨gy,3,none⟩=some (.slice ak y.kids.len ck)):=fun w' o2 S=>by
    obtain⟨q0,-,q1,q2⟩:=KK.out _ _ (S3.trans S);exact⟨⟨q0,q1,q2⟩,(as (B3.step S aA).1).1⟩
   have HWn:Hid (W=kH (emF ls kr) (d.len+1) ar u (emE ls y ar (u+d.len) s')):=HW;have HKn:Hid (ks=(d.snoc y).app kr):=by show _=_;rw[HK.out,nP]
   have hdn:(d.snoc y).len=d.len+1:=Fs.len_snoc d y;have hds:(d.snoc y).size=d.size+(y.kids.size+1):=by unfold Fs.snoc;rw[Fs.size_app];rfl
   have HDN:=Lib.hid hdn;have HDS:=Lib.hid hds;have HGY:=Lib.hid hgy;have HLK:=Lib.hid hlk;have HSK:=Lib.hid hsk;clear s3 hy hcy hly SNk NK Sy hgy B3 HW HK E2 hdn hds hlk hsk;go_upto_region 5 with fail;rw[<-hw3,<-HGY.out];clear hw3;obtain⟨⟨i0,i1,i2⟩,j0,j1,j2,j3⟩:=KY.out _ _ (aa.refl I17 w3 o3);obtain⟨⟨k0,k1,k2⟩,l0,l1,l2,l3⟩:=KY.out _ _ ((aa.refl I17 w3 o3).drew);clear x0 x1 x2 x3 c0 m0 m1 m2 m3 a0 a1;go_region_held3 (fun wx=>wx.cell? ⟨g,0,none⟩=some (pt0 rb)/\(wx.cell? ⟨gy,0,none⟩=some (.int .i64 y.k)/\wx.cell? ⟨gy,1,none⟩=some (.int .i64 y.n)/\wx.cell? ⟨gy,2,none⟩=some (stv y.nm)/\wx.cell? ⟨gy,3,none⟩=some (.slice ak y.kids.len ck))/\wx.cell? ⟨g+2,0,none⟩=some (.int .i64 (ar:Nat))/\wx.cell? ⟨g+2,1,none⟩=some (.int .i64 (u:Nat))) (go_keep) (first|(go_at_call 96;refine(HOv _).mono ?_;rintro z w4 ⟨rfl,B4⟩;have S4:=((aa.refl I17 w3 o3).drew).trans (aa.ofBelow (I:=I17) o3 B4);obtain⟨⟨k0,k1,k2⟩,l0,l1,l2,l3⟩:=KY.out _ _ S4;have HF:=HC w4 B4;rw[ah] at HF)|(go_at_call 46;refine HF.mono ?_;rintro z w5 ⟨rfl,⟨o5,E5,S5⟩,g5⟩;obtain⟨⟨k0,k1,k2⟩,l0,l1,l2,l3⟩:=KY.out _ _ (S4.trans S5)))
   all_goals
    clear HC HF HOv;go_wp2;go_roundw
    case rel=>(try ((repeat apply Exists.intro);refine⟨?_,rfl⟩));exact⟨d.snoc y,kr,_,o5,HKn,by rw[HDN.out];go_num,E5,(S3.trans S4).trans S5,by rw[HDS.out];exact(g2.trans g5).le (by omega),by rw[HDN.out];exact HWn⟩
    case measure=>have hlk:=HLK.out;simp[intOf];omega
theorem pv (nc:Nat):∀ N,fq nc N
 | 0=>fun e ao cap ar u w o rb lv ls s h=>by omega
 | N+1=>rZ nc N (pv nc N)
theorem uF (w:World)(b off c n:Nat)(hn:n<=100000)(hb:b<w.heap.size)(hc:w.cell? ⟨b,off,none⟩=some (.int .i64 1)) :
  Calls Tryz.prog 85 #[.slice (some ⟨b,off,none⟩) 1 c,.int .i64 (n:Nat)] w fun x w'=>∃g,x=.returned (.slice (some ⟨g,0,none⟩) n n)/\w.heap.size<=g/\w'.heap[g]?=some (.cells (List.replicate n (Value.int .i64 1)).toArray 3 (0,0))/\Below w.heap.size w w':=by
 obtain⟨ii,hii,hzi0,hzi1,hzi2⟩:=aH lq;have mk:∀ w:World,(Instr.makeSlice 35 (.int .i64 (n:Nat)) (.int .i64 (n:Nat))).run Tryz.prog w=.ok (.slice (some ⟨w.heap.size,0,none⟩) n n) (w.alloc (.cells (madeCells (Value.int .i64 0).cells (n*1)) 3)):=fun w=>by
  have:=run_make (P:=Tryz.prog) w 35 3 ii _ Tryz.underlying35 hii hzi0 .i64 .i64 n n (by omega) (Int.le_refl _) (by rw[hzi2];omega) (by omega)
  rw[hzi1] at this;simpa only[Int.toNat_natCast] using this
 obtain⟨X,hX,hXl⟩:∃X:List Value,madeCells (Value.int .i64 0).cells (n*1)=X.toArray/\X.length=n:=⟨(madeCells (Value.int .i64 0).cells (n*1)).toList,by simp,by simp[madeCells,Value.cells]⟩
 rw[hX] at mk;have B0:Below w.heap.size w (w.alloc (.cells X.toArray 3)):=(Below.refl _ w).alloc (Nat.le_refl _) _;have E0:(w.alloc (.cells X.toArray 3)).heap[w.heap.size]?=some (.cells X.toArray 3 (0,0)):=heap_alloc_new w _;have c0:=(B0.cell (p:=⟨b,off,none⟩) hb).trans hc;have m1:=fun w=>BM n hn w;clear hX hc;go_enter Tryz.func85,Tryz.ntmps85;go_wp2_with fail;refine(m1 _).mono ?_;rintro z w1 ⟨rfl,rfl⟩;go_upto_region 7 with fail;generalize w1.alloc (.cells X.toArray 3)=w0 at *;obtain⟨g,hg⟩:∃g,g=w1.heap.size:=⟨_,rfl⟩
 rw[<-hg] at E0 ⊢;have HG:Hid (g=w1.heap.size):=hg;have hgs:(Tryz.prog.info? 3).map (·.size)=some 1:=by rw[hii];simp[hzi1]
 obtain⟨cs,hcs⟩:∃cs,cs=List.replicate (min 1 n) (Value.int .i64 1):=⟨_,rfl⟩
 have hcl:cs.length=min 1 n:=by rw[hcs];simp
 have hcv:∀ j v,cs[j]?=some v->j=0/\v=Value.int .i64 1:=by
  intro j v hv;rw[hcs,List.getElem?_replicate] at hv;split at hv
  ·injection hv with hv
   exact⟨by omega,hv.symm⟩
  ·cases hv
 have hca:∀ j,j<cs.length->cs[j]?=some (Value.int .i64 1):=by
  intro j hj;rw[hcs,List.getElem?_replicate];rw[hcl] at hj;rw[if_pos hj]
 clear hcs hg;obtain⟨w2,hr2,hg2,hb2⟩:=fN (P:=Tryz.prog) (w:=w0) 35 35 3 3 Tryz.underlying35 hgs (some ⟨g,0,none⟩) (some ⟨b,off,none⟩) n n 1 c g 0 X 3 E0 cs (by rw[hcl]) (fun _=>⟨rfl,_,rfl,fun j v hv=>by obtain⟨rfl,rfl⟩:=hcv j v hv;exact c0⟩) (by omega) (fun v hv=>by obtain⟨j,hj,h2⟩:=List.mem_iff_getElem.1 hv;rw[(hcv j v (by rw[List.getElem?_eq_getElem hj,h2])).2];rfl);have hlen2:(splice X 0 cs).length=n:=by rw[length_splice _ _ _ (by omega)];exact hXl
 have hat2:Hid (∀ j,j<0+cs.length->(splice X 0 cs)[j]?=some (Value.int .i64 1)):=oA (fun j hj=>absurd hj (Nat.not_lt_zero _)) hca (by omega);generalize splice X 0 cs=Y at *;have hgl:Hid (g=w1.heap.size):=HG;have B2:Below w1.heap.size w1 w2:=B0.trans (by rw[<-HG.out];exact hb2);have hk1:Hid (min 1 n<=n/\(0<n->0<min 1 n)):=⟨by omega,by omega⟩
 rw[hcl,Nat.zero_add] at hat2;have hgi:goInt cs.length=.int .i64 (min 1 n:Nat):=by rw[hcl];rfl
 rw[hgi] at hr2;generalize min 1 n=k1 at *;have h2:=lt_of_block hg2;clear E0 c0 hca hcv B0 hb2 hgi;go_wp2;go_loopw [8] (fun v wr=>∃(k:Nat) (Y:List Value),k<=n/\v=.int .i64 (k:Nat)/\(0<n->0<k)/\Y.length=n/\Hid (∀ j,j<k->Y[j]?=some (Value.int .i64 1))/\wr.heap[g]?=some (.cells Y.toArray 3 (0,0))/\Below w1.heap.size w1 wr) (fun v _=>n-(intOf v).toNat)
 case atStart=>exact⟨k1,Y,hk1.out.1,rfl,hk1.out.2,hlen2,hat2,hg2,B2⟩
 case round =>
  clear hk1 hlen2 hat2 hg2 B2 hr2 hcl h2;obtain⟨k,Y,hk,rfl,hk0,hyl,hat,E1,B1⟩:=hrel;by_cases hlt:k<n
  ·have hkI:(k:Int)<(n:Int):=by omega
   have bdT:Below wr.heap.size wr wr.drew:=⟨rfl,rfl,rfl,Nat.le_refl _,fun _ _=>rfl⟩
   have Ed:wr.drew.heap[g]?=some (.cells Y.toArray 3 (0,0)):=E1;obtain⟨ds,hds⟩:∃ds,ds=List.replicate (min k (n-k)) (Value.int .i64 1):=⟨_,rfl⟩
   have hdl:ds.length=min k (n-k):=by rw[hds];simp
   have hda:∀ j,j<ds.length->ds[j]?=some (Value.int .i64 1):=by
    intro j hj;rw[hds,List.getElem?_replicate];rw[hdl] at hj;rw[if_pos hj]
   have hdv:∀ j v,ds[j]?=some v->j<k/\v=Value.int .i64 1:=by
    intro j v hv;rw[hds,List.getElem?_replicate] at hv;split at hv
    ·injection hv with hv
     exact⟨by omega,hv.symm⟩
    ·cases hv
   clear hds;obtain⟨w3,hr3,hg3,hb3⟩:=fN (P:=Tryz.prog) (w:=wr.drew) 35 35 3 3 Tryz.underlying35 hgs (some ⟨g,k,none⟩) (some ⟨g,0,none⟩) (n-k) (n-k) k n g k Y 3 Ed ds (by rw[hdl]) (fun _=>⟨rfl,_,rfl,fun j v hv=>by
    obtain⟨hj,rfl⟩:=hdv j v hv;have ea:(Addr.add ⟨g,0,none⟩ j)=⟨g,j,none⟩:=by simp[Addr.add];exact fun h=>h.symm
    rw[ea,cell_of_row _ _ _ _ _ _ Ed];simpa using hat.out j hj⟩) (by omega) (fun v hv=>by obtain⟨j,hj,h2⟩:=List.mem_iff_getElem.1 hv;rw[(hdv j v (by rw[List.getElem?_eq_getElem hj,h2])).2];rfl)
   have hlen3:(splice Y k ds).length=n:=by rw[length_splice _ _ _ (by omega)];exact hyl
   have hat3:Hid (∀ j,j<k+ds.length->(splice Y k ds)[j]?=some (Value.int .i64 1)):=oA hat.out hda (by omega);generalize splice Y k ds=Y3 at *;have B3:Below w1.heap.size w1 w3:=(B1.trans (bdT.mono B1.size)).trans (by rw[<-HG.out];exact hb3);rw[hdl] at hat3;have hgi:goInt ds.length=.int .i64 (min k (n-k):Nat):=by rw[hdl];rfl
   rw[hgi] at hr3;have hpos:0<min k (n-k):=by have:=hk0 (by omega);omega
   have hle:k+min k (n-k)<=n:=by omega
   generalize min k (n-k)=d at *;clear hat hda hdv hdl hgi E1 hyl Ed;go_wp2_with fail;go_region;go_wp2;go_roundw
   case rel=>exact⟨k+d,Y3,hle,by simp,fun _=>by omega,hlen3,hat3,hg3,B3⟩
   case measure=>simp[intOf];omega
  ·have hkI:¬(k:Int)<(n:Int):=by omega
   have HR:Hid (∃g',Ending.returned (.slice (some ⟨g,0,none⟩) n n)=Ending.returned (.slice (some ⟨g',0,none⟩) n n)/\w1.heap.size<=g'/\wr.heap[g']?=some (.cells (List.replicate n (Value.int .i64 1)).toArray 3 (0,0))/\Below w1.heap.size w1 wr):=by
    have hY:Y=List.replicate n (Value.int .i64 1):=by
     apply List.ext_getElem?;intro j;rw[List.getElem?_replicate];by_cases hj:j<n
     ·rw[if_pos hj];exact hat.out j (by omega)
     ·rw[if_neg hj];exact List.getElem?_eq_none (by omega)
    exact⟨g,rfl,by rw[HG.out];exact Nat.le_refl _,by rw[<-hY];exact E1,B1⟩
   clear hat E1 hyl B1;go_wp2;go_ret;exact HR.out
theorem uG {cells:List Int}{n:Int}{ks:Fs}{ar:Nat}{s s':Rg}(h:cT cells n ks ar s=some s'):s'.1=s.1:=by
 unfold cT at h;split at h
 ·cases h
 ·split at h
  ·cases h
  ·split at h
   ·injection h with h;subst h;rfl
   ·split at h
    ·injection h with h;subst h;rfl
    ·cases h
theorem za {pk:Int}{i ar wi:Nat}(h:ar<=wi):(aL pk i ar wi).1<=(aL pk i ar wi).2:=by
 unfold aL;split
 ·simp only;split<;>omega
 ·exact h
theorem ta {cells:List Int}{e:Ex}{ar wi:Nat}{s s':Rg}{k:Int}(hx:rgE cells e ar wi s=some (s',k))(ha:ar<=wi)(hn:-9223372036854775808<=e.n/\e.n<=9223372036854775807):okN cells.length e.k e.n e.nm e.kids.len:=by
 have hd:=kO hx;obtain⟨hg,-⟩:=dw hx;unfold gdE at hg;simp only[not_or] at hg;obtain⟨g1,g2,g3,g4⟩:=hg;refine⟨hd,fun h5=>?_,fun h26=>?_,hn⟩
 ·rw[h5] at g4;simp[nuP] at g4;omega
 ·rw[h26] at g4;simp[nuP] at g4;omega
theorem xN (cells:List Int):∀ (f:Fs) (pk:Int) (i ar wi:Nat) (s s':Rg) (kd:List Int),ar<=wi->rgF cells f pk i ar wi s=some (s',kd)->f.rng->okF cells.length f/\s'.1=s.1+f.size/\(s.1<=4096->s'.1<=4096)
 | ⟨none⟩,pk,i,ar,wi,s,s',kd,ha,h,hr=>by
  simp only[rgF] at h;injection h with h
  injection h with h1 h2
  subst h1;exact⟨trivial,rfl,id⟩
 | ⟨some ⟨k,n,nm,a,ks,r⟩⟩,pk,i,ar,wi,s,s',kd,ha,h,hr=>by
  have h0:rgF cells ⟨some ⟨k,n,nm,a,ks,r⟩⟩ pk i ar wi s=_:=eG cells ⟨k,n,nm,a,ks⟩ r pk i ar wi s;rw[h0] at h;cases hx:rgE cells ⟨k,n,nm,a,ks⟩ (aL pk i ar wi).1 (aL pk i ar wi).2 s with
  | none=>rw[hx] at h;cases h
  | some z =>
   obtain⟨s2,k2⟩:=z;rw[hx] at h;simp only at h;cases hq:rgF cells r pk (i+1) ar wi s2 with
   | none=>rw[hq] at h;cases h
   | some z =>
    obtain⟨s3,rest⟩:=z;rw[hq] at h;injection h with h
    injection h with h1 h2
    subst h1;have hsp:=za (pk:=pk) (i:=i) ha;have hnd:=ta hx hsp ⟨hr.1,hr.2.1⟩;obtain⟨hg,s1,kd1,hk,hl,hf1,hf2,hk2,h6⟩:=dw hx;simp only at hk hnd h6;obtain⟨a1,a2,a3⟩:=xN cells ks k 0 _ _ _ _ _ hsp hk hr.2.2.1;obtain⟨b1,b2,b3⟩:=xN cells r pk (i+1) ar wi _ _ _ ha hq hr.2.2.2;have hs2:s2.1=s1.1:=by
     split at h6
     ·exact uG h6
     ·injection h6 with h6;rw[h6]
    have hsz:(⟨some ⟨k,n,nm,a,ks,r⟩⟩:Fs).size=ks.size+r.size+1:=rfl;unfold gdE at hg;simp only[not_or] at hg;refine⟨⟨hnd,a1,b1⟩,?_,fun hs=>?_⟩
    ·rw[hsz,b2,hs2,a2];simp only;omega
    ·exact b3 (by rw[hs2];exact a3 (by simp only;omega))
theorem pL {cells:List Int}{e:Ex}(h:bO cells e≠0)(hn:-9223372036854775808<=e.n/\e.n<=9223372036854775807)(hr:e.kids.rng):okE cells.length e/\e.kids.size+1<=4096/\cells.length<=256/\∀ c,c ∈ cells->0<=c/\c<=4:=by
 obtain⟨h1,h2,s,hx,-⟩:=jQ h;have hnd:=ta hx (Nat.le_refl 0) hn;obtain⟨hg,s1,kd1,hk,-,-,-,-,-⟩:=dw hx;obtain⟨a1,a2,a3⟩:=xN cells e.kids e.k 0 0 0 _ _ _ (Nat.le_refl 0) hk hr;have h4:=a3 (by simp);rw[a2] at h4;simp only at h4;exact⟨⟨hnd,a1⟩,by omega,h1,h2⟩
end Go.Proofs.YtbjdkekhnajafaaGreatDoor

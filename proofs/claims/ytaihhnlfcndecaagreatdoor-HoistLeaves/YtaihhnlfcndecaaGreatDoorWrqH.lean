import Derived.Test.YtaihhnlfcndecaaGreatDoorWrqG
namespace Go.Proofs.YtaihhnlfcndecaaGreatDoor
open Go.ChangeShapes Go.WideShapes Go.ChangeAt Go.RowKit
set_option linter.unusedVariables false
set_option linter.unusedSimpArgs false
theorem cat2 (l m:List UInt8):(⟨l.toArray⟩:ByteArray)++⟨m.toArray⟩=⟨(l++m).toArray⟩:=by
 apply ByteArray.ext
 simp
set_option maxRecDepth 100000 in
set_option maxHeartbeats 2000000 in
theorem great_if {N:Nat} (IH:PartQ N) (e:Ex) (hNk:e.kids.size≤N) (he:e.fit) (ao:Option Addr) (cap wb:Nat) (st:Ow) (w:World) (o:Nat→Nat) (S:Sl w (L0 o) e.kids ao) (H:WQ w o wb st) (hk:e.k=19) (hl:e.kids.len=3) :
  Calls Tryz.prog 212 #[.pointer (some ⟨wb,0,none⟩),exV e ao cap] w (PostO w o wb (oNode e.k e.n e.nm (fun g s=>oFs e.kids (e.k == 21) g 0 s) st)):=by
 obtain ⟨x,y,z,hks⟩:=len3 hl
 have hk0:Hid (e.kids=Fs.app .nil (Fs.ex x (Fs.ex y (Fs.ex z .nil)))):=hks
 have hk1:Hid (e.kids=Fs.app (one x) (Fs.ex y (Fs.ex z .nil))):=by show _=_;rw [hks];rfl
 have hk2:Hid (e.kids=Fs.app ((one x).snoc y) (Fs.ex z .nil)):=by show _=_;rw [hks];rfl
 have hsz:e.kids.size=x.kids.size+(y.kids.size+(z.kids.size+0+1)+1)+1:=by rw [hks];rfl
 have hNx:x.kids.size < N:=by omega
 have hNy:y.kids.size < N:=by omega
 have hNz:z.kids.size < N:=by omega
 have hfx:=Ex.kidfit he hk0.out
 have hfy:=Ex.kidfit he hk1.out
 have hfz:=Ex.kidfit he hk2.out
 have HF:Hid (oNode e.k e.n e.nm (fun g s=>oFs e.kids (e.k == 21) g 0 s) st=leaO (oKid e z 2 (putO [32,101,108,115,101,32] (oKid e y 1 (putO [32,116,104,101,110,32] (oKid e x 0 (putO [105,102,32] (entO st)))))))):=by
  show _=_
  unfold oNode
  rw [if_neg (by omega),if_neg (by omega),if_pos hk]
  simp only [hks,oFs_ex]
  rw [okid_eq e x 0 _ (by rw [hk];rfl) (by rw [hk];rfl),okid_eq e y 1 _ (by rw [hk];rfl) (by rw [hk];rfl),okid_eq e z 2 _ (by rw [hk];rfl) (by rw [hk];rfl)]
  rfl
 have b19:(e.k == 19)=true:=by simp [hk]
 clear hks hk hl hsz
 have s0:=boxStep (fun _=>False) w o (bxX e ao cap)
 have E0:Blk (w.alloc (bxX e ao cap)) (newLab w o 0) 0 w.heap.size (bxX e ao cap):=boxBlk w o _ _
 have S0:=S.stp0 s0
 have H0:=H.stp0 s0
 have T0:=s0.i12
 clear S H s0
 rw [exV_out]
 go_enter Tryz.func212,Tryz.ntmps212
 go_upto_region 1 with fail
 generalize w.alloc (bxX e ao cap)=w0 at *
 generalize newLab w o 0=o0 at *
 generalize w.heap.size=be at *
 obtain ⟨p0,p1,p2,p3,p4,pf⟩:=box5 E0.1
 have c1:=opens_o [105,102,32] H0 (by simp)
 have hb1:Bal (entO st) (putO [105,102,32] (entO st)):=(Bal.refl _).put [105,102,32]
 have hp:Hid (∀ s,Bal (entO st) s→∀ x,s=some x→1≤x.o):=fun s h=>ent_pos h
 generalize putO [105,102,32] (entO st)=st1 at *
 generalize entO st=se at *
 go_wp2_with fail
 refine c1.mono ?_
 rintro e2 w1 ⟨rfl,o1,H1,s1⟩
 have T1:=T0.trans s1
 have S1:=S0.stp s1
 have E1:=E0.stp s1
 clear c1 H0 T0 S0 E0 s1 p0 p1 p2 p3 p4 pf
 obtain ⟨p0,p1,p2,p3,p4,pf⟩:=box5 E1.1
 have c2:=kid_q IH e x .nil (Fs.ex y (Fs.ex z .nil)) hk0.out 0 rfl (by omega) (hNx) (hfx) ao cap wb st1 w1 o1 S1 H1
 rw [exV_out] at c2
 have hb2:=hb1.trans (kid_bal e x 0 st1)
 generalize oKid e x 0 st1=st2 at *
 go_wp2_with fail
 refine c2.mono ?_
 rintro e2 w2 ⟨rfl,o2,H2,s2⟩
 have T2:=T1.trans s2
 have S2:=S1.stp s2
 have E2:=E1.stp s2
 clear c2 H1 T1 S1 E1 s2 p0 p1 p2 p3 p4 pf hb1
 obtain ⟨p0,p1,p2,p3,p4,pf⟩:=box5 E2.1
 have c3:=puts_o [32,116,104,101,110,32] H2 (by simp)
 have hb3:=hb2.put [32,116,104,101,110,32]
 generalize putO [32,116,104,101,110,32] st2=st3 at *
 go_wp2_with fail
 refine c3.mono ?_
 rintro e2 w3 ⟨rfl,o3,H3,s3⟩
 have T3:=T2.trans s3
 have S3:=S2.stp s3
 have E3:=E2.stp s3
 clear c3 H2 T2 S2 E2 s3 p0 p1 p2 p3 p4 pf hb2
 obtain ⟨p0,p1,p2,p3,p4,pf⟩:=box5 E3.1
 have c4:=kid_q IH e y (one x) (Fs.ex z .nil) hk1.out 1 rfl (by omega) (hNy) (hfy) ao cap wb st3 w3 o3 S3 H3
 rw [exV_out] at c4
 have hb4:=hb3.trans (kid_bal e y 1 st3)
 generalize oKid e y 1 st3=st4 at *
 go_wp2_with fail
 refine c4.mono ?_
 rintro e2 w4 ⟨rfl,o4,H4,s4⟩
 have T4:=T3.trans s4
 have S4:=S3.stp s4
 have E4:=E3.stp s4
 clear c4 H3 T3 S3 E3 s4 p0 p1 p2 p3 p4 pf hb3
 obtain ⟨p0,p1,p2,p3,p4,pf⟩:=box5 E4.1
 have c5:=puts_o [32,101,108,115,101,32] H4 (by simp)
 have hb5:=hb4.put [32,101,108,115,101,32]
 generalize putO [32,101,108,115,101,32] st4=st5 at *
 go_wp2_with fail
 refine c5.mono ?_
 rintro e2 w5 ⟨rfl,o5,H5,s5⟩
 have T5:=T4.trans s5
 have S5:=S4.stp s5
 have E5:=E4.stp s5
 clear c5 H4 T4 S4 E4 s5 p0 p1 p2 p3 p4 pf hb4
 obtain ⟨p0,p1,p2,p3,p4,pf⟩:=box5 E5.1
 have c6:=kid_q IH e z ((one x).snoc y) .nil hk2.out 2 rfl (by omega) (hNz) (hfz) ao cap wb st5 w5 o5 S5 H5
 rw [exV_out] at c6
 have hb6:=hb5.trans (kid_bal e z 2 st5)
 generalize oKid e z 2 st5=st6 at *
 go_wp2_with fail
 refine c6.mono ?_
 rintro e2 w6 ⟨rfl,o6,H6,s6⟩
 have T6:=T5.trans s6
 have S6:=S5.stp s6
 have E6:=E5.stp s6
 clear c6 H5 T5 S5 E5 s6 p0 p1 p2 p3 p4 pf hb5
 obtain ⟨p0,p1,p2,p3,p4,pf⟩:=box5 E6.1
 obtain ⟨oo7,dd7,df7,s7,H7⟩:=H6.lea (hp.out _ hb6)
 generalize leaO st6=st7 at *
 have T7:=T6.trans s7
 have S7:=S6.stp s7
 have E7:=E6.stp s7
 go_wp2
 generalize w6.setCell ⟨wb,1,none⟩ (.int .i64 (wrap64 (oo7 - 1)))=w7 at *
 clear dd7 df7 H6 T6 S6 E6 s7 p0 p1 p2 p3 p4 pf hp hb6
 generalize o6=o7 at *
 obtain ⟨p0,p1,p2,p3,p4,pf⟩:=box5 E7.1
 go_end0
 exact ⟨rfl,o7,by rw [HF.out];exact H7,T7⟩
set_option maxRecDepth 100000 in
set_option maxHeartbeats 2000000 in
theorem great_around {N:Nat} (IH:PartQ N) (e:Ex) (hNk:e.kids.size≤N) (he:e.fit) (ao:Option Addr) (cap wb:Nat) (st:Ow) (w:World) (o:Nat→Nat) (S:Sl w (L0 o) e.kids ao) (H:WQ w o wb st) (hk:e.k=24) :
  Calls Tryz.prog 212 #[.pointer (some ⟨wb,0,none⟩),exV e ao cap] w (PostO w o wb (oNode e.k e.n e.nm (fun g s=>oFs e.kids (e.k == 21) g 0 s) st)):=by
 have hek:e.k=20∨e.k=24∨e.k=25:=by omega
 have HF:Hid (oNode e.k e.n e.nm (fun g s=>oFs e.kids (e.k == 21) g 0 s) st=putO [41] (leaO (oFs e.kids (e.k == 21) comS 0 (putO [40] (entO (putO [97,114,111,117,110,100] st)))))):=by
  show _=_
  unfold oNode
  rw [if_neg (by omega),if_neg (by omega),if_neg (by omega),if_neg (by omega),if_neg (by omega),if_pos hk]
  rfl
 have b19:(e.k == 19)=false:=bne (by omega)
 have b21:(e.k == 21)=false:=bne (by omega)
 have b20:(e.k == 20)=false:=bne (by omega)
 have b24:(e.k == 24)=true:=by simp [hk]
 have HEK:=Lib.hid hek
 clear hk hek
 have s0:=boxStep (fun _=>False) w o (bxX e ao cap)
 have E0:Blk (w.alloc (bxX e ao cap)) (newLab w o 0) 0 w.heap.size (bxX e ao cap):=boxBlk w o _ _
 have S0:=S.stp0 s0
 have H0:=H.stp0 s0
 have T0:=s0.i12
 clear S H s0
 rw [exV_out]
 go_enter Tryz.func212,Tryz.ntmps212
 go_upto_region 1 with fail
 generalize w.alloc (bxX e ao cap)=w0 at *
 generalize newLab w o 0=o0 at *
 generalize w.heap.size=be at *
 obtain ⟨p0,p1,p2,p3,p4,pf⟩:=box5 E0.1
 have c1:=puts_o [97,114,111,117,110,100] H0 (by simp)
 generalize putO [97,114,111,117,110,100] st=st1 at *
 go_wp2_with fail
 refine c1.mono ?_
 rintro e2 w1 ⟨rfl,o1,H1,s1⟩
 have T1:=T0.trans s1
 have S1:=S0.stp s1
 have E1:=E0.stp s1
 clear c1 H0 T0 S0 E0 s1 p0 p1 p2 p3 p4 pf
 obtain ⟨p0,p1,p2,p3,p4,pf⟩:=box5 E1.1
 have c2:=opens_o [40] H1 (by simp)
 have hb2:Bal (entO st1) (putO [40] (entO st1)):=(Bal.refl _).put [40]
 have hp:Hid (∀ s,Bal (entO st1) s→∀ x,s=some x→1≤x.o):=fun s h=>ent_pos h
 generalize putO [40] (entO st1)=st2 at *
 generalize entO st1=se at *
 go_wp2_with fail
 refine c2.mono ?_
 rintro e2 w2 ⟨rfl,o2,H2,s2⟩
 have T2:=T1.trans s2
 have S2:=S1.stp s2
 have E2:=E1.stp s2
 clear c2 H1 T1 S1 E1 s2 p0 p1 p2 p3 p4 pf
 obtain ⟨p0,p1,p2,p3,p4,pf⟩:=box5 E2.1
 have hek:=HEK.out
 have c3:=list_qw IH e hek hNk he ao cap wb st2 w2 o2 S2 H2
 rw [exV_out] at c3
 have hb3:=hb2.trans (fs_bal e.kids (e.k == 21) comS 0 st2)
 generalize oFs e.kids (e.k == 21) comS 0 st2=st3 at *
 go_wp2_with fail
 refine c3.mono ?_
 rintro e2 w3 ⟨rfl,o3,H3,s3⟩
 have T3:=T2.trans s3
 have S3:=S2.stp s3
 have E3:=E2.stp s3
 clear c3 H2 T2 S2 E2 s3 p0 p1 p2 p3 p4 pf hb2
 obtain ⟨p0,p1,p2,p3,p4,pf⟩:=box5 E3.1
 clear hek
 obtain ⟨oo4,dd4,df4,s4,H4⟩:=H3.lea (hp.out _ hb3)
 generalize leaO st3=st4 at *
 have T4:=T3.trans s4
 have S4:=S3.stp s4
 have E4:=E3.stp s4
 go_upto_region 35 with fail
 generalize w3.setCell ⟨wb,1,none⟩ (.int .i64 (wrap64 (oo4 - 1)))=w4 at *
 clear dd4 df4 H3 T3 S3 E3 s4 p0 p1 p2 p3 p4 pf hp hb3
 generalize o3=o4 at *
 obtain ⟨p0,p1,p2,p3,p4,pf⟩:=box5 E4.1
 have c5:=puts_o [41] H4 (by simp)
 generalize putO [41] st4=st5 at *
 go_wp2_with fail
 refine c5.mono ?_
 rintro e2 w5 ⟨rfl,o5,H5,s5⟩
 have T5:=T4.trans s5
 have S5:=S4.stp s5
 have E5:=E4.stp s5
 clear c5 H4 T4 S4 E4 s5 p0 p1 p2 p3 p4 pf
 obtain ⟨p0,p1,p2,p3,p4,pf⟩:=box5 E5.1
 go_wp2
 go_end0
 exact ⟨rfl,o5,by rw [HF.out];exact H5,T5⟩
set_option maxRecDepth 100000 in
set_option maxHeartbeats 2000000 in
theorem great_list {N:Nat} (IH:PartQ N) (e:Ex) (hNk:e.kids.size≤N) (he:e.fit) (ao:Option Addr) (cap wb:Nat) (st:Ow) (w:World) (o:Nat→Nat) (S:Sl w (L0 o) e.kids ao) (H:WQ w o wb st) (hk:e.k=25) :
  Calls Tryz.prog 212 #[.pointer (some ⟨wb,0,none⟩),exV e ao cap] w (PostO w o wb (oNode e.k e.n e.nm (fun g s=>oFs e.kids (e.k == 21) g 0 s) st)):=by
 have hek:e.k=20∨e.k=24∨e.k=25:=by omega
 have HF:Hid (oNode e.k e.n e.nm (fun g s=>oFs e.kids (e.k == 21) g 0 s) st=putO [125] (leaO (oFs e.kids (e.k == 21) comS 0 (putO [123] (entO st))))):=by
  show _=_
  unfold oNode
  rw [if_neg (by omega),if_neg (by omega),if_neg (by omega),if_neg (by omega),if_neg (by omega),if_neg (by omega),if_pos hk]
  rfl
 have b19:(e.k == 19)=false:=bne (by omega)
 have b21:(e.k == 21)=false:=bne (by omega)
 have b20:(e.k == 20)=false:=bne (by omega)
 have b24:(e.k == 24)=false:=bne (by omega)
 have HEK:=Lib.hid hek
 clear hk hek
 have s0:=boxStep (fun _=>False) w o (bxX e ao cap)
 have E0:Blk (w.alloc (bxX e ao cap)) (newLab w o 0) 0 w.heap.size (bxX e ao cap):=boxBlk w o _ _
 have S0:=S.stp0 s0
 have H0:=H.stp0 s0
 have T0:=s0.i12
 clear S H s0
 rw [exV_out]
 go_enter Tryz.func212,Tryz.ntmps212
 go_upto_region 1 with fail
 generalize w.alloc (bxX e ao cap)=w0 at *
 generalize newLab w o 0=o0 at *
 generalize w.heap.size=be at *
 obtain ⟨p0,p1,p2,p3,p4,pf⟩:=box5 E0.1
 have c1:=opens_o [123] H0 (by simp)
 have hb1:Bal (entO st) (putO [123] (entO st)):=(Bal.refl _).put [123]
 have hp:Hid (∀ s,Bal (entO st) s→∀ x,s=some x→1≤x.o):=fun s h=>ent_pos h
 generalize putO [123] (entO st)=st1 at *
 generalize entO st=se at *
 go_wp2_with fail
 refine c1.mono ?_
 rintro e2 w1 ⟨rfl,o1,H1,s1⟩
 have T1:=T0.trans s1
 have S1:=S0.stp s1
 have E1:=E0.stp s1
 clear c1 H0 T0 S0 E0 s1 p0 p1 p2 p3 p4 pf
 obtain ⟨p0,p1,p2,p3,p4,pf⟩:=box5 E1.1
 have hek:=HEK.out
 have c2:=list_qw IH e hek hNk he ao cap wb st1 w1 o1 S1 H1
 rw [exV_out] at c2
 have hb2:=hb1.trans (fs_bal e.kids (e.k == 21) comS 0 st1)
 generalize oFs e.kids (e.k == 21) comS 0 st1=st2 at *
 go_wp2_with fail
 refine c2.mono ?_
 rintro e2 w2 ⟨rfl,o2,H2,s2⟩
 have T2:=T1.trans s2
 have S2:=S1.stp s2
 have E2:=E1.stp s2
 clear c2 H1 T1 S1 E1 s2 p0 p1 p2 p3 p4 pf hb1
 obtain ⟨p0,p1,p2,p3,p4,pf⟩:=box5 E2.1
 clear hek
 obtain ⟨oo3,dd3,df3,s3,H3⟩:=H2.lea (hp.out _ hb2)
 generalize leaO st2=st3 at *
 have T3:=T2.trans s3
 have S3:=S2.stp s3
 have E3:=E2.stp s3
 go_upto_region 5 with fail
 generalize w2.setCell ⟨wb,1,none⟩ (.int .i64 (wrap64 (oo3 - 1)))=w3 at *
 clear dd3 df3 H2 T2 S2 E2 s3 p0 p1 p2 p3 p4 pf hp hb2
 generalize o2=o3 at *
 obtain ⟨p0,p1,p2,p3,p4,pf⟩:=box5 E3.1
 have c4:=puts_o [125] H3 (by simp)
 generalize putO [125] st3=st4 at *
 go_wp2_with fail
 refine c4.mono ?_
 rintro e2 w4 ⟨rfl,o4,H4,s4⟩
 have T4:=T3.trans s4
 have S4:=S3.stp s4
 have E4:=E3.stp s4
 clear c4 H3 T3 S3 E3 s4 p0 p1 p2 p3 p4 pf
 obtain ⟨p0,p1,p2,p3,p4,pf⟩:=box5 E4.1
 go_wp2
 go_end0
 exact ⟨rfl,o4,by rw [HF.out];exact H4,T4⟩
end Go.Proofs.YtaihhnlfcndecaaGreatDoor

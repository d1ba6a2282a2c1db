import Derived.Test.YtaihhnlfcndecaaGreatDoorDopA
namespace Go.Proofs.YtaihhnlfcndecaaGreatDoor
open Go.ChangeShapes Go.WideShapes Go.ChangeAt Go.RowKit
set_option linter.unusedVariables false
set_option linter.unusedSimpArgs false
set_option maxRecDepth 100000 in
set_option maxHeartbeats 8000000 in
theorem dkids_step {N:Nat} (IH:DPartOk N):DKidsOk (N+1):=by
 intro e ao cap ar rc cs cb g P w hN hf hnv ha0 ha1 hcs hg hP HC S
 obtain ⟨F,hF⟩:∃ F,F=(hstF e.kids e.k 0 ar rc cs).1:=⟨_,rfl⟩
 obtain ⟨C,hC⟩:∃ C,C=(hstF e.kids e.k 0 ar rc cs).2:=⟨_,rfl⟩
 have HFC:Hid (F=(hstF e.kids e.k 0 ar rc cs).1∧C=(hstF e.kids e.k 0 ar rc cs).2):=⟨hF,hC⟩
 unfold hstK
 simp only
 rw [←hF,←hC]
 clear hF hC
 have hlen:=hf.len
 obtain ⟨ii,hii,hzi0,hzi1,hzi2⟩:=info_parts infoNode
 obtain ⟨w0,hw0⟩:∃ w0,w0=((w.alloc (.cells #[.int .i64 e.k,.int .i64 e.n,stv e.nm,.slice ao e.kids.len cap] 34)).alloc (.cells #[.int .i64 0,.int .i64 0,.string ⟨#[]⟩,.slice none 0 0] 34)).alloc (.cells #[.int .i64 e.k,.int .i64 e.n,stv e.nm,.slice none 0 0] 34):=⟨_,rfl⟩
 have B0:Below w.heap.size w w0:=by rw [hw0];exact (((Below.refl _ w).alloc (Nat.le_refl _) _).alloc (by simp) _).alloc (by simp;omega) _
 have hcb:=HC.lt
 obtain ⟨o0,ho0⟩:∃ o0:Nat→Nat,o0=fun k=>if k=cb∨k=g then 5 else if k=w.heap.size+1+1 then 1 else if k=w.heap.size+1 then 3 else 0:=⟨_,rfl⟩
 have E0:Blk w0 o0 0 w.heap.size (.cells #[.int .i64 e.k,.int .i64 e.n,stv e.nm,.slice ao e.kids.len cap] 34):=by
  refine ⟨?_,by rw [ho0];simp only;rw [if_neg (by omega),if_neg (by omega),if_neg (by omega)]⟩
  rw [hw0]
  exact (Below.heap_alloc _ _ _ (by simp;omega)).trans ((Below.heap_alloc _ _ _ (by simp)).trans (heap_alloc_new w _))
 have Z0:Blk w0 o0 3 (w.heap.size+1) (.cells #[.int .i64 0,.int .i64 0,.string ⟨#[]⟩,.slice none 0 0] 34):=by
  refine ⟨?_,by rw [ho0];simp only;rw [if_neg (by omega)];simp⟩
  rw [hw0]
  refine (Below.heap_alloc _ _ _ (by simp)).trans ?_
  have:=heap_alloc_new (w.alloc (.cells #[.int .i64 e.k,.int .i64 e.n,stv e.nm,.slice ao e.kids.len cap] 34)) (.cells #[.int .i64 0,.int .i64 0,.string ⟨#[]⟩,.slice none 0 0] 34)
  simpa using this
 have O0:Blk w0 o0 1 (w.heap.size+1+1) (.cells #[.int .i64 e.k,.int .i64 e.n,stv e.nm,.slice none 0 0] 34):=by
  refine ⟨?_,by rw [ho0];simp only;rw [if_neg (by omega)];simp⟩
  rw [hw0]
  have:=heap_alloc_new ((w.alloc (.cells #[.int .i64 e.k,.int .i64 e.n,stv e.nm,.slice ao e.kids.len cap] 34)).alloc (.cells #[.int .i64 0,.int .i64 0,.string ⟨#[]⟩,.slice none 0 0] 34)) (.cells #[.int .i64 e.k,.int .i64 e.n,stv e.nm,.slice none 0 0] 34)
  simpa using this
 have oc0:o0 cb=5:=by rw [ho0];simp
 have og0:o0 g=5:=by rw [ho0];simp
 have L0:∀ k,k < w.heap.size→(o0 k=0∨o0 k=5)∧(k≠cb→k≠g→o0 k=0):=fun k hk=>by
  rw [ho0]
  simp only
  by_cases h:k=cb∨k=g
  ·rw [if_pos h]
   exact ⟨.inr rfl,fun h1 h2=>by rcases h with h | h <;> contradiction⟩
  ·rw [if_neg h,if_neg (by omega),if_neg (by omega)]
   exact ⟨.inl rfl,fun _ _=>rfl⟩
 have A0:=AccD.nil w0 o0 P w.heap.size
 have C0:=HC.below B0
 have K0:Kp cb g w w0:=Kp.ofBelow B0
 have hg0:g < w0.heap.size:=Nat.lt_of_lt_of_le hg B0.size
 rw [exN_out]
 go_enter Tryz.func78,Tryz.ntmps78
 go_upto_region 2 with fail
 rw [←hw0]
 clear hw0 ho0
 obtain ⟨n0,hn0⟩:∃ n0,n0=w.heap.size:=⟨_,rfl⟩
 unfold PostDo
 rw [←hn0] at E0 Z0 O0 L0 A0 hg hcb ⊢
 have HB:Hid (n0=w.heap.size):=hn0
 clear hn0 B0 HC
 go_wp2
 go_loopw [10] (fun v wr=>∃ (done r acc:Fs) (o:Nat→Nat) (va:Value) (c1:List Int) (g1:Nat),Hid (e.kids=done.app r)∧v=.int .i64 (done.len:Nat)∧Hid (acc.len=done.len)∧Hid (acc.app (hstF r e.k done.len ar rc c1).1=F∧(hstF r e.k done.len ar rc c1).2=C)∧c1.length≤256∧Blk wr o 0 n0 (.cells #[.int .i64 e.k,.int .i64 e.n,stv e.nm,.slice ao e.kids.len cap] 34)∧Blk wr o 3 (n0+1) (.cells #[.int .i64 0,.int .i64 0,.string ⟨#[]⟩,.slice none 0 0] 34)∧Blk wr o 1 (n0+1+1) (.cells #[.int .i64 e.k,.int .i64 e.n,stv e.nm,va] 34)∧AccD wr o P n0 acc va∧CsD wr cb g1 c1∧o cb=5∧o g1=5∧(g1=g∨n0≤g1)∧g1 < wr.heap.size∧Hid (∀ k,k < n0→(o k=0∨o k=5)∧(k≠cb→k≠g→o k=0))∧Kp cb g w wr) (fun v _=>e.kids.len - (intOf v).toNat)
 case atStart=>exact ⟨.nil,e.kids,.nil,o0,.slice none 0 0,cs,g,rfl,by show _=Value.int .i64 ((0:Nat):Int);rfl,rfl,⟨HFC.out.1.symm,HFC.out.2.symm⟩,hcs,E0,Z0,O0,A0,C0,oc0,og0,.inl rfl,hg0,L0,K0⟩
 case round =>
  clear E0 Z0 O0 A0 C0 oc0 og0 hg0 L0 K0 HFC
  obtain ⟨done,r,acc,o,va,c1,g1,hk,rfl,hal,HA,hc1,E1,Z1,O1,A1,C1,oc1,og1,hgg,hg1,L1,K1⟩:=hrel
  have hlk:e.kids.len=done.len+r.len:=by rw [hk.out,Fs.len_app]
  obtain ⟨p0,p1,p2,p3,pf⟩:=box4 E1.1
  cases r using Fs.on with
  | nil =>
   have hl0:¬ (done.len:Int) < (e.kids.len:Int):=by simp only [Fs.len] at hlk;omega
   have HDN:Hid (acc=F∧c1=C):=by
    obtain ⟨h1,h2⟩:=HA.out
    refine ⟨?_,h2⟩
    rw [←h1]
    exact (app_nil' acc).symm
   obtain ⟨ad,cd,rfl,SD⟩:=A1.sl
   obtain ⟨we,hwe⟩:∃ we,we=(((wr.setCell ⟨n0+1,0,none⟩ (.int .i64 e.k)).setCell ⟨n0+1,1,none⟩ (.int .i64 e.n)).setCell ⟨n0+1,2,none⟩ (stv e.nm)).setCell ⟨n0+1,3,none⟩ (.slice ad acc.len cd):=⟨_,rfl⟩
   have sE:Step (fun k=>k=3) wr o we o:=by rw [hwe];exact set4Step _ _ _ _ Z1.2
   have SE:SlN we (fun k=>(P k∧k < n0)∨(n0≤k∧k≠g1)) acc ad:=SD.mono (fun i hp hl=>sE.block i hl (by rcases hp.1 with h | h <;> omega)) sE.size (fun i hp _=>by
    rcases hp.2 with h | h
    ·exact .inl h
    ·exact .inr ⟨h,fun e=>by rw [e,og1] at hp;rcases hp.1 with h | h <;> cases h⟩)
   have CE:=C1.step sE (by rw [oc1];decide) (by rw [og1];decide)
   have KE:=K1.step sE (fun k hk=>by rcases (L1.out k (by rw [HB.out];exact hk)).1 with h | h <;> omega)
   have hgE:g1 < we.heap.size:=Nat.lt_of_lt_of_le hg1 sE.size
   have ZE:we.heap[n0+1]?=some (.cells #[.int .i64 e.k,.int .i64 e.n,stv e.nm,.slice ad acc.len cd] 34 (0,0)):=by rw [hwe];exact set4k Z1.1
   have HU:Hid (we.cell? ⟨n0+1,0,none⟩=some (.int .i64 e.k)∧we.cell? ⟨n0+1,1,none⟩=some (.int .i64 e.n)∧we.cell? ⟨n0+1,2,none⟩=some (stv e.nm)∧we.cell? ⟨n0+1,3,none⟩=some (.slice ad acc.len cd)∧SlN we (fun k=>(P k∧k < n0)∨(n0≤k∧k≠g1)) acc ad∧CsD we cb g1 c1∧g1 < we.heap.size∧Kp cb g w we):=by
    obtain ⟨u0,u1,u2,u3,-⟩:=box4 ZE
    exact ⟨u0,u1,u2,u3,SE,CE,hgE,KE⟩
   have HWE:Hid (we=(((wr.setCell ⟨n0+1,0,none⟩ (.int .i64 e.k)).setCell ⟨n0+1,1,none⟩ (.int .i64 e.n)).setCell ⟨n0+1,2,none⟩ (stv e.nm)).setCell ⟨n0+1,3,none⟩ (.slice ad acc.len cd)):=hwe
   obtain ⟨u0,u1,u2,u3,uf⟩:=box4 O1.1
   obtain ⟨z0,z1,z2,z3,zf⟩:=box4 Z1.1
   clear SE CE KE ZE sE hgE hwe E1 Z1 O1 A1 C1 SD K1 hk hlk hg1
   go_wp2
   rw [←HWE.out]
   obtain ⟨v0,v1,v2,v3,SZ,CZ,hgz,KZ⟩:=HU.out
   clear HU HWE
   refine bodyPost_ret (v:=exN ⟨e.k,e.n,e.nm,e.a,F⟩ ad cd) (by simp [results,Tryz.results78,go_sem,v0,v1,v2,v3,exN,←HDN.out.1]) rfl ⟨g1,ad,cd,rfl,by rw [←HDN.out.1,←HB.out];exact SZ,by rw [←HDN.out.2];exact CZ,by rw [←HB.out];exact hgg,hgz,KZ⟩
  | cons kk kn km ka kks kr =>
   have hl0:(done.len:Int) < (e.kids.len:Int):=by simp only [Fs.len] at hlk;omega
   have hl1:done.len < e.kids.len:=by omega
   have hsz:e.kids.size=done.size+(kks.size+kr.size+1):=by rw [hk.out,Fs.size_app];rfl
   have hfk:FitN ⟨kk,kn,km,ka,kks⟩:=hf.kid (d:=done) (r:=kr) hk.out
   have hnk:(Fs.cons kk kn km ka kks kr).nv:=(Fs.app_nv (x:=done) (by rw [←hk.out];exact hnv.2)).2
   have S1:SlN wr (fun k=>P k∧k < n0) e.kids ao:=S.mono (fun k hp hl=>K1.block k hl (hP k hp).1 (hP k hp).2) K1.size (fun k hp hl=>⟨hp,by rw [HB.out];exact hl⟩)
   obtain ⟨b,off,ak,ck,hao,lb1,-,x0,x1,x2,x3,SK⟩:=SlN.kidQ (by rw [←hk.out];exact S1)
   subst hao
   have hk2:Hid (e.kids=(done.snoc ⟨kk,kn,km,ka,kks⟩).app kr):=by show e.kids=_;rw [hk.out];unfold Fs.snoc;rw [Fs.app_assoc];rfl
   have hl2:(done.len:Int)+1=((done.snoc ⟨kk,kn,km,ka,kks⟩).len:Nat):=by rw [Fs.len_snoc];rfl
   have s5:=labStep 4 (fun _=>False) wr o (.cells #[.int .i64 0,.int .i64 0,.string ⟨#[]⟩,.slice none 0 0] 34)
   have X5:Blk (wr.alloc (.cells #[.int .i64 0,.int .i64 0,.string ⟨#[]⟩,.slice none 0 0] 34)) (newLab wr o 4) 4 wr.heap.size (.cells #[.int .i64 0,.int .i64 0,.string ⟨#[]⟩,.slice none 0 0] 34):=⟨heap_alloc_new wr _,newLab_new (Nat.le_refl _)⟩
   have b5:Below wr.heap.size wr (wr.alloc (.cells #[.int .i64 0,.int .i64 0,.string ⟨#[]⟩,.slice none 0 0] 34)):=(Below.refl _ wr).alloc (Nat.le_refl _) _
   have hn0:n0≤wr.heap.size:=by have:=E1.lt;omega
   have L5:Hid (∀ k,k < n0→(newLab wr o 4 k=0∨newLab wr o 4 k=5)∧(k≠cb→k≠g→newLab wr o 4 k=0)):=fun k hk=>by rw [newLab_old (by omega)];exact L1.out k hk
   have E5:=E1.step s5 id
   have Z5:=Z1.step s5 id
   have O5:=O1.step s5 id
   have A5:=A1.step s5 id id
   have C5:=C1.below b5
   have oc5:newLab wr o 4 cb=5:=(newLab_old C1.lt).trans oc1
   have og5:newLab wr o 4 g1=5:=(newLab_old hg1).trans og1
   have hg5:g1 < (wr.alloc (.cells #[.int .i64 0,.int .i64 0,.string ⟨#[]⟩,.slice none 0 0] 34)).heap.size:=by simp;omega
   have K5:=K1.trans (Kp.ofBelow b5)
   have SK5:SlN (wr.alloc (.cells #[.int .i64 0,.int .i64 0,.string ⟨#[]⟩,.slice none 0 0] 34)) (fun k=>P k∧k < n0) kks ak:=SK.belowP b5
   have x0:=(b5.cell (p:=⟨b,off+done.len * 4,none⟩) lb1).trans x0
   have x1:=(b5.cell (p:=⟨b,off+done.len * 4+1,none⟩) lb1).trans x1
   have x2:=(b5.cell (p:=⟨b,off+done.len * 4+2,none⟩) lb1).trans x2
   have x3:=(b5.cell (p:=⟨b,off+done.len * 4+3,none⟩) lb1).trans x3
   have hP5:∀ k,(P k∧k < n0)→k≠cb∧k≠g1:=fun k hp=>⟨(hP k hp.1).1,by
    rcases hgg with h | h
    ·rw [h];exact (hP k hp.1).2
    ·have:=hp.2;omega⟩
   clear hlk hk s5 E1 Z1 O1 A1 C1 oc1 og1 K1 L1 SK S1 hg1
   go_upto_region 6 with fail
   clear b5
   generalize newLab wr o 4=o5 at *
   generalize wr.alloc (.cells #[.int .i64 0,.int .i64 0,.string ⟨#[]⟩,.slice none 0 0] 34)=w5 at *
   generalize wr.heap.size=xb at *
   clear p0 p1 p2 p3 pf
   obtain ⟨q0,q1,q2,q3,qf⟩:=box4 X5.1
   obtain ⟨p0,p1,p2,p3,pf⟩:=box4 E5.1
   by_cases hA:e.k=21∧done.len=1
   ·have hk21:(e.k == 21)=true:=by simpa using hA.1
    have hd1:((done.len:Int) == 1)=true:=by simp;omega
    have hspot:spotH e.k done.len ar rc=(ar+1,ar+1):=by unfold spotH;rw [if_pos hA]
    clear hA
    have HA2:Hid (acc.app (Fs.ex (hstE ⟨kk,kn,km,ka,kks⟩ (ar+1) (ar+1) c1).1 (hstF kr e.k (done.len+1) ar rc (hstE ⟨kk,kn,km,ka,kks⟩ (ar+1) (ar+1) c1).2).1)=F∧(hstF kr e.k (done.len+1) ar rc (hstE ⟨kk,kn,km,ka,kks⟩ (ar+1) (ar+1) c1).2).2=C):=by
     have h:=HA.out
     rw [hst_cons,hspot] at h
     exact h
    have hcn:=hstE_len256 ⟨kk,kn,km,ka,kks⟩ (ar+1) (ar+1) c1 hc1
    have hc0:=IH ⟨kk,kn,km,ka,kks⟩ ak ck (ar+1) (ar+1) c1 cb g1 (fun k=>P k∧k < n0) w5 (by show kks.size < N;omega) hfk ⟨hnk.1,hnk.2.1⟩ (by omega) (by show _+(kks.size:Int)+2≤1000000000;omega) hc1 hg5 hP5 C5 SK5
    rw [exN_out] at hc0
    simp only at hc0
    generalize hstE ⟨kk,kn,km,ka,kks⟩ (ar+1) (ar+1) c1=hh at *
    obtain ⟨y,c2⟩:=hh
    simp only at hc0 HA2 hcn
    clear hspot HA hsz hfk hnk SK5
    go_wp2_with fail
    refine hc0.mono ?_
    rintro x w6 ⟨g6,ay,cy,rfl,S6,C6,hg6a,hg6,K6⟩
    obtain ⟨o6,ho6⟩:∃ o6:Nat→Nat,o6=fun k=>if k < w5.heap.size then o5 k else if k=g6 then 5 else 0:=⟨_,rfl⟩
    have s6:Step (fun k=>k=5) w5 o5 w6 o6:=⟨K6.os,K6.tape,K6.output,K6.size,fun k hk=>by rw [ho6];simp only;rw [if_pos hk],fun k hk hn=>K6.block k hk (fun e=>hn (by rw [e];exact oc5)) (fun e=>hn (by rw [e];exact og5))⟩
    have oc6:o6 cb=5:=(s6.lab cb C5.lt).trans oc5
    have og6:o6 g6=5:=by
     rcases hg6a with h | h
     ·rw [h]
      exact (s6.lab g1 hg5).trans og5
     ·rw [ho6]
      simp only
      rw [if_neg (by omega)]
      simp
    have hn5:n0≤w5.heap.size:=by have:=E5.lt;omega
    have T6:SlN w6 (PD P n0 o6) y.kids ay:=S6.mono (fun _ _ _=>rfl) (Nat.le_refl _) (fun k hp _=>by
     rcases hp with hp | hp
     ·refine ⟨?_,.inl hp.1⟩
      rw [s6.lab k hp.2]
      exact (L5.out k hp.1.2).2 (hP k hp.1.1).1 (hP k hp.1.1).2
     ·refine ⟨?_,.inr (by have:=hp.1;omega)⟩
      rw [ho6]
      simp only
      rw [if_neg (by have:=hp.1;omega),if_neg hp.2])
    have E6:=E5.step s6 (by decide)
    have Z6:=Z5.step s6 (by decide)
    have O6:=O5.step s6 (by decide)
    have X6:=X5.step s6 (by decide)
    have A6:=A5.step s6 (by decide) (by decide)
    have L6:Hid (∀ k,k < n0→(o6 k=0∨o6 k=5)∧(k≠cb→k≠g→o6 k=0)):=fun k hk=>by rw [s6.lab k (by omega)];exact L5.out k hk
    have K6w:=K5.to K6 (by rcases hgg with h | h;exact .inl h;exact .inr (by rw [←HB.out];exact h))
    have hg6n:g6=g∨n0≤g6:=by
     rcases hg6a with h | h
     ·rw [h];exact hgg
     ·exact .inr (by omega)
    clear hc0 S6 s6 ho6 E5 Z5 O5 A5 L5 K5 K6 C5 oc5 og5 hg5 hg6a q0 q1 q2 q3 qf X5 hgg p0 p1 p2 p3 pf hP5
    obtain ⟨q0,q1,q2,q3,qf⟩:=box4 X6.1
    obtain ⟨w7,hw7⟩:∃ w7,w7=(((w6.setCell ⟨xb,0,none⟩ (.int .i64 y.k)).setCell ⟨xb,1,none⟩ (.int .i64 y.n)).setCell ⟨xb,2,none⟩ (stv y.nm)).setCell ⟨xb,3,none⟩ (.slice ay y.kids.len cy):=⟨_,rfl⟩
    have s7:Step (fun k=>k=4) w6 o6 w7 o6:=by rw [hw7];exact set4Step _ _ _ _ X6.2
    have X7:w7.heap[xb]?=some (.cells #[.int .i64 y.k,.int .i64 y.n,stv y.nm,.slice ay y.kids.len cy] 34 (0,0)):=by rw [hw7];exact set4k X6.1
    have T7:=T6.labD s7 (by decide)
    have E7:=E6.step s7 (by decide)
    have Z7:=Z6.step s7 (by decide)
    have O7:=O6.step s7 (by decide)
    have A7:=A6.step s7 (by decide) (by decide)
    have C7:=C6.step s7 (by rw [oc6];decide) (by rw [og6];decide)
    have K7:=K6w.step s7 (fun k hk=>by rcases (L6.out k (by rw [HB.out];exact hk)).1 with h | h <;> omega)
    have hg7:g6 < w7.heap.size:=Nat.lt_of_lt_of_le hg6 s7.size
    have hs7:n0≤w7.heap.size:=by have:=E7.lt;omega
    rw [exN_out]
    go_upto_region 9 with fail
    rw [←hw7]
    clear hw7 s7 T6 E6 Z6 O6 A6 C6 K6w q0 q1 q2 q3 qf X6 hg6
    obtain ⟨q0,q1,q2,q3,qf⟩:=box4 X7
    obtain ⟨p0,p1,p2,p3,pf⟩:=box4 O7.1
    have s8:=boxStep (fun _=>False) w7 o6 (.cells #[.int .i64 y.k,.int .i64 y.n,stv y.nm,.slice ay y.kids.len cy] 34)
    have b8:Below w7.heap.size w7 (w7.alloc (.cells #[.int .i64 y.k,.int .i64 y.n,stv y.nm,.slice ay y.kids.len cy] 34)):=(Below.refl _ w7).alloc (Nat.le_refl _) _
    have T8:=T7.labD s8 id
    have L8:Hid (∀ k,k < n0→(newLab w7 o6 0 k=0∨newLab w7 o6 0 k=5)∧(k≠cb→k≠g→newLab w7 o6 0 k=0)):=fun k hk=>by rw [newLab_old (by omega)];exact L6.out k hk
    have E8:=E7.step s8 id
    have Z8:=Z7.step s8 id
    have O8:=O7.step s8 id
    have A8:=A7.step s8 id id
    have C8:=C7.below b8
    have oc8:newLab w7 o6 0 cb=5:=(newLab_old C7.lt).trans oc6
    have og8:newLab w7 o6 0 g6=5:=(newLab_old hg7).trans og6
    have K8:=K7.trans (Kp.ofBelow b8)
    obtain ⟨xs,R8,F8,-⟩:=A8
    obtain ⟨a8,c8,rfl⟩:=R8.form
    have b1:acc.len+1≤maxLen:=by have:=hal.out;unfold maxLen;omega
    have b2:(acc.len+1) * 56≤140737488355328:=by have:=hal.out;omega
    have hone:∀ u ∈ [Value.int .i64 y.k,.int .i64 y.n,stv y.nm,.slice ay y.kids.len cy],u.oneCell'=true:=by intro u hu;simp at hu;rcases hu with rfl | rfl | rfl | rfl <;> rfl
    have hne2:∀ k,k < n0→newLab w7 o6 0 k≠2:=fun k hk=>by rcases (L8.out k hk).1 with h | h <;> omega
    have hw8:n0≤(w7.alloc (.cells #[.int .i64 y.k,.int .i64 y.n,stv y.nm,.slice ay y.kids.len cy] 34)).heap.size:=by simp;omega
    have hg8:g6 < (w7.alloc (.cells #[.int .i64 y.k,.int .i64 y.n,stv y.nm,.slice ay y.kids.len cy] 34)).heap.size:=by simp;omega
    have hcb7:=C7.lt
    clear E7 Z7 O7 A7 C7 oc6 og6 L6 T7 s8 b8 K7 X7
    go_wp2_with (first | (at_builtin;refine wpList_append_lab rfl (.tmp 55) (.tmp 57) 32 rfl 34 ii _ 4 56 Tryz.underlying32 hii hzi0 hzi1 hzi2 rfl (by decide) (newLab w7 o6 0) 2 _ acc.len xs rfl R8 ⟨w7.heap.size,0,none⟩ 1 1 [Value.int .i64 y.k,.int .i64 y.n,stv y.nm,.slice ay y.kids.len cy] rfl rfl (new_cells_at w7 _ _) hone (by decide) b1 b2 ?_) | go_in)
    intro g9 c9 w9 o9 r9 s9
    have A9:AccD w9 o9 P n0 (acc.snoc y) (.slice (some ⟨g9,0,none⟩) (acc.len+1) c9):=AccD.push F8 T8 s9 hne2 hw8 r9
    have E9:=E8.step s9 (by decide)
    have Z9:=Z8.step s9 (by decide)
    have O9:=O8.step s9 (by decide)
    have C9:=C8.step s9 (by rw [oc8];decide) (by rw [og8];decide)
    have oc9:o9 cb=5:=(s9.lab cb (by simp;omega)).trans oc8
    have og9:o9 g6=5:=(s9.lab g6 hg8).trans og8
    have L9:Hid (∀ k,k < n0→(o9 k=0∨o9 k=5)∧(k≠cb→k≠g→o9 k=0)):=fun k hk=>by rw [s9.lab k (by omega)];exact L8.out k hk
    have K9:=K8.step s9 (fun k hk=>hne2 k (by rw [HB.out];exact hk))
    have hg9:g6 < w9.heap.size:=Nat.lt_of_lt_of_le hg8 s9.size
    have s10:Step (fun k=>k=1) w9 o9 (w9.setCell ⟨n0+1+1,3,none⟩ (.slice (some ⟨g9,0,none⟩) (acc.len+1) c9)) o9:=setStep _ w9 o9 ⟨n0+1+1,3,none⟩ _ O9.2
    have A10:=A9.step s10 (by decide) (by decide)
    have E10:=E9.step s10 (by decide)
    have Z10:=Z9.step s10 (by decide)
    have O10:=O9.set 3 (.slice (some ⟨g9,0,none⟩) (acc.len+1) c9)
    have C10:=C9.step s10 (by rw [oc9];decide) (by rw [og9];decide)
    have K10:=K9.step s10 (fun k hk=>by rcases (L9.out k (by rw [HB.out];exact hk)).1 with h | h <;> omega)
    have hg10:g6 < (w9.setCell ⟨n0+1+1,3,none⟩ (.slice (some ⟨g9,0,none⟩) (acc.len+1) c9)).heap.size:=by simpa using hg9
    obtain ⟨t0,t1,t2,t3,tf⟩:=box4 O9.1
    have HA3:Hid ((acc.snoc y).app (hstF kr e.k (done.snoc ⟨kk,kn,km,ka,kks⟩).len ar rc c2).1=F∧(hstF kr e.k (done.snoc ⟨kk,kn,km,ka,kks⟩).len ar rc c2).2=C):=by
     rw [Fs.len_snoc]
     refine ⟨?_,HA2.out.2⟩
     rw [←HA2.out.1]
     unfold Fs.snoc
     rw [Fs.app_assoc]
     rfl
    have hal2:Hid ((acc.snoc y).len=(done.snoc ⟨kk,kn,km,ka,kks⟩).len):=by show _=_;rw [Fs.len_snoc,Fs.len_snoc,hal.out]
    clear E8 Z8 O8 C8 oc8 og8 L8 K8 T8 R8 F8 r9 s9 hne2 HA2 A9 E9 Z9 O9 C9 K9 s10 p0 p1 p2 p3 pf q0 q1 q2 q3 qf hg9
    go_wp2
    go_roundw
    case rel=>(try ((repeat apply Exists.intro);refine ⟨?_,rfl⟩));exact ⟨_,kr,_,o9,_,c2,g6,hk2,by rw [←hl2],hal2,HA3,hcn,E10,Z10,O10,A10,C10,oc9,og9,hg6n,hg10,L9,K10⟩
    case measure=>simp [intOf];omega
   ·have hgd:(e.k == 21)=false∨((e.k == 21)=true∧((done.len:Int) == 1)=false):=by
     rcases Classical.em (e.k=21) with h21 | h21
     ·exact .inr ⟨by simpa using h21,by have h3:done.len≠1:=fun h=>hA ⟨h21,h⟩;simp;omega⟩
     ·exact .inl (by simpa using h21)
    have hspot:spotH e.k done.len ar rc=(ar,rc):=by unfold spotH;rw [if_neg hA]
    clear hA
    rcases hgd with hk21 | ⟨hk21,hd1⟩
    all_goals (
     have HA2:Hid (acc.app (Fs.ex (hstE ⟨kk,kn,km,ka,kks⟩ (ar) (rc) c1).1 (hstF kr e.k (done.len+1) ar rc (hstE ⟨kk,kn,km,ka,kks⟩ (ar) (rc) c1).2).1)=F∧(hstF kr e.k (done.len+1) ar rc (hstE ⟨kk,kn,km,ka,kks⟩ (ar) (rc) c1).2).2=C):=by
      have h:=HA.out
      rw [hst_cons,hspot] at h
      exact h
     have hcn:=hstE_len256 ⟨kk,kn,km,ka,kks⟩ (ar) (rc) c1 hc1
     have hc0:=IH ⟨kk,kn,km,ka,kks⟩ ak ck (ar) (rc) c1 cb g1 (fun k=>P k∧k < n0) w5 (by show kks.size < N;omega) hfk ⟨hnk.1,hnk.2.1⟩ (by omega) (by show _+(kks.size:Int)+2≤1000000000;omega) hc1 hg5 hP5 C5 SK5
     rw [exN_out] at hc0
     simp only at hc0
     generalize hstE ⟨kk,kn,km,ka,kks⟩ (ar) (rc) c1=hh at *
     obtain ⟨y,c2⟩:=hh
     simp only at hc0 HA2 hcn
     clear hspot HA hsz hfk hnk SK5
     go_wp2_with fail
     refine hc0.mono ?_
     rintro x w6 ⟨g6,ay,cy,rfl,S6,C6,hg6a,hg6,K6⟩
     obtain ⟨o6,ho6⟩:∃ o6:Nat→Nat,o6=fun k=>if k < w5.heap.size then o5 k else if k=g6 then 5 else 0:=⟨_,rfl⟩
     have s6:Step (fun k=>k=5) w5 o5 w6 o6:=⟨K6.os,K6.tape,K6.output,K6.size,fun k hk=>by rw [ho6];simp only;rw [if_pos hk],fun k hk hn=>K6.block k hk (fun e=>hn (by rw [e];exact oc5)) (fun e=>hn (by rw [e];exact og5))⟩
     have oc6:o6 cb=5:=(s6.lab cb C5.lt).trans oc5
     have og6:o6 g6=5:=by
      rcases hg6a with h | h
      ·rw [h]
       exact (s6.lab g1 hg5).trans og5
      ·rw [ho6]
       simp only
       rw [if_neg (by omega)]
       simp
     have hn5:n0≤w5.heap.size:=by have:=E5.lt;omega
     have T6:SlN w6 (PD P n0 o6) y.kids ay:=S6.mono (fun _ _ _=>rfl) (Nat.le_refl _) (fun k hp _=>by
      rcases hp with hp | hp
      ·refine ⟨?_,.inl hp.1⟩
       rw [s6.lab k hp.2]
       exact (L5.out k hp.1.2).2 (hP k hp.1.1).1 (hP k hp.1.1).2
      ·refine ⟨?_,.inr (by have:=hp.1;omega)⟩
       rw [ho6]
       simp only
       rw [if_neg (by have:=hp.1;omega),if_neg hp.2])
     have E6:=E5.step s6 (by decide)
     have Z6:=Z5.step s6 (by decide)
     have O6:=O5.step s6 (by decide)
     have X6:=X5.step s6 (by decide)
     have A6:=A5.step s6 (by decide) (by decide)
     have L6:Hid (∀ k,k < n0→(o6 k=0∨o6 k=5)∧(k≠cb→k≠g→o6 k=0)):=fun k hk=>by rw [s6.lab k (by omega)];exact L5.out k hk
     have K6w:=K5.to K6 (by rcases hgg with h | h;exact .inl h;exact .inr (by rw [←HB.out];exact h))
     have hg6n:g6=g∨n0≤g6:=by
      rcases hg6a with h | h
      ·rw [h];exact hgg
      ·exact .inr (by omega)
     clear hc0 S6 s6 ho6 E5 Z5 O5 A5 L5 K5 K6 C5 oc5 og5 hg5 hg6a q0 q1 q2 q3 qf X5 hgg p0 p1 p2 p3 pf hP5
     obtain ⟨q0,q1,q2,q3,qf⟩:=box4 X6.1
     obtain ⟨w7,hw7⟩:∃ w7,w7=(((w6.setCell ⟨xb,0,none⟩ (.int .i64 y.k)).setCell ⟨xb,1,none⟩ (.int .i64 y.n)).setCell ⟨xb,2,none⟩ (stv y.nm)).setCell ⟨xb,3,none⟩ (.slice ay y.kids.len cy):=⟨_,rfl⟩
     have s7:Step (fun k=>k=4) w6 o6 w7 o6:=by rw [hw7];exact set4Step _ _ _ _ X6.2
     have X7:w7.heap[xb]?=some (.cells #[.int .i64 y.k,.int .i64 y.n,stv y.nm,.slice ay y.kids.len cy] 34 (0,0)):=by rw [hw7];exact set4k X6.1
     have T7:=T6.labD s7 (by decide)
     have E7:=E6.step s7 (by decide)
     have Z7:=Z6.step s7 (by decide)
     have O7:=O6.step s7 (by decide)
     have A7:=A6.step s7 (by decide) (by decide)
     have C7:=C6.step s7 (by rw [oc6];decide) (by rw [og6];decide)
     have K7:=K6w.step s7 (fun k hk=>by rcases (L6.out k (by rw [HB.out];exact hk)).1 with h | h <;> omega)
     have hg7:g6 < w7.heap.size:=Nat.lt_of_lt_of_le hg6 s7.size
     have hs7:n0≤w7.heap.size:=by have:=E7.lt;omega
     rw [exN_out]
     go_upto_region 9 with fail
     rw [←hw7]
     clear hw7 s7 T6 E6 Z6 O6 A6 C6 K6w q0 q1 q2 q3 qf X6 hg6
     obtain ⟨q0,q1,q2,q3,qf⟩:=box4 X7
     obtain ⟨p0,p1,p2,p3,pf⟩:=box4 O7.1
     have s8:=boxStep (fun _=>False) w7 o6 (.cells #[.int .i64 y.k,.int .i64 y.n,stv y.nm,.slice ay y.kids.len cy] 34)
     have b8:Below w7.heap.size w7 (w7.alloc (.cells #[.int .i64 y.k,.int .i64 y.n,stv y.nm,.slice ay y.kids.len cy] 34)):=(Below.refl _ w7).alloc (Nat.le_refl _) _
     have T8:=T7.labD s8 id
     have L8:Hid (∀ k,k < n0→(newLab w7 o6 0 k=0∨newLab w7 o6 0 k=5)∧(k≠cb→k≠g→newLab w7 o6 0 k=0)):=fun k hk=>by rw [newLab_old (by omega)];exact L6.out k hk
     have E8:=E7.step s8 id
     have Z8:=Z7.step s8 id
     have O8:=O7.step s8 id
     have A8:=A7.step s8 id id
     have C8:=C7.below b8
     have oc8:newLab w7 o6 0 cb=5:=(newLab_old C7.lt).trans oc6
     have og8:newLab w7 o6 0 g6=5:=(newLab_old hg7).trans og6
     have K8:=K7.trans (Kp.ofBelow b8)
     obtain ⟨xs,R8,F8,-⟩:=A8
     obtain ⟨a8,c8,rfl⟩:=R8.form
     have b1:acc.len+1≤maxLen:=by have:=hal.out;unfold maxLen;omega
     have b2:(acc.len+1) * 56≤140737488355328:=by have:=hal.out;omega
     have hone:∀ u ∈ [Value.int .i64 y.k,.int .i64 y.n,stv y.nm,.slice ay y.kids.len cy],u.oneCell'=true:=by intro u hu;simp at hu;rcases hu with rfl | rfl | rfl | rfl <;> rfl
     have hne2:∀ k,k < n0→newLab w7 o6 0 k≠2:=fun k hk=>by rcases (L8.out k hk).1 with h | h <;> omega
     have hw8:n0≤(w7.alloc (.cells #[.int .i64 y.k,.int .i64 y.n,stv y.nm,.slice ay y.kids.len cy] 34)).heap.size:=by simp;omega
     have hg8:g6 < (w7.alloc (.cells #[.int .i64 y.k,.int .i64 y.n,stv y.nm,.slice ay y.kids.len cy] 34)).heap.size:=by simp;omega
     have hcb7:=C7.lt
     clear E7 Z7 O7 A7 C7 oc6 og6 L6 T7 s8 b8 K7 X7
     go_wp2_with (first | (at_builtin;refine wpList_append_lab rfl (.tmp 55) (.tmp 57) 32 rfl 34 ii _ 4 56 Tryz.underlying32 hii hzi0 hzi1 hzi2 rfl (by decide) (newLab w7 o6 0) 2 _ acc.len xs rfl R8 ⟨w7.heap.size,0,none⟩ 1 1 [Value.int .i64 y.k,.int .i64 y.n,stv y.nm,.slice ay y.kids.len cy] rfl rfl (new_cells_at w7 _ _) hone (by decide) b1 b2 ?_) | go_in)
     intro g9 c9 w9 o9 r9 s9
     have A9:AccD w9 o9 P n0 (acc.snoc y) (.slice (some ⟨g9,0,none⟩) (acc.len+1) c9):=AccD.push F8 T8 s9 hne2 hw8 r9
     have E9:=E8.step s9 (by decide)
     have Z9:=Z8.step s9 (by decide)
     have O9:=O8.step s9 (by decide)
     have C9:=C8.step s9 (by rw [oc8];decide) (by rw [og8];decide)
     have oc9:o9 cb=5:=(s9.lab cb (by simp;omega)).trans oc8
     have og9:o9 g6=5:=(s9.lab g6 hg8).trans og8
     have L9:Hid (∀ k,k < n0→(o9 k=0∨o9 k=5)∧(k≠cb→k≠g→o9 k=0)):=fun k hk=>by rw [s9.lab k (by omega)];exact L8.out k hk
     have K9:=K8.step s9 (fun k hk=>hne2 k (by rw [HB.out];exact hk))
     have hg9:g6 < w9.heap.size:=Nat.lt_of_lt_of_le hg8 s9.size
     have s10:Step (fun k=>k=1) w9 o9 (w9.setCell ⟨n0+1+1,3,none⟩ (.slice (some ⟨g9,0,none⟩) (acc.len+1) c9)) o9:=setStep _ w9 o9 ⟨n0+1+1,3,none⟩ _ O9.2
     have A10:=A9.step s10 (by decide) (by decide)
     have E10:=E9.step s10 (by decide)
     have Z10:=Z9.step s10 (by decide)
     have O10:=O9.set 3 (.slice (some ⟨g9,0,none⟩) (acc.len+1) c9)
     have C10:=C9.step s10 (by rw [oc9];decide) (by rw [og9];decide)
     have K10:=K9.step s10 (fun k hk=>by rcases (L9.out k (by rw [HB.out];exact hk)).1 with h | h <;> omega)
     have hg10:g6 < (w9.setCell ⟨n0+1+1,3,none⟩ (.slice (some ⟨g9,0,none⟩) (acc.len+1) c9)).heap.size:=by simpa using hg9
     obtain ⟨t0,t1,t2,t3,tf⟩:=box4 O9.1
     have HA3:Hid ((acc.snoc y).app (hstF kr e.k (done.snoc ⟨kk,kn,km,ka,kks⟩).len ar rc c2).1=F∧(hstF kr e.k (done.snoc ⟨kk,kn,km,ka,kks⟩).len ar rc c2).2=C):=by
      rw [Fs.len_snoc]
      refine ⟨?_,HA2.out.2⟩
      rw [←HA2.out.1]
      unfold Fs.snoc
      rw [Fs.app_assoc]
      rfl
     have hal2:Hid ((acc.snoc y).len=(done.snoc ⟨kk,kn,km,ka,kks⟩).len):=by show _=_;rw [Fs.len_snoc,Fs.len_snoc,hal.out]
     clear E8 Z8 O8 C8 oc8 og8 L8 K8 T8 R8 F8 r9 s9 hne2 HA2 A9 E9 Z9 O9 C9 K9 s10 p0 p1 p2 p3 pf q0 q1 q2 q3 qf hg9
     go_wp2
     go_roundw
     case rel=>(try ((repeat apply Exists.intro);refine ⟨?_,rfl⟩));exact ⟨_,kr,_,o9,_,c2,g6,hk2,by rw [←hl2],hal2,HA3,hcn,E10,Z10,O10,A10,C10,oc9,og9,hg6n,hg10,L9,K10⟩
     case measure=>simp [intOf];omega)
end Go.Proofs.YtaihhnlfcndecaaGreatDoor

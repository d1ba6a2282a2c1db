import Derived.Test.YtaihhnlfcndecaaGreatDoorHopA
namespace Go.Proofs.YtaihhnlfcndecaaGreatDoor
open Go.ChangeShapes Go.WideShapes Go.ChangeAt Go.RowKit
set_option linter.unusedVariables false
set_option linter.unusedSimpArgs false
theorem Kp.to {cb g g1:Nat} {a w w':World} (h:Kp cb g a w) (k:Kp cb g1 w w') (hg:g1=g∨a.heap.size≤g1):Kp cb g a w' :=
 ⟨k.os.trans h.os,k.tape.trans h.tape,k.output.trans h.output,Nat.le_trans h.size k.size,fun i hi h1 h2=>(k.block i (Nat.lt_of_lt_of_le hi h.size) h1 (by rcases hg with hg | hg <;> omega)).trans (h.block i hi h1 h2)⟩
def PostHo (w:World) (cb g:Nat) (y:Ex) (cs:List Int) (x:Ending) (w':World):Prop :=
 ∃ g' ao cap,x=.returned (exN y ao cap)∧SlcN w' (fun k=>w.heap.size≤k∧k≠g') y.kids ao cap∧CsB w' cb g' cs∧(g'=g∨w.heap.size≤g')∧g' < w'.heap.size∧Kp cb g w w'
def HoOk (F:Nat) (hst:Ex→Int→Int→List Int→Ex × List Int) (N:Nat):Prop:=∀ (e:Ex) (ao:Option Addr) (cap:Nat) (ar rc:Int) (cs:List Int) (cb g:Nat) (w:World),e.kids.size < N→FitN e→e.nv→e.q2→0≤ar→ar+e.kids.size+2≤1000000000→cs.length≤256→g < w.heap.size→CsB w cb g cs→SlN w (Nf2 cb g) e.kids ao →
 Calls Tryz.prog F #[.agg #[.func (.func 49) #[] #[.pointer (some ⟨cb,0,none⟩)]],exN e ao cap,.int .i64 ar,.int .i64 rc] w (PostHo w cb g (hst e ar rc cs).1 (hst e ar rc cs).2)
abbrev ThrOk (N:Nat):Prop:=HoOk 50 hstE N
abbrev InsOk (N:Nat):Prop:=HoOk 81 hstK N
theorem hstF_len256:∀ (f:Fs) (pk:Int) (i:Nat) (ar rc:Int) (cs:List Int),cs.length≤256→(hstF f pk i ar rc cs).2.length≤256
 | ⟨none⟩,pk,i,ar,rc,cs,h=>h
 | ⟨some ⟨k,n,nm,a,ks,r⟩⟩,pk,i,ar,rc,cs,h=>by
  unfold hstF
  simp only
  split
  ·exact hstF_len256 r pk (i+1) ar rc cs h
  ·split
   ·rename_i h2
    have h3:cs.length < 256:=by simp [opnH] at h2;omega
    exact hstF_len256 r pk (i+1) ar rc _ (hstF_len256 ks k 0 _ _ _ (by simp;omega))
   ·exact hstF_len256 r pk (i+1) ar rc _ (hstF_len256 ks k 0 _ _ _ h)
theorem hstE_len256 (e:Ex) (ar rc:Int) (cs:List Int) (h:cs.length≤256):(hstE e ar rc cs).2.length≤256:=by
 unfold hstE hstK
 split
 ·exact h
 ·split
  ·rename_i h2
   have h3:cs.length < 256:=by simp [opnH] at h2;omega
   exact hstF_len256 _ _ _ _ _ _ (by simp;omega)
  ·exact hstF_len256 _ _ _ _ _ _ h
theorem Fs.app_q2:∀ {x y:Fs},(x.app y).q2→y.q2
 | ⟨none⟩,y,h=>h
 | ⟨some ⟨k,n,nm,a,ks,r⟩⟩,y,h=>Fs.app_q2 (x:=r) h.2.2
set_option maxRecDepth 100000 in
set_option maxHeartbeats 8000000 in
theorem inside_step {N:Nat} (IH:ThrOk N):InsOk (N+1):=by
 intro e ao cap ar rc cs cb g w hN hf hnv hq2 ha0 ha1 hcs hg HC S
 obtain ⟨F,hF⟩:∃ F,F=(hstF e.kids e.k 0 ar rc cs).1:=⟨_,rfl⟩
 obtain ⟨C,hC⟩:∃ C,C=(hstF e.kids e.k 0 ar rc cs).2:=⟨_,rfl⟩
 have HFC:Hid (F=(hstF e.kids e.k 0 ar rc cs).1∧C=(hstF e.kids e.k 0 ar rc cs).2):=⟨hF,hC⟩
 unfold hstK
 simp only
 rw [←hF,←hC]
 clear hF hC
 have hlen:=hf.len
 obtain ⟨ii,hii,hzi0,hzi1,hzi2⟩:=info_parts infoNode
 obtain ⟨w0,hw0⟩:∃ w0,w0=((w.alloc (.cells #[.func (.func 49) #[] #[.pointer (some ⟨cb,0,none⟩)]] 75)).alloc (.cells #[.int .i64 e.k,.int .i64 e.n,stv e.nm,.slice ao e.kids.len cap] 34)).alloc (.cells #[.int .i64 0,.int .i64 0,.string ⟨#[]⟩,.slice none 0 0] 34):=⟨_,rfl⟩
 have B0:Below w.heap.size w w0:=by rw [hw0];exact (((Below.refl _ w).alloc (Nat.le_refl _) _).alloc (by simp) _).alloc (by simp;omega) _
 have hcb:=HC.lt
 obtain ⟨o0,ho0⟩:∃ o0:Nat→Nat,o0=fun k=>if k=cb∨k=g then 5 else if k=w.heap.size+1 then 1 else if k=w.heap.size+1+1 then 3 else 0:=⟨_,rfl⟩
 have W0:Blk w0 o0 0 w.heap.size (.cells #[.func (.func 49) #[] #[.pointer (some ⟨cb,0,none⟩)]] 75):=by
  refine ⟨?_,by rw [ho0];simp only;rw [if_neg (by omega),if_neg (by omega),if_neg (by omega)]⟩
  rw [hw0]
  exact (Below.heap_alloc _ _ _ (by simp;omega)).trans ((Below.heap_alloc _ _ _ (by simp)).trans (heap_alloc_new w _))
 have E0:Blk w0 o0 1 (w.heap.size+1) (.cells #[.int .i64 e.k,.int .i64 e.n,stv e.nm,.slice ao e.kids.len cap] 34):=by
  refine ⟨?_,by rw [ho0];simp only;rw [if_neg (by omega)];simp⟩
  rw [hw0]
  refine (Below.heap_alloc _ _ _ (by simp)).trans ?_
  have:=heap_alloc_new (w.alloc (.cells #[.func (.func 49) #[] #[.pointer (some ⟨cb,0,none⟩)]] 75)) (.cells #[.int .i64 e.k,.int .i64 e.n,stv e.nm,.slice ao e.kids.len cap] 34)
  simpa using this
 have Z0:Blk w0 o0 3 (w.heap.size+1+1) (.cells #[.int .i64 0,.int .i64 0,.string ⟨#[]⟩,.slice none 0 0] 34):=by
  refine ⟨?_,by rw [ho0];simp only;rw [if_neg (by omega),if_neg (by omega)];simp⟩
  rw [hw0]
  have:=heap_alloc_new ((w.alloc (.cells #[.func (.func 49) #[] #[.pointer (some ⟨cb,0,none⟩)]] 75)).alloc (.cells #[.int .i64 e.k,.int .i64 e.n,stv e.nm,.slice ao e.kids.len cap] 34)) (.cells #[.int .i64 0,.int .i64 0,.string ⟨#[]⟩,.slice none 0 0] 34)
  simpa using this
 have oc0:o0 cb=5:=by rw [ho0];simp
 have og0:o0 g=5:=by rw [ho0];simp
 have L0:∀ k,k < w.heap.size→o0 k=0∨o0 k=5:=fun k hk=>by
  rw [ho0]
  simp only
  split
  ·exact .inr rfl
  ·rw [if_neg (by omega),if_neg (by omega)];exact .inl rfl
 have A0:=AccCn.nil w0 o0 w.heap.size
 have C0:=HC.below B0
 have K0:Kp cb g w w0:=Kp.ofBelow B0
 have hg0:g < w0.heap.size:=Nat.lt_of_lt_of_le hg B0.size
 rw [exN_out]
 go_enter Tryz.func81,Tryz.ntmps81
 go_upto_region 1 with fail
 rw [←hw0]
 clear hw0 ho0
 obtain ⟨n0,hn0⟩:∃ n0,n0=w.heap.size:=⟨_,rfl⟩
 unfold PostHo
 rw [←hn0] at W0 E0 Z0 L0 A0 hg hcb ⊢
 have HB:Hid (n0=w.heap.size):=hn0
 clear hn0 B0 HC
 obtain ⟨p0,p1,p2,p3,pf⟩:=box4 E0.1
 go_wp2
 go_loopw [2,3,9,15] (fun v2 v3 v9 v15 wr=>∃ (done r acc:Fs) (o:Nat→Nat) (a1 r1:Int) (c1:List Int) (g1:Nat),Hid (e.kids=done.app r)∧v15=.int .i64 (done.len:Nat)∧v2=.int .i64 a1∧v3=.int .i64 r1∧Hid ((e.k≠21∨done.len≤1)→a1=ar∧r1=rc)∧Hid (acc.len=done.len)∧Hid (acc.app (hstF r e.k done.len ar rc c1).1=F∧(hstF r e.k done.len ar rc c1).2=C)∧c1.length≤256∧Blk wr o 0 n0 (.cells #[.func (.func 49) #[] #[.pointer (some ⟨cb,0,none⟩)]] 75)∧Blk wr o 1 (n0+1) (.cells #[.int .i64 e.k,.int .i64 e.n,stv e.nm,.slice ao e.kids.len cap] 34)∧Blk wr o 3 (n0+1+1) (.cells #[.int .i64 0,.int .i64 0,.string ⟨#[]⟩,.slice none 0 0] 34)∧AccCn wr o n0 acc v9∧CsB wr cb g1 c1∧o cb=5∧o g1=5∧(g1=g∨n0≤g1)∧g1 < wr.heap.size∧Hid (∀ k,k < n0→o k=0∨o k=5)∧Kp cb g w wr) (fun _ _ _ v15 _=>e.kids.len - (intOf v15).toNat)
 case atStart=>exact ⟨.nil,e.kids,.nil,o0,ar,rc,cs,g,rfl,by show _=Value.int .i64 ((0:Nat):Int);rfl,rfl,rfl,fun _=>⟨rfl,rfl⟩,rfl,⟨HFC.out.1.symm,HFC.out.2.symm⟩,hcs,W0,E0,Z0,A0,C0,oc0,og0,.inl rfl,hg0,L0,K0⟩
 case round =>
  clear W0 E0 Z0 A0 C0 oc0 og0 hg0 L0 K0 HFC p0 p1 p2 p3 pf
  obtain ⟨done,r,acc,o,a1,r1,c1,g1,hk,rfl,rfl,rfl,hsp,hal,HA,hc1,W1,E1,Z1,A1,C1,oc1,og1,hgg,hg1,L1,K1⟩:=hrel
  have hlk:e.kids.len=done.len+r.len:=by rw [hk.out,Fs.len_app]
  obtain ⟨p0,p1,p2,p3,pf⟩:=box4 E1.1
  obtain ⟨z0,z1,z2,z3,zf⟩:=box4 Z1.1
  cases r using Fs.on with
  | nil =>
   have hl0:¬ (done.len:Int) < (e.kids.len:Int):=by simp only [Fs.len] at hlk;omega
   have HDN:Hid (acc=F∧c1=C):=by
    obtain ⟨h1,h2⟩:=HA.out
    refine ⟨?_,h2⟩
    rw [←h1]
    exact (app_nil' acc).symm
   obtain ⟨ad,cd,rfl,SD⟩:=A1.slc
   have sA:Step (fun k=>k=1) wr o (wr.setCell ⟨n0+1,3,none⟩ (.slice ad acc.len cd)) o:=setStep _ wr o ⟨n0+1,3,none⟩ _ E1.2
   have EA:=E1.set 3 (.slice ad acc.len cd)
   have ZA:=Z1.step sA (by decide)
   have SA:=SD.mono (w':=wr.setCell ⟨n0+1,3,none⟩ (.slice ad acc.len cd)) (fun i hp hl=>sA.block i hl (by rcases hp.2 with h | h <;> omega)) sA.size (fun _ h _=>h)
   have CA:=C1.step sA (by rw [oc1];decide) (by rw [og1];decide)
   have KA:=K1.step sA (fun k hk=>by rcases L1.out k (by rw [HB.out];exact hk) with h | h <;> omega)
   have hgA:g1 < (wr.setCell ⟨n0+1,3,none⟩ (.slice ad acc.len cd)).heap.size:=by simpa using hg1
   clear sA SD hk hlk
   go_upto_region 11 with fail
   generalize wr.setCell ⟨n0+1,3,none⟩ (.slice ad acc.len cd)=wa at *
   clear p0 p1 p2 p3 pf z0 z1 z2 z3 zf E1 Z1 A1 C1 K1 W1 hg1
   obtain ⟨we,hwe⟩:∃ we,we=(((wa.setCell ⟨n0+1+1,0,none⟩ (.int .i64 e.k)).setCell ⟨n0+1+1,1,none⟩ (.int .i64 e.n)).setCell ⟨n0+1+1,2,none⟩ (stv e.nm)).setCell ⟨n0+1+1,3,none⟩ (.slice ad acc.len cd):=⟨_,rfl⟩
   have hblk:∀ k,k≠n0+1+1→we.heap[k]?=wa.heap[k]?:=fun k hk=>by rw [hwe];exact heap_set4 wa (n0+1+1) k _ _ _ _ hk
   have hsize:we.heap.size=wa.heap.size:=by rw [hwe];simp
   have sE:Step (fun k=>k=3) wa o we o:=⟨by rw [hwe];rfl,by rw [hwe];rfl,by rw [hwe];rfl,by omega,fun _ _=>rfl,fun k hk hn=>hblk k (fun e=>hn (by rw [e];exact ZA.2))⟩
   have SE:SlcN we (fun k=>n0≤k∧k≠g1) acc ad cd:=SA.mono (fun i hp hl=>sE.block i hl (by rcases hp.2 with h | h <;> omega)) (by omega) (fun i hp _=>⟨hp.1,fun e=>by rw [e,og1] at hp;rcases hp.2 with h | h <;> cases h⟩)
   have CE:=CA.step sE (by rw [oc1];decide) (by rw [og1];decide)
   have KE:=KA.step sE (fun k hk=>by rcases L1.out k (by rw [HB.out];exact hk) with h | h <;> omega)
   have ZE:we.heap[n0+1+1]?=some (.cells #[.int .i64 e.k,.int .i64 e.n,stv e.nm,.slice ad acc.len cd] 34 (0,0)):=by rw [hwe];exact set4k ZA.1
   have HU:Hid (we.cell? ⟨n0+1+1,0,none⟩=some (.int .i64 e.k)∧we.cell? ⟨n0+1+1,1,none⟩=some (.int .i64 e.n)∧we.cell? ⟨n0+1+1,2,none⟩=some (stv e.nm)∧we.cell? ⟨n0+1+1,3,none⟩=some (.slice ad acc.len cd)∧SlcN we (fun k=>n0≤k∧k≠g1) acc ad cd∧CsB we cb g1 c1∧g1 < we.heap.size∧Kp cb g w we):=by
    obtain ⟨u0,u1,u2,u3,-⟩:=box4 ZE
    exact ⟨u0,u1,u2,u3,SE,CE,by omega,KE⟩
   have EA1:wa.heap[n0+1]?=some (.cells #[.int .i64 e.k,.int .i64 e.n,stv e.nm,.slice ad acc.len cd] 34 (0,0)):=EA.1
   obtain ⟨u0,u1,u2,u3,uf⟩:=box4 EA1
   obtain ⟨z0,z1,z2,z3,zf⟩:=box4 ZA.1
   clear SE CE KE ZE EA EA1 ZA SA CA KA sE hblk hsize hgA
   have HWE:Hid (we=(((wa.setCell ⟨n0+1+1,0,none⟩ (.int .i64 e.k)).setCell ⟨n0+1+1,1,none⟩ (.int .i64 e.n)).setCell ⟨n0+1+1,2,none⟩ (stv e.nm)).setCell ⟨n0+1+1,3,none⟩ (.slice ad acc.len cd)):=hwe
   clear hwe
   go_wp2
   rw [←HWE.out]
   obtain ⟨v0,v1,v2,v3,SZ,CZ,hgz,KZ⟩:=HU.out
   clear HU HWE
   refine bodyPost_ret (v:=exN ⟨e.k,e.n,e.nm,e.a,F⟩ ad cd) (by simp [results,Tryz.results81,go_sem,v0,v1,v2,v3,exN,←HDN.out.1]) rfl ⟨g1,ad,cd,rfl,by rw [←HDN.out.1,←HB.out];exact SZ,by rw [←HDN.out.2];exact CZ,by rw [←HB.out];exact hgg,hgz,KZ⟩
  | cons kk kn km ka kks kr =>
   have hl0:(done.len:Int) < (e.kids.len:Int):=by simp only [Fs.len] at hlk;omega
   have hl1:done.len < e.kids.len:=by omega
   have hsz:e.kids.size=done.size+(kks.size+kr.size+1):=by rw [hk.out,Fs.size_app];rfl
   have hfk:FitN ⟨kk,kn,km,ka,kks⟩:=hf.kid (d:=done) (r:=kr) hk.out
   have hnk:(Fs.cons kk kn km ka kks kr).nv:=(Fs.app_nv (x:=done) (by rw [←hk.out];exact hnv.2)).2
   have hqk:(Fs.cons kk kn km ka kks kr).q2:=Fs.app_q2 (x:=done) (by rw [←hk.out];exact hq2.2)
   have S1:SlN wr (fun k=>k < n0∧k≠cb∧k≠g) e.kids ao:=S.mono (fun k hp hl=>K1.block k hl hp.1 hp.2) K1.size (fun k hp hl=>⟨by rw [HB.out];exact hl,hp.1,hp.2⟩)
   obtain ⟨b,off,ak,ck,hao,lb1,-,x0,x1,x2,x3,SK⟩:=SlN.kidQ (by rw [←hk.out];exact S1)
   subst hao
   have hk2:Hid (e.kids=(done.snoc ⟨kk,kn,km,ka,kks⟩).app kr):=by show e.kids=_;rw [hk.out];unfold Fs.snoc;rw [Fs.app_assoc];rfl
   have hl2:(done.len:Int)+1=((done.snoc ⟨kk,kn,km,ka,kks⟩).len:Nat):=by rw [Fs.len_snoc];rfl
   have s5:=boxStep (fun _=>False) wr o (.cells #[.int .i64 kk,.int .i64 kn,stv km,.slice ak kks.len ck] 34)
   have X5:=boxBlk wr o #[.int .i64 kk,.int .i64 kn,stv km,.slice ak kks.len ck] 34
   have b5:Below wr.heap.size wr (wr.alloc (.cells #[.int .i64 kk,.int .i64 kn,stv km,.slice ak kks.len ck] 34)):=(Below.refl _ wr).alloc (Nat.le_refl _) _
   have hn0:n0≤wr.heap.size:=by have:=E1.lt;omega
   have L5:Hid (∀ k,k < n0→newLab wr o 0 k=0∨newLab wr o 0 k=5):=fun k hk=>by rw [newLab_old (by omega)];exact L1.out k hk
   have W5:=W1.step s5 id
   have E5:=E1.step s5 id
   have Z5:=Z1.step s5 id
   have A5:=A1.step s5 id id
   have C5:=C1.below b5
   have oc5:newLab wr o 0 cb=5:=(newLab_old C1.lt).trans oc1
   have og5:newLab wr o 0 g1=5:=(newLab_old hg1).trans og1
   have hg5:g1 < (wr.alloc (.cells #[.int .i64 kk,.int .i64 kn,stv km,.slice ak kks.len ck] 34)).heap.size:=by simp;omega
   have K5:=K1.trans (Kp.ofBelow b5)
   have SK5:SlN (wr.alloc (.cells #[.int .i64 kk,.int .i64 kn,stv km,.slice ak kks.len ck] 34)) (Nf2 cb g1) kks ak:=SK.mono (fun i _ hl=>b5.block i hl) b5.size (fun k hp _=>⟨hp.2.1,by rcases hgg with h | h;rw [h];exact hp.2.2;have:=hp.1;omega⟩)
   clear hlk hk s5 b5 W1 E1 Z1 A1 C1 oc1 og1 K1 L1 SK S1 p0 p1 p2 p3 pf z0 z1 z2 z3 zf hg1
   go_upto_region 5 with fail
   generalize newLab wr o 0=o5 at *
   generalize wr.alloc (.cells #[.int .i64 kk,.int .i64 kn,stv km,.slice ak kks.len ck] 34)=w5 at *
   generalize wr.heap.size=xb at *
   clear x0 x1 x2 x3
   obtain ⟨q0,q1,q2,q3,qf⟩:=box4 X5.1
   obtain ⟨p0,p1,p2,p3,pf⟩:=box4 E5.1
   have ws0:w5.cell? ⟨n0,0,none⟩=some (.func (.func 49) #[] #[.pointer (some ⟨cb,0,none⟩)]):=by rw [cell_of_row _ _ _ _ _ _ W5.1];rfl
   by_cases hA:e.k=21∧done.len=1
   ·have hk21:(e.k == 21)=true:=by simpa using hA.1
    have hd1:((done.len:Int) == 1)=true:=by simp;omega
    obtain ⟨hs1,hs2⟩:=hsp.out (.inr (by omega))
    obtain rfl:ar=a1:=hs1.symm
    obtain rfl:rc=r1:=hs2.symm
    have HHA:Hid (e.k=21∧done.len=1):=hA
    clear hA hs1 hs2
    have hspot:spotH e.k done.len ar rc=(ar+1,ar+1):=by unfold spotH;rw [if_pos HHA.out]
    have HA2:Hid (acc.app (Fs.ex (hstE ⟨kk,kn,km,ka,kks⟩ (ar+1) (ar+1) c1).1 (hstF kr e.k (done.len+1) ar rc (hstE ⟨kk,kn,km,ka,kks⟩ (ar+1) (ar+1) c1).2).1)=F∧(hstF kr e.k (done.len+1) ar rc (hstE ⟨kk,kn,km,ka,kks⟩ (ar+1) (ar+1) c1).2).2=C):=by
     have h:=HA.out
     rw [hst_cons,hspot] at h
     exact h
    have hsp2:Hid ((e.k≠21∨(done.snoc ⟨kk,kn,km,ka,kks⟩).len≤1)→(ar+1:Int)=ar∧(ar+1:Int)=rc):=by
     rw [Fs.len_snoc]
     intro h;rcases h with h | h;exact absurd HHA.out.1 h;have:=HHA.out;omega
    have hcn:=hstE_len256 ⟨kk,kn,km,ka,kks⟩ (ar+1) (ar+1) c1 hc1
    have hc0:=IH ⟨kk,kn,km,ka,kks⟩ ak ck (ar+1) (ar+1) c1 cb g1 w5 (by show kks.size < N;omega) hfk ⟨hnk.1,hnk.2.1⟩ ⟨hqk.1,hqk.2.1⟩ (by omega) (by show _+(kks.size:Int)+2≤1000000000;omega) hc1 hg5 C5 SK5
    rw [exN_out] at hc0
    simp only at hc0
    generalize hstE ⟨kk,kn,km,ka,kks⟩ (ar+1) (ar+1) c1=hh at *
    obtain ⟨y,c2⟩:=hh
    simp only at hc0 HA2 hcn
    clear hspot HA hsz hfk hnk hqk SK5 hsp
    go_wp2_with fail
    refine hc0.mono ?_
    rintro x w6 ⟨g6,ay,cy,rfl,S6,C6,hg6a,hg6,K6⟩
    obtain ⟨o6,ho6⟩:∃ o6:Nat→Nat,o6=fun k=>if k < w5.heap.size then o5 k else if k=g6 then 5 else 0:=⟨_,rfl⟩
    have s6:Step (fun k=>k=5) w5 o5 w6 o6:=⟨K6.os,K6.tape,K6.output,K6.size,fun k hk=>by rw [ho6];simp only;rw [if_pos hk],fun k hk hn=>K6.block k hk (fun e=>hn (by rw [e];exact oc5)) (fun e=>hn (by rw [e];exact og5))⟩
    have oc6:o6 cb=5:=(s6.lab cb C5.lt).trans oc5
    have og6:o6 g6=5:=by
     rcases hg6a with h | h
     ·rw [h]
      exact (s6.lab g1 hg5).trans og5
     ·rw [ho6]
      simp only
      rw [if_neg (by omega)]
      simp
    have hn5:n0≤w5.heap.size:=by have:=W5.lt;omega
    have T6:SlcN w6 (N0 n0 o6) y.kids ay cy:=S6.mono (fun _ _ _=>rfl) (Nat.le_refl _) (fun k hp _=>⟨by have:=hp.1;omega,by rw [ho6];simp only;rw [if_neg (by have:=hp.1;omega),if_neg hp.2]⟩)
    have W6:=W5.step s6 (by decide)
    have E6:=E5.step s6 (by decide)
    have Z6:=Z5.step s6 (by decide)
    have A6:=A5.step s6 (by decide) (by decide)
    have L6:Hid (∀ k,k < n0→o6 k=0∨o6 k=5):=fun k hk=>by rw [s6.lab k (by omega)];exact L5.out k hk
    have K6w:=K5.to K6 (by rcases hgg with h | h;exact .inl h;exact .inr (by rw [←HB.out];exact h))
    have hg6n:g6=g∨n0≤g6:=by
     rcases hg6a with h | h
     ·rw [h];exact hgg
     ·exact .inr (by omega)
    clear hc0 S6 s6 ho6 W5 E5 Z5 A5 L5 K5 K6 C5 oc5 og5 hg5 hg6a q0 q1 q2 q3 qf X5 ws0 hgg
    have s7:=boxStep (fun _=>False) w6 o6 (.cells #[.int .i64 y.k,.int .i64 y.n,stv y.nm,.slice ay y.kids.len cy] 34)
    have b7:Below w6.heap.size w6 (w6.alloc (.cells #[.int .i64 y.k,.int .i64 y.n,stv y.nm,.slice ay y.kids.len cy] 34)):=(Below.refl _ w6).alloc (Nat.le_refl _) _
    have T7:=T6.lab s7 id
    have hs6:n0≤w6.heap.size:=by have:=W6.lt;omega
    have L7:Hid (∀ k,k < n0→newLab w6 o6 0 k=0∨newLab w6 o6 0 k=5):=fun k hk=>by rw [newLab_old (by omega)];exact L6.out k hk
    have W7:=W6.step s7 id
    have E7:=E6.step s7 id
    have Z7:=Z6.step s7 id
    have A7:=A6.step s7 id id
    have C7:=C6.below b7
    have oc7:newLab w6 o6 0 cb=5:=(newLab_old C6.lt).trans oc6
    have og7:newLab w6 o6 0 g6=5:=(newLab_old hg6).trans og6
    have K7:=K6w.trans (Kp.ofBelow b7)
    obtain ⟨xs,R7,F7,-,-⟩:=A7
    obtain ⟨a7,c7,hv7⟩:=R7.form
    subst hv7
    have b1:acc.len+1≤maxLen:=by have:=hal.out;unfold maxLen;omega
    have b2:(acc.len+1) * 56≤140737488355328:=by have:=hal.out;omega
    have hone:∀ u ∈ [Value.int .i64 y.k,.int .i64 y.n,stv y.nm,.slice ay y.kids.len cy],u.oneCell'=true:=by intro u hu;simp at hu;rcases hu with rfl | rfl | rfl | rfl <;> rfl
    have hne2:∀ k,k < n0→newLab w6 o6 0 k≠2:=fun k hk=>by rcases L7.out k hk with h | h <;> omega
    have hw7:n0≤(w6.alloc (.cells #[.int .i64 y.k,.int .i64 y.n,stv y.nm,.slice ay y.kids.len cy] 34)).heap.size:=by simp;omega
    have hg7:g6 < (w6.alloc (.cells #[.int .i64 y.k,.int .i64 y.n,stv y.nm,.slice ay y.kids.len cy] 34)).heap.size:=by simp;omega
    have hcb6:=C6.lt
    rw [exN_out]
    clear W6 E6 Z6 A6 L6 T6 s7 b7 K6w C6 oc6 og6
    go_wp2_with (first | (at_builtin;refine wpList_append_lab rfl (.tmp 30) (.tmp 36) 32 rfl 34 ii _ 4 56 Tryz.underlying32 hii hzi0 hzi1 hzi2 rfl (by decide) (newLab w6 o6 0) 2 _ acc.len xs rfl R7 ⟨w6.heap.size,0,none⟩ 1 1 [Value.int .i64 y.k,.int .i64 y.n,stv y.nm,.slice ay y.kids.len cy] rfl rfl (new_cells_at w6 [Value.int .i64 y.k,.int .i64 y.n,stv y.nm,.slice ay y.kids.len cy] 34) hone (by decide) b1 b2 ?_) | go_in)
    intro g9 c9 w9 o9 r9 s9
    have A9:AccCn w9 o9 n0 (acc.snoc y) (.slice (some ⟨g9,0,none⟩) (acc.len+1) c9):=AccCn.push F7 T7 s9 hne2 hw7 r9
    have W9:=W7.step s9 (by decide)
    have E9:=E7.step s9 (by decide)
    have Z9:=Z7.step s9 (by decide)
    have C9:=C7.step s9 (by rw [oc7];decide) (by rw [og7];decide)
    have oc9:o9 cb=5:=(s9.lab cb (by simp;omega)).trans oc7
    have og9:o9 g6=5:=(s9.lab g6 hg7).trans og7
    have L9:Hid (∀ k,k < n0→o9 k=0∨o9 k=5):=fun k hk=>by rw [s9.lab k (by omega)];exact L7.out k hk
    have K9:=K7.step s9 (fun k hk=>hne2 k (by rw [HB.out];exact hk))
    have hg9:g6 < w9.heap.size:=Nat.lt_of_lt_of_le hg7 s9.size
    have HA3:Hid ((acc.snoc y).app (hstF kr e.k (done.snoc ⟨kk,kn,km,ka,kks⟩).len ar rc c2).1=F∧(hstF kr e.k (done.snoc ⟨kk,kn,km,ka,kks⟩).len ar rc c2).2=C):=by
     rw [Fs.len_snoc]
     refine ⟨?_,HA2.out.2⟩
     rw [←HA2.out.1]
     unfold Fs.snoc
     rw [Fs.app_assoc]
     rfl
    have hal2:Hid ((acc.snoc y).len=(done.snoc ⟨kk,kn,km,ka,kks⟩).len):=by show _=_;rw [Fs.len_snoc,Fs.len_snoc,hal.out]
    clear W7 E7 Z7 C7 oc7 og7 L7 K7 T7 R7 F7 r9 s9 hne2 HA2
    go_wp2
    go_roundw
    case rel=>(try ((repeat apply Exists.intro);refine ⟨?_,rfl⟩));exact ⟨_,kr,_,o9,_,_,c2,g6,hk2,by rw [←hl2],rfl,rfl,hsp2,hal2,HA3,hcn,W9,E9,Z9,A9,C9,oc9,og9,hg6n,hg9,L9,K9⟩
    case measure=>simp [intOf];omega
   ·have hor:e.k≠21∨done.len=0:=by
     rcases Classical.em (e.k=21) with h21 | h21
     ·have:=hq2.1 h21
      have h3:done.len≠1:=fun h=>hA ⟨h21,h⟩
      exact .inr (by omega)
     ·exact .inl h21
    obtain ⟨hs1,hs2⟩:=hsp.out (hor.imp id (fun h=>by omega))
    obtain rfl:ar=a1:=hs1.symm
    obtain rfl:rc=r1:=hs2.symm
    have hgd:(e.k == 21)=false∨((e.k == 21)=true∧((done.len:Int) == 1)=false):=by
     rcases Classical.em (e.k=21) with h21 | h21
     ·exact .inr ⟨by simpa using h21,by have h3:done.len≠1:=fun h=>hA ⟨h21,h⟩;simp;omega⟩
     ·exact .inl (by simpa using h21)
    rcases hgd with hk21 | ⟨hk21,hd1⟩
    all_goals (
     have hspot:spotH e.k done.len ar rc=(ar,rc):=by unfold spotH;rw [if_neg hA]
     have HA2:Hid (acc.app (Fs.ex (hstE ⟨kk,kn,km,ka,kks⟩ (ar) (rc) c1).1 (hstF kr e.k (done.len+1) ar rc (hstE ⟨kk,kn,km,ka,kks⟩ (ar) (rc) c1).2).1)=F∧(hstF kr e.k (done.len+1) ar rc (hstE ⟨kk,kn,km,ka,kks⟩ (ar) (rc) c1).2).2=C):=by
      have h:=HA.out
      rw [hst_cons,hspot] at h
      exact h
     have hsp2:Hid ((e.k≠21∨(done.snoc ⟨kk,kn,km,ka,kks⟩).len≤1)→(ar:Int)=ar∧(rc:Int)=rc):=by
      rw [Fs.len_snoc]
      exact fun _=>⟨rfl,rfl⟩
     have hcn:=hstE_len256 ⟨kk,kn,km,ka,kks⟩ (ar) (rc) c1 hc1
     have hc0:=IH ⟨kk,kn,km,ka,kks⟩ ak ck (ar) (rc) c1 cb g1 w5 (by show kks.size < N;omega) hfk ⟨hnk.1,hnk.2.1⟩ ⟨hqk.1,hqk.2.1⟩ (by omega) (by show _+(kks.size:Int)+2≤1000000000;omega) hc1 hg5 C5 SK5
     rw [exN_out] at hc0
     simp only at hc0
     generalize hstE ⟨kk,kn,km,ka,kks⟩ (ar) (rc) c1=hh at *
     obtain ⟨y,c2⟩:=hh
     simp only at hc0 HA2 hcn
     clear hspot HA hsz hfk hnk hqk SK5 hsp
     go_wp2_with fail
     refine hc0.mono ?_
     rintro x w6 ⟨g6,ay,cy,rfl,S6,C6,hg6a,hg6,K6⟩
     obtain ⟨o6,ho6⟩:∃ o6:Nat→Nat,o6=fun k=>if k < w5.heap.size then o5 k else if k=g6 then 5 else 0:=⟨_,rfl⟩
     have s6:Step (fun k=>k=5) w5 o5 w6 o6:=⟨K6.os,K6.tape,K6.output,K6.size,fun k hk=>by rw [ho6];simp only;rw [if_pos hk],fun k hk hn=>K6.block k hk (fun e=>hn (by rw [e];exact oc5)) (fun e=>hn (by rw [e];exact og5))⟩
     have oc6:o6 cb=5:=(s6.lab cb C5.lt).trans oc5
     have og6:o6 g6=5:=by
      rcases hg6a with h | h
      ·rw [h]
       exact (s6.lab g1 hg5).trans og5
      ·rw [ho6]
       simp only
       rw [if_neg (by omega)]
       simp
     have hn5:n0≤w5.heap.size:=by have:=W5.lt;omega
     have T6:SlcN w6 (N0 n0 o6) y.kids ay cy:=S6.mono (fun _ _ _=>rfl) (Nat.le_refl _) (fun k hp _=>⟨by have:=hp.1;omega,by rw [ho6];simp only;rw [if_neg (by have:=hp.1;omega),if_neg hp.2]⟩)
     have W6:=W5.step s6 (by decide)
     have E6:=E5.step s6 (by decide)
     have Z6:=Z5.step s6 (by decide)
     have A6:=A5.step s6 (by decide) (by decide)
     have L6:Hid (∀ k,k < n0→o6 k=0∨o6 k=5):=fun k hk=>by rw [s6.lab k (by omega)];exact L5.out k hk
     have K6w:=K5.to K6 (by rcases hgg with h | h;exact .inl h;exact .inr (by rw [←HB.out];exact h))
     have hg6n:g6=g∨n0≤g6:=by
      rcases hg6a with h | h
      ·rw [h];exact hgg
      ·exact .inr (by omega)
     clear hc0 S6 s6 ho6 W5 E5 Z5 A5 L5 K5 K6 C5 oc5 og5 hg5 hg6a q0 q1 q2 q3 qf X5 ws0 hgg
     have s7:=boxStep (fun _=>False) w6 o6 (.cells #[.int .i64 y.k,.int .i64 y.n,stv y.nm,.slice ay y.kids.len cy] 34)
     have b7:Below w6.heap.size w6 (w6.alloc (.cells #[.int .i64 y.k,.int .i64 y.n,stv y.nm,.slice ay y.kids.len cy] 34)):=(Below.refl _ w6).alloc (Nat.le_refl _) _
     have T7:=T6.lab s7 id
     have hs6:n0≤w6.heap.size:=by have:=W6.lt;omega
     have L7:Hid (∀ k,k < n0→newLab w6 o6 0 k=0∨newLab w6 o6 0 k=5):=fun k hk=>by rw [newLab_old (by omega)];exact L6.out k hk
     have W7:=W6.step s7 id
     have E7:=E6.step s7 id
     have Z7:=Z6.step s7 id
     have A7:=A6.step s7 id id
     have C7:=C6.below b7
     have oc7:newLab w6 o6 0 cb=5:=(newLab_old C6.lt).trans oc6
     have og7:newLab w6 o6 0 g6=5:=(newLab_old hg6).trans og6
     have K7:=K6w.trans (Kp.ofBelow b7)
     obtain ⟨xs,R7,F7,-,-⟩:=A7
     obtain ⟨a7,c7,hv7⟩:=R7.form
     subst hv7
     have b1:acc.len+1≤maxLen:=by have:=hal.out;unfold maxLen;omega
     have b2:(acc.len+1) * 56≤140737488355328:=by have:=hal.out;omega
     have hone:∀ u ∈ [Value.int .i64 y.k,.int .i64 y.n,stv y.nm,.slice ay y.kids.len cy],u.oneCell'=true:=by intro u hu;simp at hu;rcases hu with rfl | rfl | rfl | rfl <;> rfl
     have hne2:∀ k,k < n0→newLab w6 o6 0 k≠2:=fun k hk=>by rcases L7.out k hk with h | h <;> omega
     have hw7:n0≤(w6.alloc (.cells #[.int .i64 y.k,.int .i64 y.n,stv y.nm,.slice ay y.kids.len cy] 34)).heap.size:=by simp;omega
     have hg7:g6 < (w6.alloc (.cells #[.int .i64 y.k,.int .i64 y.n,stv y.nm,.slice ay y.kids.len cy] 34)).heap.size:=by simp;omega
     have hcb6:=C6.lt
     rw [exN_out]
     clear W6 E6 Z6 A6 L6 T6 s7 b7 K6w C6 oc6 og6
     go_wp2_with (first | (at_builtin;refine wpList_append_lab rfl (.tmp 30) (.tmp 36) 32 rfl 34 ii _ 4 56 Tryz.underlying32 hii hzi0 hzi1 hzi2 rfl (by decide) (newLab w6 o6 0) 2 _ acc.len xs rfl R7 ⟨w6.heap.size,0,none⟩ 1 1 [Value.int .i64 y.k,.int .i64 y.n,stv y.nm,.slice ay y.kids.len cy] rfl rfl (new_cells_at w6 [Value.int .i64 y.k,.int .i64 y.n,stv y.nm,.slice ay y.kids.len cy] 34) hone (by decide) b1 b2 ?_) | go_in)
     intro g9 c9 w9 o9 r9 s9
     have A9:AccCn w9 o9 n0 (acc.snoc y) (.slice (some ⟨g9,0,none⟩) (acc.len+1) c9):=AccCn.push F7 T7 s9 hne2 hw7 r9
     have W9:=W7.step s9 (by decide)
     have E9:=E7.step s9 (by decide)
     have Z9:=Z7.step s9 (by decide)
     have C9:=C7.step s9 (by rw [oc7];decide) (by rw [og7];decide)
     have oc9:o9 cb=5:=(s9.lab cb (by simp;omega)).trans oc7
     have og9:o9 g6=5:=(s9.lab g6 hg7).trans og7
     have L9:Hid (∀ k,k < n0→o9 k=0∨o9 k=5):=fun k hk=>by rw [s9.lab k (by omega)];exact L7.out k hk
     have K9:=K7.step s9 (fun k hk=>hne2 k (by rw [HB.out];exact hk))
     have hg9:g6 < w9.heap.size:=Nat.lt_of_lt_of_le hg7 s9.size
     have HA3:Hid ((acc.snoc y).app (hstF kr e.k (done.snoc ⟨kk,kn,km,ka,kks⟩).len ar rc c2).1=F∧(hstF kr e.k (done.snoc ⟨kk,kn,km,ka,kks⟩).len ar rc c2).2=C):=by
      rw [Fs.len_snoc]
      refine ⟨?_,HA2.out.2⟩
      rw [←HA2.out.1]
      unfold Fs.snoc
      rw [Fs.app_assoc]
      rfl
     have hal2:Hid ((acc.snoc y).len=(done.snoc ⟨kk,kn,km,ka,kks⟩).len):=by show _=_;rw [Fs.len_snoc,Fs.len_snoc,hal.out]
     clear W7 E7 Z7 C7 oc7 og7 L7 K7 T7 R7 F7 r9 s9 hne2 HA2
     go_wp2
     go_roundw
     case rel=>exact ⟨_,kr,_,o9,_,_,c2,g6,hk2,by rw [←hl2],rfl,rfl,fun _=>⟨rfl,rfl⟩,hal2,HA3,hcn,W9,E9,Z9,A9,C9,oc9,og9,hg6n,hg9,L9,K9⟩
     case measure=>simp [intOf];omega)
abbrev PD (P:Nat→Prop) (n0:Nat) (o:Nat→Nat):Nat→Prop:=fun k=>o k=0∧((P k∧k < n0)∨n0≤k)
theorem FcN.labD {I:Nat→Prop} {P:Nat→Prop} {w w':World} {o o':Nat→Nat} {n0:Nat} {f:Fs} {xs:List Value} (h:FcN w (PD P n0 o) f xs) (s:Step I w o w' o') (h0:¬ I 0):FcN w' (PD P n0 o') f xs :=
 h.mono (fun k hp hl=>s.block k hl (by rw [hp.1];exact h0)) s.size (fun k hp hl=>⟨(s.lab k hl).trans hp.1,hp.2⟩)
theorem SlN.labD {I:Nat→Prop} {P:Nat→Prop} {w w':World} {o o':Nat→Nat} {n0:Nat} {f:Fs} {ao:Option Addr} (h:SlN w (PD P n0 o) f ao) (s:Step I w o w' o') (h0:¬ I 0):SlN w' (PD P n0 o') f ao :=
 h.mono (fun k hp hl=>s.block k hl (by rw [hp.1];exact h0)) s.size (fun k hp hl=>⟨(s.lab k hl).trans hp.1,hp.2⟩)
def AccD (w:World) (o:Nat→Nat) (P:Nat→Prop) (n0:Nat) (acc:Fs) (v:Value):Prop:=∃ xs,Row w o 2 34 4 v acc.len xs∧FcN w (PD P n0 o) acc xs∧∀ k,v.ownBlock=some k→n0≤k
theorem AccD.nil (w:World) (o:Nat→Nat) (P:Nat→Prop) (n0:Nat):AccD w o P n0 .nil (.slice none 0 0):=⟨[],Row.nil _ _ _ _ _,rfl,fun k hk=>by simp [Value.ownBlock] at hk⟩
theorem AccD.step {I:Nat→Prop} {P:Nat→Prop} {w w':World} {o o':Nat→Nat} {n0:Nat} {acc:Fs} {v:Value} (h:AccD w o P n0 acc v) (s:Step I w o w' o') (h0:¬ I 0) (h2:¬ I 2):AccD w' o' P n0 acc v:=by
 obtain ⟨xs,r,f,g⟩:=h
 exact ⟨xs,r.step s h2,f.labD s h0,g⟩
theorem AccD.push {P:Nat→Prop} {w w2:World} {o o2:Nat→Nat} {n0 ce g2 c2:Nat} {acc:Fs} {xs:List Value} {y:Ex} {ay:Option Addr} (f:FcN w (PD P n0 o) acc xs) (S:SlN w (PD P n0 o) y.kids ay) (s:Step (fun x=>x=2) w o w2 o2) (hlo:∀ k,k < n0→o k≠2) (hw:n0≤w.heap.size)
  (r:Row w2 o2 2 34 4 (.slice (some ⟨g2,0,none⟩) (acc.len+1) c2) (acc.len+1) (xs++[.int .i64 y.k,.int .i64 y.n,stv y.nm,.slice ay y.kids.len ce])):AccD w2 o2 P n0 (acc.snoc y) (.slice (some ⟨g2,0,none⟩) (acc.len+1) c2):=by
 refine ⟨_,by rw [Fs.len_snoc];exact r,(f.labD s (by decide)).app (FcN.one ce (S.labD s (by decide))),fun k hk=>?_⟩
 simp [Value.ownBlock] at hk
 subst hk
 have h2:o2 g2=2:=r.2 g2 rfl
 rcases Nat.lt_or_ge g2 n0 with h3 | h3
 ·exact absurd ((s.lab g2 (by omega)).symm.trans h2) (hlo g2 h3)
 ·exact h3
theorem AccD.sl {P:Nat→Prop} {w:World} {o:Nat→Nat} {n0:Nat} {acc:Fs} {v:Value} (h:AccD w o P n0 acc v):∃ ao cap,v=.slice ao acc.len cap∧SlN w (fun k=>(o k=0∨o k=2)∧((P k∧k < n0)∨n0≤k)) acc ao:=by
 obtain ⟨xs,r,f,g⟩:=h
 obtain ⟨ao,cap,hv⟩:=r.form
 refine ⟨ao,cap,hv,?_⟩
 rcases Nat.eq_zero_or_pos acc.len with h0 | h0
 ·exact .inl (nil_of_len0 h0)
 ·obtain ⟨g',cap',hv',hg,-,-,hlt,hc,-⟩:=r.pos h0
  have hl:=f.len
  rw [hv] at hv'
  injection hv' with hv1
  subst hv1
  have hgn:n0≤g':=g g' (by rw [hv];rfl)
  refine .inr ⟨g',0,xs,rfl,⟨.inr hg,.inr hgn⟩,hlt,fun j u hu=>?_,f.mono (fun _ _ _=>rfl) (Nat.le_refl _) (fun k hp _=>⟨.inl hp.1,hp.2⟩)⟩
  have hj:j < xs.length:=(List.getElem?_eq_some_iff.1 hu).1
  rw [Nat.zero_add,hc j (by omega)]
  exact hu
end Go.Proofs.YtaihhnlfcndecaaGreatDoor

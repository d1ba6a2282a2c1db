import Derived.Test.YtaihhnlfcndecaaGreatDoorNodC
namespace Go.Proofs.YtaihhnlfcndecaaGreatDoor
open Go.ChangeShapes Go.WideShapes Go.ChangeAt Go.RowKit
set_option linter.unusedVariables false
set_option linter.unusedSimpArgs false
theorem FcNC.lab {I:Nat→Prop} {w w':World} {o o':Nat→Nat} {n0:Nat} {f:Fs} {xs:List Value} (h:FcNC w (N0 n0 o) f xs) (s:Step I w o w' o') (h0:¬ I 0):FcNC w' (N0 n0 o') f xs :=
 h.mono (fun k hp hl=>s.block k hl (by rw [hp.2];exact h0)) s.size (fun k hp hl=>⟨hp.1,(s.lab k hl).trans hp.2⟩)
theorem SlcN.lab {I:Nat→Prop} {w w':World} {o o':Nat→Nat} {n0 cap:Nat} {f:Fs} {ao:Option Addr} (h:SlcN w (N0 n0 o) f ao cap) (s:Step I w o w' o') (h0:¬ I 0):SlcN w' (N0 n0 o') f ao cap :=
 h.mono (fun k hp hl=>s.block k hl (by rw [hp.2];exact h0)) s.size (fun k hp hl=>⟨hp.1,(s.lab k hl).trans hp.2⟩)
theorem nil_of_len0:∀ {f:Fs},f.len=0→f=.nil
 | ⟨none⟩,_=>rfl
 | ⟨some ⟨k,n,nm,a,ks,r⟩⟩,h=>by simp [Fs.len] at h
theorem Below.toStepC {w w':World} {o:Nat→Nat} {I:Nat→Prop} (b:Below w.heap.size w w'):Step I w o w' (newLab w o 0):=⟨b.os,b.tape,b.output,b.size,fun k hk=>newLab_old hk,fun k hk _=>b.block k hk⟩
def AccCn (w:World) (o:Nat→Nat) (n0:Nat) (acc:Fs) (v:Value):Prop:=∃ xs,Row w o 2 34 4 v acc.len xs∧FcNC w (N0 n0 o) acc xs∧(acc=.nil→v=.slice none 0 0)∧∀ k,v.ownBlock=some k→n0≤k
theorem AccCn.nil (w:World) (o:Nat→Nat) (n0:Nat):AccCn w o n0 .nil (.slice none 0 0):=⟨[],Row.nil _ _ _ _ _,rfl,fun _=>rfl,fun k hk=>by simp [Value.ownBlock] at hk⟩
theorem AccCn.step {I:Nat→Prop} {w w':World} {o o':Nat→Nat} {n0:Nat} {acc:Fs} {v:Value} (h:AccCn w o n0 acc v) (s:Step I w o w' o') (h0:¬ I 0) (h2:¬ I 2):AccCn w' o' n0 acc v:=by
 obtain ⟨xs,r,f,e,g⟩:=h
 exact ⟨xs,r.step s h2,f.lab s h0,e,g⟩
theorem snoc_ne (f:Fs) (y:Ex):f.snoc y≠.nil:=by
 intro h
 have:=congrArg Fs.len h
 rw [Fs.len_snoc] at this
 simp [Fs.len] at this
theorem AccCn.push {w w2:World} {o o2:Nat→Nat} {n0 ce g2 c2:Nat} {acc:Fs} {xs:List Value} {y:Ex} {ay:Option Addr} (f:FcNC w (N0 n0 o) acc xs) (S:SlcN w (N0 n0 o) y.kids ay ce) (s:Step (fun x=>x=2) w o w2 o2) (hlo:∀ k,k < n0→o k≠2) (hw:n0≤w.heap.size)
  (r:Row w2 o2 2 34 4 (.slice (some ⟨g2,0,none⟩) (acc.len+1) c2) (acc.len+1) (xs++[.int .i64 y.k,.int .i64 y.n,stv y.nm,.slice ay y.kids.len ce])):AccCn w2 o2 n0 (acc.snoc y) (.slice (some ⟨g2,0,none⟩) (acc.len+1) c2):=by
 refine ⟨_,by rw [Fs.len_snoc];exact r,(f.lab s (by decide)).app (FcNC.one ce (S.lab s (by decide))),fun h=>absurd h (snoc_ne _ _),fun k hk=>?_⟩
 simp [Value.ownBlock] at hk
 subst hk
 have h2:o2 g2=2:=r.2 g2 rfl
 rcases Nat.lt_or_ge g2 n0 with h3 | h3
 ·exact absurd ((s.lab g2 (by omega)).symm.trans h2) (hlo g2 h3)
 ·exact h3
theorem AccCn.slc {w:World} {o:Nat→Nat} {n0:Nat} {acc:Fs} {v:Value} (h:AccCn w o n0 acc v):∃ ao cap,v=.slice ao acc.len cap∧SlcN w (fun k=>n0≤k∧(o k=0∨o k=2)) acc ao cap:=by
 obtain ⟨xs,r,f,e,g⟩:=h
 obtain ⟨hlen,ho | ⟨g',cap',cur,hv,-,hb,hc,hm,hsz,hcell⟩⟩:=r.1
 ·have hn:acc.len=0:=ho.2
  have hnil:=nil_of_len0 hn
  subst hnil
  exact ⟨none,0,e rfl,.inl ⟨rfl,rfl,rfl⟩⟩
 ·subst hv
  have h2:o g'=2:=r.2 g' rfl
  exact ⟨_,cap',rfl,.inr ⟨g',xs,cur,rfl,⟨g g' rfl,.inr h2⟩,lt_of_block hb,hc,hb,hsz,fun j u hu=>ownCellsN hcell j u hu,f.mono (fun _ _ _=>rfl) (Nat.le_refl _) (fun _ hp _=>⟨hp.1,.inl hp.2⟩)⟩⟩
def PostCp (w:World) (y:Ex) (x:Ending) (w':World):Prop:=∃ ao cap,x=.returned (exN y ao cap)∧SlcN w' (Nw w.heap.size) y.kids ao cap∧Below w.heap.size w w'
def CopyNOk (N:Nat):Prop:=∀ (e:Ex) (ao:Option Addr) (cap:Nat) (w:World),e.kids.size < N→e.kids.len≤1000000000→e.kids.short→SnA w e.kids ao →
 Calls Tryz.prog 79 #[exN e ao cap] w (PostCp w e)
set_option maxRecDepth 100000 in
set_option maxHeartbeats 4000000 in
theorem copyn_step {N:Nat} (IH:CopyNOk N):CopyNOk (N+1):=by
 intro e ao cap w hN hlen hsh S
 obtain ⟨ii,hii,hzi0,hzi1,hzi2⟩:=info_parts infoNode
 obtain ⟨w0,hw0⟩:∃ w0,w0=(w.alloc (.cells #[.int .i64 e.k,.int .i64 e.n,stv e.nm,.slice ao e.kids.len cap] 34)).alloc (.cells #[.int .i64 0,.int .i64 0,.string ⟨#[]⟩,.slice none 0 0] 34):=⟨_,rfl⟩
 have B0:Below w.heap.size w w0:=by rw [hw0];exact ((Below.refl _ w).alloc (Nat.le_refl _) _).alloc (by simp) _
 obtain ⟨o0,ho0⟩:∃ o0:Nat→Nat,o0=fun k=>if k=w.heap.size then 1 else if k=w.heap.size+1 then 3 else 0:=⟨_,rfl⟩
 have E0:Blk w0 o0 1 w.heap.size (.cells #[.int .i64 e.k,.int .i64 e.n,stv e.nm,.slice ao e.kids.len cap] 34):=by
  refine ⟨?_,by rw [ho0];simp⟩
  rw [hw0]
  exact (Below.heap_alloc _ _ _ (by simp)).trans (heap_alloc_new w _)
 have Z0:Blk w0 o0 3 (w.heap.size+1) (.cells #[.int .i64 0,.int .i64 0,.string ⟨#[]⟩,.slice none 0 0] 34):=by
  refine ⟨?_,by rw [ho0];simp⟩
  rw [hw0]
  have:=heap_alloc_new (w.alloc (.cells #[.int .i64 e.k,.int .i64 e.n,stv e.nm,.slice ao e.kids.len cap] 34)) (.cells #[.int .i64 0,.int .i64 0,.string ⟨#[]⟩,.slice none 0 0] 34)
  simpa using this
 have L0:∀ k,k < w.heap.size→o0 k=0:=fun k hk=>by rw [ho0];simp only;rw [if_neg (by omega),if_neg (by omega)]
 have A0:=AccCn.nil w0 o0 w.heap.size
 rw [exN_out]
 go_enter Tryz.func79,Tryz.ntmps79
 go_upto_region 1 with fail
 rw [←hw0]
 clear hw0 ho0
 obtain ⟨n0,hn0⟩:∃ n0,n0=w.heap.size:=⟨_,rfl⟩
 unfold PostCp
 rw [←hn0] at E0 Z0 L0 A0 B0 ⊢
 have HB:Hid (n0=w.heap.size):=hn0
 clear hn0
 obtain ⟨p0,p1,p2,p3,pf⟩:=box4 E0.1
 go_wp2
 go_loopw [3,9] (fun v3 v9 wr=>∃ (done r:Fs) (o:Nat→Nat),Hid (e.kids=done.app r)∧v9=.int .i64 (done.len:Nat)∧Blk wr o 1 n0 (.cells #[.int .i64 e.k,.int .i64 e.n,stv e.nm,.slice ao e.kids.len cap] 34)∧Blk wr o 3 (n0+1) (.cells #[.int .i64 0,.int .i64 0,.string ⟨#[]⟩,.slice none 0 0] 34)∧AccCn wr o n0 done v3∧Hid (∀ k,k < n0→o k=0)∧Below n0 w wr) (fun _ v9 _=>e.kids.len - (intOf v9).toNat)
 case atStart=>exact ⟨.nil,e.kids,o0,rfl,by show _=Value.int .i64 ((0:Nat):Int);rfl,E0,Z0,A0,L0,B0⟩
 case round =>
  clear E0 Z0 A0 L0 B0 p0 p1 p2 p3 pf
  obtain ⟨done,r,o,hk,rfl,E1,Z1,A1,L1,B1⟩:=hrel
  have hlk:e.kids.len=done.len+r.len:=by rw [hk.out,Fs.len_app]
  obtain ⟨p0,p1,p2,p3,pf⟩:=box4 E1.1
  obtain ⟨z0,z1,z2,z3,zf⟩:=box4 Z1.1
  cases r using Fs.on with
  | nil =>
   have hl0:¬ (done.len:Int) < (e.kids.len:Int):=by simp only [Fs.len] at hlk;omega
   have HDN:Hid (e.kids=done):=by show e.kids=done;rw [hk.out];exact app_nil' done
   obtain ⟨ad,cd,rfl,SD⟩:=A1.slc
   have sA:Step (fun k=>k=1) wr o (wr.setCell ⟨n0,3,none⟩ (.slice ad done.len cd)) o:=setStep _ wr o ⟨n0,3,none⟩ _ E1.2
   have EA:=E1.set 3 (.slice ad done.len cd)
   have ZA:=Z1.step sA (by decide)
   have SA:=SD.mono (w':=wr.setCell ⟨n0,3,none⟩ (.slice ad done.len cd)) (fun i hp hl=>sA.block i hl (by rcases hp.2 with h | h <;> omega)) sA.size (fun _ h _=>h)
   have BA:=below_stepB B1 sA (fun k hk=>by rw [L1.out k hk];decide) (by rw [HB.out];exact Nat.le_refl _)
   clear sA SD hk hlk
   go_upto_region 8 with fail
   generalize wr.setCell ⟨n0,3,none⟩ (.slice ad done.len cd)=wa at *
   clear p0 p1 p2 p3 pf z0 z1 z2 z3 zf E1 Z1 A1 L1 B1
   have SE:=SA.mono (w':=(((wa.setCell ⟨n0+1,0,none⟩ (.int .i64 e.k)).setCell ⟨n0+1,1,none⟩ (.int .i64 e.n)).setCell ⟨n0+1,2,none⟩ (stv e.nm)).setCell ⟨n0+1,3,none⟩ (.slice ad done.len cd)) (Q:=Nw n0) (fun i hp hl=>heap_set4 wa (n0+1) i _ _ _ _ (fun ee=>by
    have h2:=ZA.2
    rw [←ee] at h2
    rcases hp.2 with h | h <;> omega)) (by simp) (fun i hp _=>hp.1)
   have BE:=(((BA.setCell (p:=⟨n0+1,0,none⟩) (Nat.le_succ _) (.int .i64 e.k)).setCell (p:=⟨n0+1,1,none⟩) (Nat.le_succ _) (.int .i64 e.n)).setCell (p:=⟨n0+1,2,none⟩) (Nat.le_succ _) (stv e.nm)).setCell (p:=⟨n0+1,3,none⟩) (Nat.le_succ _) (.slice ad done.len cd)
   have ZE:=set4k (b0:=.int .i64 e.k) (b1:=.int .i64 e.n) (b2:=stv e.nm) (b3:=.slice ad done.len cd) ZA.1
   have HU:Hid (∃ wz,wz=(((wa.setCell ⟨n0+1,0,none⟩ (.int .i64 e.k)).setCell ⟨n0+1,1,none⟩ (.int .i64 e.n)).setCell ⟨n0+1,2,none⟩ (stv e.nm)).setCell ⟨n0+1,3,none⟩ (.slice ad done.len cd)∧wz.cell? ⟨n0+1,0,none⟩=some (.int .i64 e.k)∧wz.cell? ⟨n0+1,1,none⟩=some (.int .i64 e.n)∧wz.cell? ⟨n0+1,2,none⟩=some (stv e.nm)∧wz.cell? ⟨n0+1,3,none⟩=some (.slice ad done.len cd)∧SlcN wz (Nw n0) done ad cd∧Below n0 w wz):=by
    obtain ⟨u0,u1,u2,u3,-⟩:=box4 ZE
    exact ⟨_,rfl,u0,u1,u2,u3,SE,BE⟩
   have EA1:wa.heap[n0]?=some (.cells #[.int .i64 e.k,.int .i64 e.n,stv e.nm,.slice ad done.len cd] 34 (0,0)):=EA.1
   obtain ⟨u0,u1,u2,u3,uf⟩:=box4 EA1
   obtain ⟨z0,z1,z2,z3,zf⟩:=box4 ZA.1
   clear SE BE ZE EA EA1 ZA SA BA
   go_wp2
   obtain ⟨wz,hwz,v0,v1,v2,v3,SZ,BZ⟩:=HU.out
   clear HU
   rw [←hwz]
   clear hwz
   refine bodyPost_ret (v:=exN e ad cd) (by simp [results,Tryz.results79,go_sem,v0,v1,v2,v3,exN,HDN.out]) rfl ⟨ad,cd,rfl,by rw [HDN.out,←HB.out];exact SZ,by rw [←HB.out];exact BZ⟩
  | cons kk kn km ka kks kr =>
   have hl0:(done.len:Int) < (e.kids.len:Int):=by simp only [Fs.len] at hlk;omega
   have hl1:done.len < e.kids.len:=by omega
   have hsz:e.kids.size=done.size+(kks.size+kr.size+1):=by rw [hk.out,Fs.size_app];rfl
   have hsk:(Fs.cons kk kn km ka kks kr).short:=Fs.app_short (by rw [←hk.out];exact hsh)
   obtain ⟨b,off,ak,ck,hao,lb1,-,x0,x1,x2,x3,SK⟩:=SlN.kidQ (by rw [←hk.out];exact SnA.below S (by rw [←HB.out];exact B1))
   subst hao
   obtain ⟨y,hy⟩:∃ y:Ex,y=⟨kk,kn,km,ka,kks⟩:=⟨_,rfl⟩
   have hk2:Hid (e.kids=(done.snoc ⟨kk,kn,km,ka,kks⟩).app kr):=by show e.kids=_;rw [hk.out];unfold Fs.snoc;rw [Fs.app_assoc];rfl
   have HS:Hid (done.snoc ⟨kk,kn,km,ka,kks⟩=done.snoc y):=by show _=_;rw [hy]
   have hl2:(done.len:Int)+1=((done.snoc ⟨kk,kn,km,ka,kks⟩).len:Nat):=by rw [Fs.len_snoc];rfl
   -- the kid's box
   have s5:=boxStep (fun _=>False) wr o (.cells #[.int .i64 kk,.int .i64 kn,stv km,.slice ak kks.len ck] 34)
   have K5:=boxBlk wr o #[.int .i64 kk,.int .i64 kn,stv km,.slice ak kks.len ck] 34
   have b5:Below wr.heap.size wr (wr.alloc (.cells #[.int .i64 kk,.int .i64 kn,stv km,.slice ak kks.len ck] 34)):=(Below.refl _ wr).alloc (Nat.le_refl _) _
   have hn0:n0≤wr.heap.size:=by have:=E1.lt;omega
   have L5:Hid (∀ k,k < n0→newLab wr o 0 k=0):=fun k hk=>by rw [newLab_old (by omega)];exact L1.out k hk
   have E5:=E1.step s5 id
   have Z5:=Z1.step s5 id
   have A5:=A1.step s5 id id
   have B5:=below_stepB B1 s5 (fun _ _=>id) (by rw [HB.out];exact Nat.le_refl _)
   have SK5:=SnA.below SK b5
   clear hlk hk s5 b5 E1 Z1 A1 B1 L1 SK p0 p1 p2 p3 pf z0 z1 z2 z3 zf
   go_upto_region 5 with fail
   generalize newLab wr o 0=o5 at *
   generalize wr.alloc (.cells #[.int .i64 kk,.int .i64 kn,stv km,.slice ak kks.len ck] 34)=w5 at *
   generalize wr.heap.size=xb at *
   clear x0 x1 x2 x3
   obtain ⟨q0,q1,q2,q3,qf⟩:=box4 K5.1
   have hc0:=IH ⟨kk,kn,km,ka,kks⟩ ak ck w5 (by show kks.size < N;omega) hsk.2.1 hsk.2.2.1 SK5
   have hc:Calls Tryz.prog 79 #[.agg #[.int .i64 kk,.int .i64 kn,stv km,.slice ak kks.len ck]] w5 (PostCp w5 y):=by rw [hy];exact hc0
   clear hc0 hsz hsk hy SK5
   go_wp2_with fail
   refine hc.mono ?_
   rintro x w6 ⟨ay,cy,rfl,S6,b6⟩
   have hn5:n0≤w5.heap.size:=by have:=E5.lt;omega
   have s6:=Below.toStepC (I:=fun _=>False) (o:=o5) b6
   have T6:SlcN w6 (N0 n0 (newLab w5 o5 0)) y.kids ay cy:=S6.mono (fun _ _ _=>rfl) (Nat.le_refl _) (fun i hp hl=>⟨Nat.le_trans hn5 hp,newLab_new hp⟩)
   have L6:Hid (∀ k,k < n0→newLab w5 o5 0 k=0):=fun k hk=>by rw [newLab_old (by omega)];exact L5.out k hk
   have E6:=E5.step s6 id
   have Z6:=Z5.step s6 id
   have A6:=A5.step s6 id id
   have B6:=below_stepB B5 s6 (fun _ _=>id) (by rw [HB.out];exact Nat.le_refl _)
   generalize newLab w5 o5 0=o6 at *
   clear hc S6 b6 s6 E5 Z5 A5 B5 L5 q0 q1 q2 q3 qf K5
   have s7:=boxStep (fun _=>False) w6 o6 (.cells #[.int .i64 y.k,.int .i64 y.n,stv y.nm,.slice ay y.kids.len cy] 34)
   have T7:=T6.lab s7 id
   have hs6:n0≤w6.heap.size:=by have:=E6.lt;omega
   have L7:Hid (∀ k,k < n0→newLab w6 o6 0 k=0):=fun k hk=>by rw [newLab_old (by omega)];exact L6.out k hk
   have E7:=E6.step s7 id
   have Z7:=Z6.step s7 id
   have A7:=A6.step s7 id id
   have B7:=below_stepB B6 s7 (fun _ _=>id) (by rw [HB.out];exact Nat.le_refl _)
   obtain ⟨xs,R7,F7,-,-⟩:=A7
   obtain ⟨a7,c7,hv7⟩:=R7.form
   subst hv7
   have b1:done.len+1≤maxLen:=by unfold maxLen;omega
   have b2:(done.len+1) * 56≤140737488355328:=by omega
   have hone:∀ u ∈ [Value.int .i64 y.k,.int .i64 y.n,stv y.nm,.slice ay y.kids.len cy],u.oneCell'=true:=by intro u hu;simp at hu;rcases hu with rfl | rfl | rfl | rfl <;> rfl
   have hne:∀ k,k < n0→newLab w6 o6 0 k≠2:=fun k hk=>by rw [L7.out k hk];decide
   have hw7:n0≤(w6.alloc (.cells #[.int .i64 y.k,.int .i64 y.n,stv y.nm,.slice ay y.kids.len cy] 34)).heap.size:=by simp;omega
   rw [exN_out]
   clear E6 Z6 A6 B6 L6 T6 s7
   go_wp2_with (first | (at_builtin;refine wpList_append_lab rfl (.tmp 13) (.tmp 16) 32 rfl 34 ii _ 4 56 Tryz.underlying32 hii hzi0 hzi1 hzi2 rfl (by decide) (newLab w6 o6 0) 2 _ done.len xs rfl R7 ⟨w6.heap.size,0,none⟩ 1 1 [Value.int .i64 y.k,.int .i64 y.n,stv y.nm,.slice ay y.kids.len cy] rfl rfl (new_cells_at w6 [Value.int .i64 y.k,.int .i64 y.n,stv y.nm,.slice ay y.kids.len cy] 34) hone (by decide) b1 b2 ?_) | go_in)
   intro g9 c9 w9 o9 r9 s9
   have A9:AccCn w9 o9 n0 (done.snoc y) (.slice (some ⟨g9,0,none⟩) (done.len+1) c9):=AccCn.push F7 T7 s9 hne hw7 r9
   have E9:=E7.step s9 (by decide)
   have Z9:=Z7.step s9 (by decide)
   have L9:Hid (∀ k,k < n0→o9 k=0):=fun k hk=>(s9.lab k (by omega)).trans (L7.out k hk)
   have B9:=below_stepB B7 s9 hne (by rw [HB.out];exact Nat.le_refl _)
   rw [←HS.out] at A9
   clear E7 Z7 B7 L7 T7 R7 F7 r9 s9 HS
   go_wp2
   go_roundw
   case rel=>exact ⟨_,kr,o9,hk2,by rw [←hl2],E9,Z9,A9,L9,B9⟩
   case measure=>simp [intOf];omega
theorem copyn_ok:∀ N,CopyNOk N -- 79
 | 0=>fun e ao cap w h=>absurd h (Nat.not_lt_zero _)
 | N+1=>copyn_step (copyn_ok N)
def sameF:Fs→Fs→Bool
 | ⟨none⟩,⟨none⟩=>true
 | ⟨some ⟨k,n,nm,_,ks,r⟩⟩,⟨some ⟨k',n',nm',_,ks',r'⟩⟩=>k == k' && n == n' && nm == nm' && sameF ks ks' && sameF r r'
 | _,_=>false
def sameE (a b:Ex):Bool:=a.k == b.k && a.n == b.n && a.nm == b.nm && sameF a.kids b.kids
theorem sameF_len:∀ (x y:Fs),x.len≠y.len→sameF x y=false
 | ⟨none⟩,⟨none⟩,h=>absurd rfl h
 | ⟨none⟩,⟨some ⟨k',n',nm',a',ks',r'⟩⟩,h=>rfl
 | ⟨some ⟨k,n,nm,a,ks,r⟩⟩,⟨none⟩,h=>rfl
 | ⟨some ⟨k,n,nm,a,ks,r⟩⟩,⟨some ⟨k',n',nm',a',ks',r'⟩⟩,h=>by
  have h2:r.len≠r'.len:=fun e=>h (by simp only [Fs.len,e])
  simp only [sameF,sameF_len r r' h2,Bool.and_false]
theorem sameF_self:∀ (x:Fs),sameF x x=true
 | ⟨none⟩=>rfl
 | ⟨some ⟨k,n,nm,a,ks,r⟩⟩=>by simp [sameF,sameF_self ks,sameF_self r]
end Go.Proofs.YtaihhnlfcndecaaGreatDoor
namespace Go.Proofs.YtaihhnlfcndecaaGreatDoor
set_option linter.unusedVariables false
set_option linter.unusedSimpArgs false
def nmP (k:Int) (nm:List UInt8):Bool:=if k == 23 then nameB nm else nm == []
def nuP (nc:Nat) (k n:Int) (ar:Nat):Bool :=
 if k == 1 then true else if k == 2 then n == 0 || n == 1 else if k == 3 then decide (0≤n) else if k == 5 then decide (0≤n) && decide (n < (ar:Int))
 else if k == 20 then decide (1≤n) && decide (n≤10) else if k == 21 then decide (1≤n) && decide (n≤6) else if k == 26 then decide (0≤n) && decide (n < (nc:Int)) else n == 0
def wkP (ks:List Int) (i:Nat):Int :=
 match ks[i]? with
 | some k=>if k=4 then 0 else k
 | none=>0
def formP (k n:Int) (ks:List Int):List Int × Int :=
 if k=1 then ([],1) else if k=2 then ([],2) else if k=3∨k=5 then ([],3) else if k=6 then ([1],1) else if k=7 then ([2],2)
 else if 8≤k∧k≤12 then ([1,1],1) else if k=15∨k=16 then ([1,1],2) else if k=17∨k=18 then ([2,2],2)
 else if k=13∨k=14 then ([wkP ks 0,wkP ks 0],2) else if k=19 then ([2,wkP ks 1,wkP ks 1],wkP ks 1)
 else if k=20 then (if n=1∨n=2 then ([3,3],2) else if n=3 then ([3,3],1) else if n=10 then ([3],3) else ([3],1))
 else if k=21 then (if n=1∨n=2 then ([4,2],2) else if n=3 then ([4,2],1) else ([4,1],1))
 else if k=26 then ([wkP ks 0],wkP ks 0) else if k=22∨k=23 then ([],4) else if k=24 then ([3],4) else if k=25 then (List.replicate ks.length 3,4) else ([],0)
def hgF:Fs→Int→Int
 | ⟨none⟩,_=>0
 | ⟨some ⟨k,n,_,_,ks,r⟩⟩,ar=>max (max (if k=5∧n < ar then n+1 else 0) (hgF ks ar)) (hgF r ar)
def hgE (e:Ex) (ar:Int):Int:=max (if e.k=5∧e.n < ar then e.n+1 else 0) (hgF e.kids ar)
abbrev Rg:=Nat × (Nat→Option Ex)
def spotP (pk:Int) (i ar wi:Nat):Nat × Nat:=if pk=21 then (if i=0 then ar else ar+1,wi+1) else (ar,wi)
def keepP (cells:List Int) (n:Int) (ks:Fs) (ar:Nat) (s:Rg):Option Rg :=
 match cells[n.toNat]? with
 | none=>none
 | some lv =>
  if (ar:Int) < lv∨lv < hgE ks.head ar then none else
  match s.2 n.toNat with
  | none=>some (s.1,fun i=>if i=n.toNat then some ks.head else s.2 i)
  | some x=>if sameE x ks.head then some s else none
def rgF (cells:List Int):Fs→Int→Nat→Nat→Nat→Rg→Option (Rg × List Int)
 | ⟨none⟩,_,_,_,_,s=>some (s,[])
 | ⟨some ⟨k,n,nm,a,ks,r⟩⟩,pk,i,ar,wi,s =>
  if 4096 < s.1+1∨4 < (spotP pk i ar wi).2∨nmP k nm=false∨nuP cells.length k n (spotP pk i ar wi).1=false then none else
  match rgF cells ks k 0 (spotP pk i ar wi).1 (spotP pk i ar wi).2 (s.1+1,s.2) with
  | none=>none
  | some (s1,kd) =>
   if (formP k n kd).2=0∨(formP k n kd).1≠kd then none else
   match (if k=26 then keepP cells n ks (spotP pk i ar wi).1 s1 else some s1) with
   | none=>none
   | some s2 =>
    match rgF cells r pk (i+1) ar wi s2 with
    | none=>none
    | some (s3,rest)=>some (s3,(formP k n kd).2 :: rest)
def kindP (cells:List Int) (e:Ex):Int :=
 if 256 < cells.length∨cells.any (fun c=>decide (c < 0) || decide (4 < c))=true then 0 else
 match rgF cells (one e) 0 0 0 0 (0,fun _=>none) with
 | some (_,[k])=>if k=4 then 0 else k
 | _=>0
theorem rgF_len (cells:List Int):∀ (f:Fs) (pk:Int) (i ar wi:Nat) (s s':Rg) (kd:List Int),rgF cells f pk i ar wi s=some (s',kd)→kd.length=f.len
 | ⟨none⟩,pk,i,ar,wi,s,s',kd,h=>by
  simp only [rgF] at h
  injection h with h
  injection h with h1 h2
  subst h2
  rfl
 | ⟨some ⟨k,n,nm,a,ks,r⟩⟩,pk,i,ar,wi,s,s',kd,h=>by
  unfold rgF at h
  split at h
  ·cases h
  ·split at h
   ·cases h
   ·split at h
    ·cases h
    ·split at h
     ·cases h
     ·split at h
      ·cases h
      ·rename_i s3 rest h5
       injection h with h
       injection h with h1 h2
       subst h2
       have:=rgF_len cells r pk (i+1) ar wi _ _ _ h5
       simp only [List.length_cons,Fs.len]
       omega
def fixL (k n:Int):List Int :=
 if k=1 then [1] else if k=2 then [2] else if k=3∨k=4 then [3] else if k=6 then [1,1] else if k=7 then [2,2]
 else if 8≤k∧k≤12 then [1,1,1] else if k=15∨k=16 then [1,1,2] else if k=17∨k=18 then [2,2,2]
 else if k=22∨k=23 then [4] else if k=24 then [3,4]
 else if k=20 then (if n=1∨n=2 then [3,3,2] else if n=3 then [3,3,1] else if n=10 then [3,3] else [3,1])
 else if k=21 then (if n=1∨n=2 then [4,2,2] else if n=3 then [4,2,1] else [4,1,1])
 else []
def ruleT (k n:Int) (len:Nat) (done:List Int):Int :=
 if k=13∨k=14 then (match done with | []=>0 | [a]=>a | _=>2)
 else if k=19 then (match done with | []=>2 | [_]=>0 | _ :: b :: _=>b)
 else if k=25 then (if done.length < len then 3 else 4)
 else (fixL k n)[done.length]?.getD 0
def mustT (m:Int) (a:Int) (r:Sum (Nat × Int) Int):Sum (Nat × Int) Int :=
 match r with
 | .inl e=>.inl e
 | .inr is=>if m≠0∧is≠m then .inl (131,a) else .inr is
def chkFs:Fs→Int→Int→List UInt8→Nat→List (List UInt8)→Nat→List Int→Sum (Nat × Int) (List Int)
 | ⟨none⟩,_,_,_,_,_,_,done=>.inr done
 | ⟨some ⟨kk,kn,km,ka,kks,kr⟩⟩,k,n,nm,len,bound,i,done =>
  match mustT (ruleT k n len done) ka (if kk=4∧¬ km ∈ (if k=21∧i≠0 then bound++[nm] else bound) then .inl (130,ka) else
   match chkFs kks kk kn km kks.len (if k=21∧i≠0 then bound++[nm] else bound) 0 [] with
   | .inl e=>.inl e
   | .inr d=>.inr (ruleT kk kn kks.len d)) with
  | .inl e=>.inl e
  | .inr is=>chkFs kr k n nm len bound (i+1) (done++[is])
def chkE (e:Ex) (bound:List (List UInt8)):Sum (Nat × Int) Int :=
 if e.k=4∧¬ e.nm ∈ bound then .inl (130,e.a) else
  match chkFs e.kids e.k e.n e.nm e.kids.len bound 0 [] with
  | .inl x=>.inl x
  | .inr d=>.inr (ruleT e.k e.n e.kids.len d)
theorem chk_ex (x:Ex) (r:Fs) (k n:Int) (nm:List UInt8) (len:Nat) (bound:List (List UInt8)) (i:Nat) (done:List Int) :
  chkFs (.cons x.k x.n x.nm x.a x.kids r) k n nm len bound i done=(match mustT (ruleT k n len done) x.a (chkE x (if k=21∧i≠0 then bound++[nm] else bound)) with
   | .inl e=>.inl e
   | .inr is=>chkFs r k n nm len bound (i+1) (done++[is])):=rfl
def typA (e:Ex):Int × Nat × Int :=
 match writA e with
 | none=>(0,122,0)
 | some _ =>
  match chkE e [] with
  | .inl (er,a)=>(0,er,a)
  | .inr k=>(k,0,0)
theorem chkFs_er:∀ (f:Fs) (k n:Int) (nm:List UInt8) (len:Nat) (bound:List (List UInt8)) (i:Nat) (done:List Int) (er:Nat) (a:Int),chkFs f k n nm len bound i done=.inl (er,a)→er=130∨er=131
 | ⟨none⟩,k,n,nm,len,bound,i,done,er,a,h=>by simp only [chkFs] at h;cases h
 | ⟨some ⟨kk,kn,km,ka,kks,kr⟩⟩,k,n,nm,len,bound,i,done,er,a,h=>by
  simp only [chkFs] at h
  by_cases hv:kk=4∧¬ km ∈ (if k=21∧i≠0 then bound++[nm] else bound)
  ·rw [if_pos hv] at h
   simp only [mustT,Sum.inl.injEq,Prod.mk.injEq] at h
   omega
  ·rw [if_neg hv] at h
   cases hc:chkFs kks kk kn km kks.len (if k=21∧i≠0 then bound++[nm] else bound) 0 [] with
   | inl x =>
    obtain ⟨er2,a2⟩:=x
    rw [hc] at h
    simp only [mustT,Sum.inl.injEq,Prod.mk.injEq] at h
    have:=chkFs_er kks _ _ _ _ _ _ _ er2 a2 hc
    omega
   | inr d =>
    rw [hc] at h
    simp only [mustT] at h
    by_cases hm:ruleT k n len done≠0∧ruleT kk kn kks.len d≠ruleT k n len done
    ·rw [if_pos hm] at h
     simp only [Sum.inl.injEq,Prod.mk.injEq] at h
     omega
    ·rw [if_neg hm] at h
     exact chkFs_er kr _ _ _ _ _ _ _ er a h
theorem chkE_er {e:Ex} {bound:List (List UInt8)} {er:Nat} {a:Int} (h:chkE e bound=.inl (er,a)):er=130∨er=131:=by
 unfold chkE at h
 by_cases hv:e.k=4∧¬ e.nm ∈ bound
 ·rw [if_pos hv] at h
  simp only [Sum.inl.injEq,Prod.mk.injEq] at h
  omega
 ·rw [if_neg hv] at h
  cases hc:chkFs e.kids e.k e.n e.nm e.kids.len bound 0 [] with
  | inl x =>
   obtain ⟨er2,a2⟩:=x
   rw [hc] at h
   simp only [Sum.inl.injEq,Prod.mk.injEq] at h
   have:=chkFs_er _ _ _ _ _ _ _ _ er2 a2 hc
   omega
  | inr d=>rw [hc] at h;cases h
def endT (k n:Int) (len:Nat):Sum (Nat × Int) (List Int)→Sum (Nat × Int) Int
 | .inl x=>.inl x
 | .inr d=>.inr (ruleT k n len d)
theorem chkE_kids (e:Ex) (b:List (List UInt8)) (h:e.k≠4):chkE e b=endT e.k e.n e.kids.len (chkFs e.kids e.k e.n e.nm e.kids.len b 0 []):=by
 unfold chkE
 rw [if_neg (fun h2=>h h2.1)]
 cases chkFs e.kids e.k e.n e.nm e.kids.len b 0 [] <;> rfl
def okR (k n:Int) (len:Nat):Prop :=
 (k=13∨k=14∨k=19∨k=25)∨(k=20∧(1≤n∧n≤10)∧(fixL 20 n).length=len+1)∨(k=21∧(1≤n∧n≤6)∧(fixL 21 n).length=len+1)
  ∨ ((1≤k∧k≤24∧k≠5∧k≠20∧k≠21∧k≠13∧k≠14∧k≠19)∧(fixL k 0).length=len+1)
theorem callT_rng (n:Int):(callOf n).isSome=decide (1≤n∧n≤10):=by
 by_cases h:1≤n∧n≤10
 ·have h2:n=1∨n=2∨n=3∨n=4∨n=5∨n=6∨n=7∨n=8∨n=9∨n=10:=by omega
  rcases h2 with rfl | rfl | rfl | rfl | rfl | rfl | rfl | rfl | rfl | rfl <;> rfl
 ·rw [decide_eq_false h]
  cases hc:callOf n with
  | none=>rfl
  | some x =>
   have h1:=List.find?_some hc
   have h2:=List.mem_of_find?_eq_some hc
   simp only [callsL,List.mem_cons,List.not_mem_nil,or_false] at h2
   simp only [beq_iff_eq] at h1
   exfalso
   rcases h2 with rfl | rfl | rfl | rfl | rfl | rfl | rfl | rfl | rfl | rfl <;> simp only at h1 <;> omega
theorem quantT_rng (n:Int):(quantOf n).isSome=decide (1≤n∧n≤6):=by
 by_cases h:1≤n∧n≤6
 ·have h2:n=1∨n=2∨n=3∨n=4∨n=5∨n=6:=by omega
  rcases h2 with rfl | rfl | rfl | rfl | rfl | rfl <;> rfl
 ·rw [decide_eq_false h]
  cases hc:quantOf n with
  | none=>rfl
  | some x =>
   have h1:=List.find?_some hc
   have h2:=List.mem_of_find?_eq_some hc
   simp only [quantsL,List.mem_cons,List.not_mem_nil,or_false] at h2
   simp only [beq_iff_eq] at h1
   exfalso
   rcases h2 with rfl | rfl | rfl | rfl | rfl | rfl <;> simp only at h1 <;> omega
theorem opT_rng {k:Int} (h:(opOf k).isSome=true):8≤k∧k≤18:=by
 cases hc:opOf k with
 | none=>rw [hc] at h;cases h
 | some x =>
  have h1:=List.find?_some hc
  have h2:=List.mem_of_find?_eq_some hc
  simp only [opsL,List.mem_cons,List.not_mem_nil,or_false] at h2
  simp only [beq_iff_eq] at h1
  rcases h2 with rfl | rfl | rfl | rfl | rfl | rfl | rfl | rfl | rfl | rfl | rfl <;> simp only at h1 <;> omega
theorem okR_of {k n:Int} {nm:List UInt8} {m:Nat} (h:okP k n nm m):okR k n m:=by
 obtain ⟨h1,-,h2,-,-,-⟩:=h
 unfold kidB at h2
 unfold numB at h1
 by_cases a0:k=1∨k=2∨k=3∨k=4∨k=22∨k=23
 ·have e1:(k == 1 || k == 2 || k == 3 || k == 4 || k == 22 || k == 23)=true:=by rcases a0 with rfl | rfl | rfl | rfl | rfl | rfl <;> rfl
  rw [e1,if_pos rfl] at h2
  have:m=0:=by simpa using h2
  subst this
  refine .inr (.inr (.inr ⟨by omega,?_⟩))
  rcases a0 with rfl | rfl | rfl | rfl | rfl | rfl <;> rfl
 by_cases a1:k=6∨k=7∨k=24
 ·have:m=1:=by rcases a1 with rfl | rfl | rfl <;> (simp at h2;omega)
  subst this
  refine .inr (.inr (.inr ⟨by omega,?_⟩))
  rcases a1 with rfl | rfl | rfl <;> rfl
 by_cases a2:k=21
 ·subst a2
  have hm:m=2:=by simp at h2;omega
  have hn:(quantOf n).isSome=true:=by simpa using h1
  rw [quantT_rng] at hn
  have hn2:=of_decide_eq_true hn
  subst hm
  refine .inr (.inr (.inl ⟨rfl,hn2,?_⟩))
  have h3:n=1∨n=2∨n=3∨n=4∨n=5∨n=6:=by omega
  rcases h3 with rfl | rfl | rfl | rfl | rfl | rfl <;> rfl
 by_cases a3:k=19
 ·exact .inl (by omega)
 by_cases a4:k=20
 ·subst a4
  have hn:(callOf n).isSome=true:=by simpa using h1
  rw [callT_rng] at hn
  have hn2:=of_decide_eq_true hn
  refine .inr (.inl ⟨rfl,hn2,?_⟩)
  have h3:n=1∨n=2∨n=3∨n=4∨n=5∨n=6∨n=7∨n=8∨n=9∨n=10:=by omega
  rcases h3 with rfl | rfl | rfl | rfl | rfl | rfl | rfl | rfl | rfl | rfl <;>
   (simp [callOf,callsL] at h2;simp [fixL];omega)
 by_cases a5:k=25
 ·exact .inl (by omega)
 have e1:(k == 1 || k == 2 || k == 3 || k == 4 || k == 22 || k == 23)=false:=by simp;omega
 have e2:(k == 6 || k == 7 || k == 24)=false:=by simp;omega
 have e3:(k == 21)=false:=by simpa using a2
 have e4:(k == 19)=false:=by simpa using a3
 have e5:(k == 20)=false:=by simpa using a4
 have e6:(k == 25)=false:=by simpa using a5
 rw [e1,e2,e3,e4,e5,e6] at h2
 simp only [Bool.false_eq_true,if_false,Bool.and_eq_true,beq_iff_eq] at h2
 have hr:=opT_rng h2.1
 have hm:m=2:=by omega
 subst hm
 by_cases a6:k=13∨k=14
 ·exact .inl (by omega)
 refine .inr (.inr (.inr ⟨by omega,?_⟩))
 have h3:k=8∨k=9∨k=10∨k=11∨k=12∨k=15∨k=16∨k=17∨k=18:=by omega
 rcases h3 with rfl | rfl | rfl | rfl | rfl | rfl | rfl | rfl | rfl <;> rfl
theorem okR_kind {k n:Int} {m:Nat} (h:okR k n m):1≤k∧k≤25∧k≠5:=by
 unfold okR at h
 omega
end Go.Proofs.YtaihhnlfcndecaaGreatDoor

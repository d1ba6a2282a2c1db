import Derived.Test.YtaihhnlfcndecaaGreatDoorDopB
namespace Go.Proofs.YtaihhnlfcndecaaGreatDoor
open Go.ChangeShapes Go.WideShapes Go.ChangeAt Go.RowKit
set_option linter.unusedVariables false
set_option linter.unusedSimpArgs false
theorem do_end {w wa:World} {P:Nat→Prop} {cb g g' zb:Nat} {f:Fs} {ao:Option Addr} {cs:List Int} (a b c d:Value) (hz:w.heap.size≤zb) (S:SlN wa (fun k=>(P k∧k < w.heap.size)∨(w.heap.size≤k∧k≠g'∧k≠zb)) f ao) (C:CsD wa cb g' cs) (hc:cb≠zb) (hg:g'≠zb) (K:Kp cb g w wa) :
  SlN ((((wa.setCell ⟨zb,0,none⟩ (a)).setCell ⟨zb,1,none⟩ (b)).setCell ⟨zb,2,none⟩ (c)).setCell ⟨zb,3,none⟩ (d)) (fun k=>(P k∧k < w.heap.size)∨(w.heap.size≤k∧k≠g')) f ao∧CsD ((((wa.setCell ⟨zb,0,none⟩ (a)).setCell ⟨zb,1,none⟩ (b)).setCell ⟨zb,2,none⟩ (c)).setCell ⟨zb,3,none⟩ (d)) cb g' cs∧Kp cb g w ((((wa.setCell ⟨zb,0,none⟩ (a)).setCell ⟨zb,1,none⟩ (b)).setCell ⟨zb,2,none⟩ (c)).setCell ⟨zb,3,none⟩ (d)):=by
 have hb:∀ k,k≠zb→((((wa.setCell ⟨zb,0,none⟩ (a)).setCell ⟨zb,1,none⟩ (b)).setCell ⟨zb,2,none⟩ (c)).setCell ⟨zb,3,none⟩ (d)).heap[k]?=wa.heap[k]?:=fun k hk=>heap_set4 wa zb k _ _ _ _ hk
 have s:Step (fun k=>k=1) wa (fun k=>if k=zb then 1 else 0) ((((wa.setCell ⟨zb,0,none⟩ (a)).setCell ⟨zb,1,none⟩ (b)).setCell ⟨zb,2,none⟩ (c)).setCell ⟨zb,3,none⟩ (d)) (fun k=>if k=zb then 1 else 0) :=
  ⟨rfl,rfl,rfl,by simp,fun _ _=>rfl,fun k hk hn=>hb k (fun e=>hn (by rw [if_pos e]))⟩
 exact ⟨S.mono (fun k hp _=>hb k (by rcases hp with hp | hp;have:=hp.2;omega;exact hp.2.2)) (by simp) (fun k hp _=>by rcases hp with hp | hp;exact .inl hp;exact .inr ⟨hp.1,hp.2.1⟩),C.step s (by rw [if_neg hc];decide) (by rw [if_neg hg];decide),(((K.set _ _ (.inl hz)).set _ _ (.inl hz)).set _ _ (.inl hz)).set _ _ (.inl hz)⟩
set_option maxRecDepth 100000 in
set_option maxHeartbeats 8000000 in
theorem dpart_of {N:Nat} (IH:DKidsOk N):DPartOk N:=by
 intro e ao cap ar rc cs cb g P w hN hf hnv ha0 ha1 hcs hg hP HC S
 obtain ⟨Y,hY⟩:∃ Y,Y=(hstE e ar rc cs).1:=⟨_,rfl⟩
 obtain ⟨C2,hC2⟩:∃ C2,C2=(hstE e ar rc cs).2:=⟨_,rfl⟩
 have HY:Hid ((Y,C2)=hstE e ar rc cs):=by show _=_;rw [hY,hC2]
 rw [←hY,←hC2]
 clear hY hC2
 obtain ⟨ii,hii,hzi0,hzi1,hzi2⟩:=info_parts infoInt
 obtain ⟨w0,hw0⟩:∃ w0,w0=(w.alloc (.cells #[.int .i64 e.k,.int .i64 e.n,stv e.nm,.slice ao e.kids.len cap] 34)).alloc (.cells #[.int .i64 0,.int .i64 0,.string ⟨#[]⟩,.slice none 0 0] 34):=⟨_,rfl⟩
 have B0:Below w.heap.size w w0:=by rw [hw0];exact ((Below.refl _ w).alloc (Nat.le_refl _) _).alloc (by simp) _
 have hcb:=HC.lt
 have E0:w0.heap[w.heap.size]?=some (.cells #[.int .i64 e.k,.int .i64 e.n,stv e.nm,.slice ao e.kids.len cap] 34 (0,0)):=by
  rw [hw0]
  exact (Below.heap_alloc _ _ _ (by simp)).trans (heap_alloc_new w _)
 have Z0:w0.heap[w.heap.size+1]?=some (.cells #[.int .i64 0,.int .i64 0,.string ⟨#[]⟩,.slice none 0 0] 34 (0,0)):=by
  rw [hw0]
  have:=heap_alloc_new (w.alloc (.cells #[.int .i64 e.k,.int .i64 e.n,stv e.nm,.slice ao e.kids.len cap] 34)) (.cells #[.int .i64 0,.int .i64 0,.string ⟨#[]⟩,.slice none 0 0] 34)
  simpa using this
 have C0:=HC.below B0
 have K0:Kp cb g w w0:=Kp.ofBelow B0
 have S0:=S.belowP B0
 have hg0:g < w0.heap.size:=Nat.lt_of_lt_of_le hg B0.size
 have SP:∀ (w1:World),Kp cb g w w1→SlN w1 (fun k=>P k∧k < w.heap.size) e.kids ao:=fun w1 K=>S.mono (fun k hp hl=>K.block k hl (hP k hp).1 (hP k hp).2) K.size (fun k hp hl=>⟨hp,hl⟩)
 rw [exN_out]
 go_enter Tryz.func48,Tryz.ntmps48
 go_upto_region 1 with fail
 rw [←hw0]
 clear hw0
 obtain ⟨n0,hn0⟩:∃ n0,n0=w.heap.size:=⟨_,rfl⟩
 rw [←hn0] at E0 Z0 hg hcb SP ⊢
 have HB:Hid (n0=w.heap.size):=hn0
 clear hn0 HC
 obtain ⟨p0,p1,p2,p3,pf⟩:=box4 E0
 have hzl:=lt_of_block Z0
 by_cases h26:e.k=26
 ·have hb26:(e.k == 26)=true:=by simpa using h26
  have HYC:Hid (Y=e∧C2=cs):=by
   have h:=HY.out
   unfold hstE at h
   rw [if_pos h26] at h
   injection h with h1 h2
   exact ⟨h1,h2⟩
  have hnb:=HB.out
  obtain ⟨SE,CE,KE⟩:=do_end (w:=w) (P:=P) (zb:=n0+1) (.int .i64 e.k) (.int .i64 e.n) (stv e.nm) (.slice ao e.kids.len cap) (by omega) ((SP w0 K0).mono (fun _ _ _=>rfl) (Nat.le_refl _) (fun k hp _=>.inl ⟨hp.1,by have:=hp.2;omega⟩)) C0 (by omega) (by omega) K0
  have HU:Hid (∃ wz,wz=((((w0.setCell ⟨n0+1,0,none⟩ (.int .i64 e.k)).setCell ⟨n0+1,1,none⟩ (.int .i64 e.n)).setCell ⟨n0+1,2,none⟩ (stv e.nm)).setCell ⟨n0+1,3,none⟩ (.slice ao e.kids.len cap))∧wz.cell? ⟨n0+1,0,none⟩=some (.int .i64 e.k)∧wz.cell? ⟨n0+1,1,none⟩=some (.int .i64 e.n)∧wz.cell? ⟨n0+1,2,none⟩=some (stv e.nm)∧wz.cell? ⟨n0+1,3,none⟩=some (.slice ao e.kids.len cap)∧PostDo w P cb g Y C2 (.returned (exN e ao cap)) wz):=by
   obtain ⟨u0,u1,u2,u3,-⟩:=box4 (set4k (b0:=.int .i64 e.k) (b1:=.int .i64 e.n) (b2:=stv e.nm) (b3:=.slice ao e.kids.len cap) Z0)
   refine ⟨_,rfl,u0,u1,u2,u3,?_⟩
   rw [HYC.out.1,HYC.out.2]
   exact ⟨g,ao,cap,rfl,SE,CE,.inl rfl,by simpa using hg0,KE⟩
  obtain ⟨z0,z1,z2,z3,zf⟩:=box4 Z0
  clear SE CE KE Z0 E0 C0 K0 S0 HY h26 hnb SP
  go_wp2
  obtain ⟨wz,hwz,v0,v1,v2,v3,PZ⟩:=HU.out
  rw [←hwz]
  exact bodyPost_ret (v:=exN e ao cap) (by simp [results,Tryz.results48,go_sem,v0,v1,v2,v3,exN]) rfl PZ
 have hb26:(e.k == 26)=false:=by simpa using h26
 clear h26
 -- what stays
 have STAY:∀ (w1:World) (g1:Nat),CsD w1 cb g1 cs→(g1=g∨w0.heap.size≤g1)→g1 < w1.heap.size→Kp cb g w w1→Hid ((Y,C2)=hstK e ar rc cs)→Calls Tryz.prog 78 #[.pointer (some ⟨cb,0,none⟩),.agg #[.int .i64 e.k,.int .i64 e.n,stv e.nm,.slice ao e.kids.len cap],.int .i64 ar,.int .i64 rc] w1 (PostDo w1 (fun k=>P k∧k < n0) cb g1 Y C2):=by
  intro w1 g1 c1 hgg hg1 K1 hy
  have c:=IH e ao cap ar rc cs cb g1 (fun k=>P k∧k < n0) w1 hN hf hnv ha0 ha1 hcs hg1 (fun k hp=>⟨(hP k hp.1).1,by have:=HB.out;have h2:=(hP k hp.1).2;have:=hp.2;rcases hgg with h | h <;> omega⟩) c1 (SP w1 K1)
  rw [exN_out] at c
  have h1:Y=(hstK e ar rc cs).1:=by rw [←hy.out]
  have h2:C2=(hstK e ar rc cs).2:=by rw [←hy.out]
  rw [h1,h2]
  exact c
 have ENDS:∀ (w1:World) (g1:Nat),(g1=g∨w0.heap.size≤g1)→w0.heap.size≤w1.heap.size→w1.heap[n0+1]?=some (.cells #[.int .i64 0,.int .i64 0,.string ⟨#[]⟩,.slice none 0 0] 34 (0,0))→Kp cb g w w1→∀ (x:Ending) (w2:World),PostDo w1 (fun k=>P k∧k < n0) cb g1 Y C2 x w2→∃ ay cy,x=.returned (exN Y ay cy)∧w2.heap[n0+1]?=some (.cells #[.int .i64 0,.int .i64 0,.string ⟨#[]⟩,.slice none 0 0] 34 (0,0))∧Hid (∃ wz,wz=((((w2.setCell ⟨n0+1,0,none⟩ (.int .i64 Y.k)).setCell ⟨n0+1,1,none⟩ (.int .i64 Y.n)).setCell ⟨n0+1,2,none⟩ (stv Y.nm)).setCell ⟨n0+1,3,none⟩ (.slice ay Y.kids.len cy))∧wz.cell? ⟨n0+1,0,none⟩=some (.int .i64 Y.k)∧wz.cell? ⟨n0+1,1,none⟩=some (.int .i64 Y.n)∧wz.cell? ⟨n0+1,2,none⟩=some (stv Y.nm)∧wz.cell? ⟨n0+1,3,none⟩=some (.slice ay Y.kids.len cy)∧PostDo w P cb g Y C2 (.returned (exN Y ay cy)) wz):=by
  rintro w1 g1 hgg hs1 Z1 K1 x w2 ⟨g2,ay,cy,rfl,S2,C2',hg2,hl2,K2⟩
  have hnb:=HB.out
  have Z2:=(K2.block (n0+1) (by omega) (by omega) (by rcases hgg with h | h <;> omega)).trans Z1
  have K12:=K1.to K2 (by rcases hgg with h | h;exact .inl h;exact .inr (by omega))
  obtain ⟨SE,CE,KE⟩:=do_end (w:=w) (P:=P) (zb:=n0+1) (.int .i64 Y.k) (.int .i64 Y.n) (stv Y.nm) (.slice ay Y.kids.len cy) (by omega) (S2.mono (fun _ _ _=>rfl) (Nat.le_refl _) (fun k hp _=>by
   rcases hp with hp | hp
   ·exact .inl ⟨hp.1.1,by have:=hp.1.2;omega⟩
   ·exact .inr ⟨by have:=hp.1;omega,hp.2,by have:=hp.1;omega⟩)) C2' (by omega) (by rcases hg2 with h | h <;> rcases hgg with h3 | h3 <;> omega) K12
  obtain ⟨u0,u1,u2,u3,-⟩:=box4 (set4k (b0:=.int .i64 Y.k) (b1:=.int .i64 Y.n) (b2:=stv Y.nm) (b3:=.slice ay Y.kids.len cy) Z2)
  exact ⟨ay,cy,rfl,Z2,_,rfl,u0,u1,u2,u3,g2,ay,cy,rfl,SE,CE,by rcases hg2 with h | h <;> rcases hgg with h3 | h3 <;> first | (left;omega) | (right;omega),by simpa using hl2,KE⟩
 by_cases hq:e.k=20∨e.k=21
 ·have hgd:(e.k == 20)=true∨((e.k == 20)=false∧(e.k == 21)=true):=by
   rcases Classical.em (e.k=20) with h | h
   ·exact .inl (by simpa using h)
   ·rcases hq with h2 | h2
    ·exact absurd h2 h
    ·exact .inr ⟨by simpa using h,by simpa using h2⟩
  have hkq:(e.k == 20 || e.k == 21)=true:=by rcases hq with h | h <;> simp [h]
  obtain ⟨h,hh⟩:∃ h,h=hgE e ar:=⟨_,rfl⟩
  have HY2:Hid ((Y,C2)=if (decide (h < rc) && decide (cs.length < 256))=true then (⟨26,cs.length,[],0,one (hstK e ar h (cs++[h])).1⟩,(hstK e ar h (cs++[h])).2) else hstK e ar rc cs):=by
   have h2:=HY.out
   unfold hstE at h2
   rw [if_neg (by simpa using hb26)] at h2
   unfold opnH at h2
   rw [hkq,Bool.true_and,←hh] at h2
   exact h2
  have c1:=hangd_ok (e.kids.size+1) e ao cap ar w0 (by omega) hf.len hf.sh hnv ha0 (by omega) S0.all
  rw [exN_out,←hh] at c1
  clear HY hq hkq hh S0
  rcases hgd with hb20 | ⟨hb20,hb21⟩
  all_goals (
   go_wp2_with fail
   refine c1.mono ?_
   rintro x w1 ⟨rfl,b1⟩
   have Z1:=(b1.block _ hzl).trans Z0
   have E1:=(b1.block _ (by omega)).trans E0
   have C1:=C0.below b1
   have K1:=K0.trans (Kp.ofBelow b1)
   have hg1:=Nat.lt_of_lt_of_le hg0 b1.size
   have hs1:=b1.size
   clear c1 p0 p1 p2 p3 pf E0 Z0 C0 K0 b1
   obtain ⟨p0,p1,p2,p3,pf⟩:=box4 E1
   obtain ⟨vv,D1,R1⟩:=C1.row
   obtain ⟨av,cv,hvv⟩:=R1.form
   subst hvv
   have d0:w1.cell? ⟨cb,0,none⟩=some (.slice av cs.length cv):=by rw [cell_of_row _ _ _ _ _ _ D1];rfl
   have df:∀ j,w1.frozen? ⟨cb,j,none⟩=false:=fun j=>frozen_of_row w1 cb j _ _ D1
   by_cases hop:h < rc∧cs.length < 256
   ·obtain ⟨hr2,hlt⟩:=hop
    have hltI:(cs.length:Int) < 256:=by omega
    have HYC:Hid (Y=⟨26,cs.length,[],0,one (hstK e ar h (cs++[h])).1⟩∧C2=(hstK e ar h (cs++[h])).2):=by
     have h2:=HY2.out
     rw [if_pos (by simp;omega)] at h2
     injection h2 with h3 h4
     exact ⟨h3,h4⟩
    have s1:=boxStep (fun _=>False) w1 (lab5 cb g) (.cells #[.int .i64 h] 3)
    have R2:=R1.step s1 id
    have D2:(w1.alloc (.cells #[.int .i64 h] 3)).heap[cb]?=some (.cells #[.slice av cs.length cv] 71 (0,0)):=(Below.heap_alloc w1 _ cb (lt_of_block D1)).trans D1
    have hone:∀ u ∈ [Value.int .i64 h],u.oneCell'=true:=by intro u hu;simp at hu;subst hu;rfl
    have q1:cs.length+1≤maxLen:=by unfold maxLen;omega
    have q2:(cs.length+1) * 8≤140737488355328:=by omega
    have hcb1:=lt_of_block D1
    have hl4:newLab w1 (lab5 cb g) 0 cb=4:=by rw [newLab_old hcb1];simp [lab5]
    clear STAY ENDS HY2 hlt
    go_wp2_with (first | (at_builtin;refine wpList_append_lab rfl (.tmp 47) (.tmp 49) 35 rfl 3 ii (.int .i64 0) 1 8 Tryz.underlying35 hii hzi0 hzi1 hzi2 rfl (by decide) (newLab w1 (lab5 cb g) 0) 5 _ cs.length (cs.map (Value.int .i64)) rfl R2 ⟨w1.heap.size,0,none⟩ 1 1 [.int .i64 h] rfl rfl (new_one w1 _ _) hone (by decide) q1 q2 ?_) | go_in)
    intro g2 c2 w2 o2 R3 s2
    have D3:=(s2.block cb (by simp;omega) (by rw [hl4];decide)).trans D2
    have hg2:o2 g2=5:=R3.2 g2 rfl
    have hgs:g2=g∨w1.heap.size≤g2:=by
     rcases Nat.lt_or_ge g2 w1.heap.size with h3 | h3
     ·have h4:=(s2.lab g2 (by simp;omega)).symm.trans hg2
      rw [newLab_old h3] at h4
      unfold lab5 at h4
      split at h4
      ·cases h4
      ·split at h4
       ·rename_i h5;exact .inl h5
       ·cases h4
     ·exact .inr h3
    have hgc:g2≠cb:=by
     intro h3
     have h4:=(s2.lab cb (by simp;omega)).trans hl4
     rw [←h3,hg2] at h4
     cases h4
    have K2:Kp cb g w1 w2:=by
     refine ⟨s2.os,s2.tape,s2.output,Nat.le_trans (by simp) s2.size,fun k hk h3 h4=>?_⟩
     refine (s2.block k (by simp;omega) ?_).trans (Below.heap_alloc w1 _ k hk)
     rw [newLab_old hk]
     unfold lab5
     rw [if_neg h3,if_neg h4]
     decide
    obtain ⟨w3,hw3⟩:∃ w3,w3=w2.setCell ⟨cb,0,none⟩ (.slice (some ⟨g2,0,none⟩) (cs.length+1) c2):=⟨_,rfl⟩
    have C3:CsD w3 cb g2 (cs++[h]):=by
     rw [hw3]
     refine ⟨_,(Blk.set (o:=fun _=>0) (i:=0) ⟨D3,rfl⟩ 0 _).1,?_,?_⟩
     ·have s3:Step (fun k=>k=4) w2 o2 (w2.setCell ⟨cb,0,none⟩ (.slice (some ⟨g2,0,none⟩) (cs.length+1) c2)) o2:=setStep _ w2 o2 ⟨cb,0,none⟩ _ ((s2.lab cb (by simp;omega)).trans hl4)
      have R4:=(R3.step s3 (by decide)).1
      rw [List.map_append,List.length_append]
      exact R4
     ·intro k hk
      simp [Value.ownBlock] at hk
      subst hk
      exact ⟨rfl,hgc⟩
    have hl3:g2 < w3.heap.size:=by rw [hw3];simpa using (R3.lt rfl:g2 < w2.heap.size)
    have K3:Kp cb g w w3:=by rw [hw3];exact K1.trans (K2.set _ _ (.inr (.inl rfl)))
    have hnb:=HB.out
    have hs3:w0.heap.size≤w3.heap.size:=by rw [hw3];have:=K2.size;simp;omega
    have hblk3:∀ k,k < w1.heap.size→k≠cb→k≠g→w3.heap[k]?=w1.heap[k]?:=fun k h3 h4 h5=>by rw [hw3];exact (heap_setCell_other w2 ⟨cb,0,none⟩ k _ h4).trans (K2.block k h3 h4 h5)
    have Z3:=(hblk3 (n0+1) (by omega) (by omega) (by omega)).trans Z1
    have E3:=(hblk3 n0 (by omega) (by omega) (by omega)).trans E1
    have hg2w:g2=g∨w0.heap.size≤g2:=by rcases hgs with h | h;exact .inl h;exact .inr (by omega)
    have c2':w2.cell? ⟨cb,0,none⟩=some (.slice av cs.length cv):=by rw [cell_of_row _ _ _ _ _ _ D3];rfl
    have f2:∀ j,w2.frozen? ⟨cb,j,none⟩=false:=fun j=>frozen_of_row w2 cb j _ _ D3
    clear D2 D3 R2 R3 s1 s2 K2 hgs hgc hone d0 df D1 R1 hg2 hl4 p0 p1 p2 p3 pf E1 Z1 C1 K1 hblk3
    go_upto_region 8 with fail
    rw [←hw3]
    clear hw3 c2' f2
    have c3:=IH e ao cap ar h (cs++[h]) cb g2 (fun k=>P k∧k < n0) w3 hN hf hnv ha0 ha1 (by simp;omega) hl3 (fun k hp=>⟨(hP k hp.1).1,by have h2:=(hP k hp.1).2;have:=hp.2;rcases hg2w with h | h <;> omega⟩) C3 (SP w3 K3)
    rw [exN_out] at c3
    generalize hstK e ar h (cs++[h])=yy at *
    obtain ⟨y,cy2⟩:=yy
    simp only at c3 HYC
    obtain ⟨p0,p1,p2,p3,pf⟩:=box4 E3
    clear E3 C3 hnb SP
    go_wp2_with fail
    refine c3.mono ?_
    rintro x w4 ⟨g3,ay,cy,rfl,S4,C4,hg3,hl4,K4⟩
    have hnb:=HB.out
    have Z4:=(K4.block (n0+1) (by omega) (by omega) (by rcases hg2w with h | h <;> omega)).trans Z3
    have K14:=K3.to K4 (by rcases hg2w with h | h;exact .inl h;exact .inr (by omega))
    have hg3w:g3=g∨w0.heap.size≤g3:=by rcases hg3 with h | h <;> rcases hg2w with h3 | h3 <;> first | (left;omega) | (right;omega)
    have hs4:=Nat.le_trans hs3 K4.size
    have b5:Below w4.heap.size w4 (w4.alloc (.cells #[.int .i64 y.k,.int .i64 y.n,stv y.nm,.slice ay y.kids.len cy] 34)):=(Below.refl _ w4).alloc (Nat.le_refl _) _
    have X5:(w4.alloc (.cells #[.int .i64 y.k,.int .i64 y.n,stv y.nm,.slice ay y.kids.len cy] 34)).heap[w4.heap.size]?=some (.cells #[.int .i64 y.k,.int .i64 y.n,stv y.nm,.slice ay y.kids.len cy] 34 (0,0)):=heap_alloc_new w4 _
    have Z5:(w4.alloc (.cells #[.int .i64 y.k,.int .i64 y.n,stv y.nm,.slice ay y.kids.len cy] 34)).heap[n0+1]?=some (.cells #[.int .i64 0,.int .i64 0,.string ⟨#[]⟩,.slice none 0 0] 34 (0,0)):=(b5.block _ (by omega)).trans Z4
    have S5:=S4.belowP b5
    have C5:=C4.below b5
    have K5:=K14.trans (Kp.ofBelow b5)
    have hs5:w0.heap.size≤(w4.alloc (.cells #[.int .i64 y.k,.int .i64 y.n,stv y.nm,.slice ay y.kids.len cy] 34)).heap.size:=by simp;omega
    have hl5:g3 < (w4.alloc (.cells #[.int .i64 y.k,.int .i64 y.n,stv y.nm,.slice ay y.kids.len cy] 34)).heap.size:=by simp;omega
    have hs35:w3.heap.size≤(w4.alloc (.cells #[.int .i64 y.k,.int .i64 y.n,stv y.nm,.slice ay y.kids.len cy] 34)).heap.size:=by have:=K4.size;simp;omega
    clear Z3 Z4 K3 K14 K4 c3 hg3 p0 p1 p2 p3 pf hnb S4 C4 b5 hs4 hl4
    rw [exN_out]
    go_upto_region 9 with fail
    generalize w4.alloc (.cells #[.int .i64 y.k,.int .i64 y.n,stv y.nm,.slice ay y.kids.len cy] 34)=w5 at *
    generalize w4.heap.size=kb at *
    have hnb:=HB.out
    have b6:Below w5.heap.size w5 (w5.alloc (.cells #[.int .i64 y.k,.int .i64 y.n,stv y.nm,.slice ay y.kids.len cy] 34)):=(Below.refl _ w5).alloc (Nat.le_refl _) _
    have Z6:(w5.alloc (.cells #[.int .i64 y.k,.int .i64 y.n,stv y.nm,.slice ay y.kids.len cy] 34)).heap[n0+1]?=some (.cells #[.int .i64 0,.int .i64 0,.string ⟨#[]⟩,.slice none 0 0] 34 (0,0)):=(b6.block _ (by omega)).trans Z5
    have S6:SlN (w5.alloc (.cells #[.int .i64 y.k,.int .i64 y.n,stv y.nm,.slice ay y.kids.len cy] 34)) (fun k=>(P k∧k < w.heap.size)∨(w.heap.size≤k∧k≠g3∧k≠n0+1)) (one y) (some ⟨w5.heap.size,0,none⟩) :=
     .inr ⟨w5.heap.size,0,[Value.int .i64 y.k,.int .i64 y.n,stv y.nm,.slice ay y.kids.len cy],rfl,.inr ⟨by omega,by omega,by omega⟩,by simp,fun j u hu=>by
      rw [Nat.zero_add,cell_of_row _ w5.heap.size j _ 34 (0,0) (heap_alloc_new w5 _)]
      simpa using hu,FcN.one cy ((S5.belowP b6).mono (fun _ _ _=>rfl) (Nat.le_refl _) (fun k hp _=>by
       rcases hp with hp | hp
       ·exact .inl ⟨hp.1.1,by have:=hp.1.2;omega⟩
       ·exact .inr ⟨by have:=hp.1;omega,hp.2,by have:=hp.1;omega⟩))⟩
    have C6:=C5.below b6
    have K6:=K5.trans (Kp.ofBelow b6)
    obtain ⟨SE,CE,KE⟩:=do_end (w:=w) (P:=P) (zb:=n0+1) (.int .i64 26) (.int .i64 (cs.length:Int)) (.string ⟨#[]⟩) (.slice (some ⟨w5.heap.size,0,none⟩) 1 1) (by omega) S6 C6 (by omega) (by rcases hg3w with h | h <;> omega) K6
    have HU:Hid (∃ wz,wz=(((((w5.alloc (.cells #[.int .i64 y.k,.int .i64 y.n,stv y.nm,.slice ay y.kids.len cy] 34)).setCell ⟨n0+1,0,none⟩ (.int .i64 26)).setCell ⟨n0+1,1,none⟩ (.int .i64 (cs.length:Int))).setCell ⟨n0+1,2,none⟩ (.string ⟨#[]⟩)).setCell ⟨n0+1,3,none⟩ (.slice (some ⟨w5.heap.size,0,none⟩) 1 1))∧wz.cell? ⟨n0+1,0,none⟩=some (.int .i64 26)∧wz.cell? ⟨n0+1,1,none⟩=some (.int .i64 (cs.length:Int))∧wz.cell? ⟨n0+1,2,none⟩=some (.string ⟨#[]⟩)∧wz.cell? ⟨n0+1,3,none⟩=some (.slice (some ⟨w5.heap.size,0,none⟩) 1 1)∧PostDo w P cb g Y C2 (.returned (.agg #[.int .i64 26,.int .i64 (cs.length:Int),.string ⟨#[]⟩,.slice (some ⟨w5.heap.size,0,none⟩) 1 1])) wz):=by
     obtain ⟨u0,u1,u2,u3,-⟩:=box4 (set4k (b0:=.int .i64 26) (b1:=.int .i64 (cs.length:Int)) (b2:=.string ⟨#[]⟩) (b3:=.slice (some ⟨w5.heap.size,0,none⟩) 1 1) Z6)
     refine ⟨_,rfl,u0,u1,u2,u3,?_⟩
     rw [HYC.out.1,HYC.out.2]
     exact ⟨g3,some ⟨w5.heap.size,0,none⟩,1,rfl,SE,CE,by rcases hg3w with h | h;exact .inl h;exact .inr (by omega),by simp;omega,KE⟩
    obtain ⟨z0,z1,z2,z3,zf⟩:=box4 Z6
    obtain ⟨q0,q1,q2,q3,qf⟩:=box4 X5
    clear Z5 Z6 K5 S5 C5 hnb SE CE KE S6 C6 K6 b6 X5
    go_wp2
    obtain ⟨wz,hwz,v0,v1,v2,v3,PZ⟩:=HU.out
    rw [←hwz]
    exact bodyPost_ret (v:=.agg #[.int .i64 26,.int .i64 (cs.length:Int),.string ⟨#[]⟩,.slice (some ⟨w5.heap.size,0,none⟩) 1 1]) (by simp [results,Tryz.results48,go_sem,v0,v1,v2,v3]) rfl PZ
   ·have HYC:Hid ((Y,C2)=hstK e ar rc cs):=by
     have h2:=HY2.out
     rw [if_neg (by simp;intro h3;by_cases h4:cs.length < 256;exact absurd ⟨h3,h4⟩ hop;omega)] at h2
     exact h2
    have c1:=STAY w1 g C1 (.inl rfl) hg1 K1 HYC
    have EN:=ENDS w1 g (.inl rfl) hs1 Z1 K1
    have hdd:h < rc∧¬ (cs.length:Int) < 256∨¬ h < rc:=by
     by_cases h3:h < rc
     ·exact .inl ⟨h3,fun h4=>hop ⟨h3,by omega⟩⟩
     ·exact .inr h3
    clear HY2 E1 Z1 C1 K1 D1 R1 hop SP
    rcases hdd with ⟨hd1,hd2⟩ | hd1
    all_goals (
     clear STAY ENDS
     go_wp2_with fail
     refine c1.mono ?_
     intro x w2 hx
     obtain ⟨ay,cy,rfl,Z2,HU⟩:=EN _ _ hx
     obtain ⟨z0,z1,z2,z3,zf⟩:=box4 Z2
     clear hx EN c1 p0 p1 p2 p3 pf Z2
     rw [exN_out]
     go_wp2
     obtain ⟨wz,hwz,v0,v1,v2,v3,PZ⟩:=HU.out
     rw [←hwz]
     exact bodyPost_ret (v:=exN Y ay cy) (by simp [results,Tryz.results48,go_sem,v0,v1,v2,v3,exN]) rfl PZ))
 ·have hb20:(e.k == 20)=false:=by simp;exact fun h=>hq (.inl h)
  have hb21:(e.k == 21)=false:=by simp;exact fun h=>hq (.inr h)
  have HYC:Hid ((Y,C2)=hstK e ar rc cs):=by
   have h:=HY.out
   unfold hstE at h
   rw [if_neg (by simpa using hb26),if_neg (by simp [opnH];exact fun h=>absurd h hq)] at h
   exact h
  have c1:=STAY w0 g C0 (.inl rfl) hg0 K0 HYC
  have EN:=ENDS w0 g (.inl rfl) (Nat.le_refl _) Z0 K0
  clear HY hq E0 Z0 C0 K0 S0 SP
  clear STAY ENDS
  go_wp2_with fail
  refine c1.mono ?_
  intro x w2 hx
  obtain ⟨ay,cy,rfl,Z2,HU⟩:=EN _ _ hx
  obtain ⟨z0,z1,z2,z3,zf⟩:=box4 Z2
  clear hx EN c1 p0 p1 p2 p3 pf Z2
  rw [exN_out]
  go_wp2
  obtain ⟨wz,hwz,v0,v1,v2,v3,PZ⟩:=HU.out
  rw [←hwz]
  exact bodyPost_ret (v:=exN Y ay cy) (by simp [results,Tryz.results48,go_sem,v0,v1,v2,v3,exN]) rfl PZ
theorem dpart_kids:∀ N,DPartOk N∧DKidsOk N
 | 0=>⟨fun e ao cap ar rc cs cb g P w h=>absurd h (Nat.not_lt_zero _),fun e ao cap ar rc cs cb g P w h=>absurd h (Nat.not_lt_zero _)⟩
 | N+1=>⟨dpart_of (dkids_step (dpart_kids N).1),dkids_step (dpart_kids N).1⟩
theorem dpart_ok (N:Nat):DPartOk N:=(dpart_kids N).1
end Go.Proofs.YtaihhnlfcndecaaGreatDoor

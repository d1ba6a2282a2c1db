import Derived.Test.YtaihhnlfcndecaaGreatDoorDopA
namespace Go.Proofs.YtaihhnlfcndecaaGreatDoor
open Go.ChangeShapes Go.WideShapes Go.ChangeAt Go.RowKit
set_option linter.unusedVariables false
set_option linter.unusedSimpArgs false
theorem ho_end {w wa:World} {cb g g' zb cap:Nat} {f:Fs} {ao:Option Addr} {cs:List Int} (a b c d:Value) (hz:w.heap.size≤zb) (S:SlcN wa (fun k=>w.heap.size≤k∧k≠g'∧k≠zb) f ao cap) (C:CsB wa cb g' cs) (hc:cb≠zb) (hg:g'≠zb) (K:Kp cb g w wa) :
  SlcN ((((wa.setCell ⟨zb,0,none⟩ a).setCell ⟨zb,1,none⟩ b).setCell ⟨zb,2,none⟩ c).setCell ⟨zb,3,none⟩ d) (fun k=>w.heap.size≤k∧k≠g') f ao cap∧CsB ((((wa.setCell ⟨zb,0,none⟩ a).setCell ⟨zb,1,none⟩ b).setCell ⟨zb,2,none⟩ c).setCell ⟨zb,3,none⟩ d) cb g' cs∧Kp cb g w ((((wa.setCell ⟨zb,0,none⟩ a).setCell ⟨zb,1,none⟩ b).setCell ⟨zb,2,none⟩ c).setCell ⟨zb,3,none⟩ d):=by
 have hb:∀ k,k≠zb→((((wa.setCell ⟨zb,0,none⟩ a).setCell ⟨zb,1,none⟩ b).setCell ⟨zb,2,none⟩ c).setCell ⟨zb,3,none⟩ d).heap[k]?=wa.heap[k]?:=fun k hk=>heap_set4 wa zb k _ _ _ _ hk
 have s:Step (fun k=>k=1) wa (fun k=>if k=zb then 1 else 0) ((((wa.setCell ⟨zb,0,none⟩ a).setCell ⟨zb,1,none⟩ b).setCell ⟨zb,2,none⟩ c).setCell ⟨zb,3,none⟩ d) (fun k=>if k=zb then 1 else 0) :=
  ⟨rfl,rfl,rfl,by simp,fun _ _=>rfl,fun k hk hn=>hb k (fun e=>hn (by rw [if_pos e]))⟩
 exact ⟨S.mono (fun k hp _=>hb k hp.2.2) (by simp) (fun k hp _=>⟨hp.1,hp.2.1⟩),C.step s (by rw [if_neg hc];decide) (by rw [if_neg hg];decide),(((K.set _ _ (.inl hz)).set _ _ (.inl hz)).set _ _ (.inl hz)).set _ _ (.inl hz)⟩
set_option maxRecDepth 100000 in
set_option maxHeartbeats 8000000 in
theorem through_of {N:Nat} (IH:InsOk N):ThrOk N:=by
 intro e ao cap ar rc cs cb g w hN hf hnv hq2 ha0 ha1 hcs hg HC S
 obtain ⟨Y,hY⟩:∃ Y,Y=(hstE e ar rc cs).1:=⟨_,rfl⟩
 obtain ⟨C2,hC2⟩:∃ C2,C2=(hstE e ar rc cs).2:=⟨_,rfl⟩
 have HY:Hid ((Y,C2)=hstE e ar rc cs):=by show _=_;rw [hY,hC2]
 rw [←hY,←hC2]
 clear hY hC2
 obtain ⟨w0,hw0⟩:∃ w0,w0=((w.alloc (.cells #[.func (.func 49) #[] #[.pointer (some ⟨cb,0,none⟩)]] 75)).alloc (.cells #[.int .i64 e.k,.int .i64 e.n,stv e.nm,.slice ao e.kids.len cap] 34)).alloc (.cells #[.int .i64 0,.int .i64 0,.string ⟨#[]⟩,.slice none 0 0] 34):=⟨_,rfl⟩
 have B0:Below w.heap.size w w0:=by rw [hw0];exact (((Below.refl _ w).alloc (Nat.le_refl _) _).alloc (by simp) _).alloc (by simp;omega) _
 have hcb:=HC.lt
 have W0:w0.heap[w.heap.size]?=some (.cells #[.func (.func 49) #[] #[.pointer (some ⟨cb,0,none⟩)]] 75):=by
  rw [hw0]
  exact (Below.heap_alloc _ _ _ (by simp;omega)).trans ((Below.heap_alloc _ _ _ (by simp)).trans (heap_alloc_new w _))
 have E0:w0.heap[w.heap.size+1]?=some (.cells #[.int .i64 e.k,.int .i64 e.n,stv e.nm,.slice ao e.kids.len cap] 34):=by
  rw [hw0]
  refine (Below.heap_alloc _ _ _ (by simp)).trans ?_
  have:=heap_alloc_new (w.alloc (.cells #[.func (.func 49) #[] #[.pointer (some ⟨cb,0,none⟩)]] 75)) (.cells #[.int .i64 e.k,.int .i64 e.n,stv e.nm,.slice ao e.kids.len cap] 34)
  simpa using this
 have Z0:w0.heap[w.heap.size+1+1]?=some (.cells #[.int .i64 0,.int .i64 0,.string ⟨#[]⟩,.slice none 0 0] 34 (0,0)):=by
  rw [hw0]
  have:=heap_alloc_new ((w.alloc (.cells #[.func (.func 49) #[] #[.pointer (some ⟨cb,0,none⟩)]] 75)).alloc (.cells #[.int .i64 e.k,.int .i64 e.n,stv e.nm,.slice ao e.kids.len cap] 34)) (.cells #[.int .i64 0,.int .i64 0,.string ⟨#[]⟩,.slice none 0 0] 34)
  simpa using this
 have C0:=HC.below B0
 have K0:Kp cb g w w0:=Kp.ofBelow B0
 have S0:=S.belowP B0
 have hg0:g < w0.heap.size:=Nat.lt_of_lt_of_le hg B0.size
 rw [exN_out]
 go_enter Tryz.func50,Tryz.ntmps50
 go_upto_region 1 with fail
 rw [←hw0]
 clear hw0
 obtain ⟨n0,hn0⟩:∃ n0,n0=w.heap.size:=⟨_,rfl⟩
 rw [←hn0] at W0 E0 Z0 hg hcb ⊢
 have HB:Hid (n0=w.heap.size):=hn0
 clear hn0 HC
 obtain ⟨p0,p1,p2,p3,pf⟩:=box4 E0
 have ws0:w0.cell? ⟨n0,0,none⟩=some (.func (.func 49) #[] #[.pointer (some ⟨cb,0,none⟩)]):=by rw [cell_of_row _ _ _ _ _ _ W0];rfl
 have hzl:=lt_of_block Z0
 by_cases h26:e.k=26
 ·have hb26:(e.k == 26)=true:=by simpa using h26
  have HYC:Hid (Y=e∧C2=cs):=by
   have h:=HY.out
   unfold hstE at h
   rw [if_pos h26] at h
   injection h with h1 h2
   exact ⟨h1,h2⟩
  have c1:=copyn_ok (e.kids.size+1) e ao cap w0 (by omega) hf.len hf.sh S0.all
  rw [exN_out] at c1
  clear HY h26 S0
  go_wp2_with fail
  refine c1.mono ?_
  rintro x w1 ⟨ay,cy,rfl,S1,b1⟩
  have Z1:=(b1.block _ hzl).trans Z0
  have C1:=C0.below b1
  have K1:=K0.trans (Kp.ofBelow b1)
  have hg1:=Nat.lt_of_lt_of_le hg0 b1.size
  obtain ⟨SE,CE,KE⟩:=ho_end (zb:=n0+1+1) (.int .i64 e.k) (.int .i64 e.n) (stv e.nm) (.slice ay e.kids.len cy) (by rw [←HB.out];omega) (S1.mono (fun _ _ _=>rfl) (Nat.le_refl _) (fun k hp _=>by have hp:w0.heap.size≤k:=hp;have:=HB.out;exact ⟨by omega,by omega,by omega⟩)) C1 (by omega) (by omega) K1
  have HU:Hid (∃ wz,wz=((((w1.setCell ⟨n0+1+1,0,none⟩ (.int .i64 e.k)).setCell ⟨n0+1+1,1,none⟩ (.int .i64 e.n)).setCell ⟨n0+1+1,2,none⟩ (stv e.nm)).setCell ⟨n0+1+1,3,none⟩ (.slice ay e.kids.len cy))∧wz.cell? ⟨n0+1+1,0,none⟩=some (.int .i64 e.k)∧wz.cell? ⟨n0+1+1,1,none⟩=some (.int .i64 e.n)∧wz.cell? ⟨n0+1+1,2,none⟩=some (stv e.nm)∧wz.cell? ⟨n0+1+1,3,none⟩=some (.slice ay e.kids.len cy)∧PostHo w cb g Y C2 (.returned (exN e ay cy)) wz):=by
   obtain ⟨u0,u1,u2,u3,-⟩:=box4 (set4k (b0:=.int .i64 e.k) (b1:=.int .i64 e.n) (b2:=stv e.nm) (b3:=.slice ay e.kids.len cy) Z1)
   refine ⟨_,rfl,u0,u1,u2,u3,?_⟩
   rw [HYC.out.1,HYC.out.2]
   exact ⟨g,ay,cy,rfl,SE,CE,.inl rfl,by simpa using hg1,KE⟩
  obtain ⟨z0,z1,z2,z3,zf⟩:=box4 Z1
  clear c1 SE CE KE Z1 C1 K1 S1 b1 p0 p1 p2 p3 pf ws0 E0 W0 Z0 C0 K0
  rw [exN_out]
  go_wp2
  obtain ⟨wz,hwz,v0,v1,v2,v3,PZ⟩:=HU.out
  rw [←hwz]
  exact bodyPost_ret (v:=exN e ay cy) (by simp [results,Tryz.results50,go_sem,v0,v1,v2,v3,exN]) rfl PZ
 have hb26:(e.k == 26)=false:=by simpa using h26
 clear h26
 -- what stays
 have STAY:∀ (w1:World) (g1:Nat),CsB w1 cb g1 cs→(g1=g∨w0.heap.size≤g1)→g1 < w1.heap.size→Kp cb g w w1→Hid ((Y,C2)=hstK e ar rc cs)→Calls Tryz.prog 81 #[.agg #[.func (.func 49) #[] #[.pointer (some ⟨cb,0,none⟩)]],.agg #[.int .i64 e.k,.int .i64 e.n,stv e.nm,.slice ao e.kids.len cap],.int .i64 ar,.int .i64 rc] w1 (PostHo w1 cb g1 Y C2):=by
  intro w1 g1 c1 hgg hg1 K1 hy
  have c:=IH e ao cap ar rc cs cb g1 w1 hN hf hnv hq2 ha0 ha1 hcs hg1 c1 (S.mono (fun k hp hl=>K1.block k hl hp.1 hp.2) K1.size (fun k hp hl=>⟨hp.1,by have:=HB.out;have:=hp.2;rcases hgg with h | h <;> omega⟩))
  rw [exN_out] at c
  have h1:Y=(hstK e ar rc cs).1:=by rw [←hy.out]
  have h2:C2=(hstK e ar rc cs).2:=by rw [←hy.out]
  rw [h1,h2]
  exact c
 have ENDS:∀ (w1:World) (g1:Nat),(g1=g∨w0.heap.size≤g1)→w0.heap.size≤w1.heap.size→w1.heap[n0+1+1]?=some (.cells #[.int .i64 0,.int .i64 0,.string ⟨#[]⟩,.slice none 0 0] 34 (0,0))→Kp cb g w w1→∀ (x:Ending) (w2:World),PostHo w1 cb g1 Y C2 x w2→∃ ay cy,x=.returned (exN Y ay cy)∧w2.heap[n0+1+1]?=some (.cells #[.int .i64 0,.int .i64 0,.string ⟨#[]⟩,.slice none 0 0] 34 (0,0))∧Hid (∃ wz,wz=((((w2.setCell ⟨n0+1+1,0,none⟩ (.int .i64 Y.k)).setCell ⟨n0+1+1,1,none⟩ (.int .i64 Y.n)).setCell ⟨n0+1+1,2,none⟩ (stv Y.nm)).setCell ⟨n0+1+1,3,none⟩ (.slice ay Y.kids.len cy))∧wz.cell? ⟨n0+1+1,0,none⟩=some (.int .i64 Y.k)∧wz.cell? ⟨n0+1+1,1,none⟩=some (.int .i64 Y.n)∧wz.cell? ⟨n0+1+1,2,none⟩=some (stv Y.nm)∧wz.cell? ⟨n0+1+1,3,none⟩=some (.slice ay Y.kids.len cy)∧PostHo w cb g Y C2 (.returned (exN Y ay cy)) wz):=by
  rintro w1 g1 hgg hs1 Z1 K1 x w2 ⟨g2,ay,cy,rfl,S2,C2',hg2,hl2,K2⟩
  have hnb:=HB.out
  have Z2:=(K2.block (n0+1+1) (by omega) (by omega) (by rcases hgg with h | h <;> omega)).trans Z1
  have K12:=K1.to K2 (by rcases hgg with h | h;exact .inl h;exact .inr (by omega))
  obtain ⟨SE,CE,KE⟩:=ho_end (zb:=n0+1+1) (.int .i64 Y.k) (.int .i64 Y.n) (stv Y.nm) (.slice ay Y.kids.len cy) (by omega) (S2.mono (fun _ _ _=>rfl) (Nat.le_refl _) (fun k hp _=>⟨by have:=hp.1;omega,hp.2,by have:=hp.1;omega⟩)) C2' (by omega) (by rcases hg2 with h | h <;> rcases hgg with h3 | h3 <;> omega) K12
  obtain ⟨u0,u1,u2,u3,-⟩:=box4 (set4k (b0:=.int .i64 Y.k) (b1:=.int .i64 Y.n) (b2:=stv Y.nm) (b3:=.slice ay Y.kids.len cy) Z2)
  exact ⟨ay,cy,rfl,Z2,_,rfl,u0,u1,u2,u3,g2,ay,cy,rfl,SE,CE,by rcases hg2 with h | h <;> rcases hgg with h3 | h3 <;> first | (left;omega) | (right;omega),by simpa using hl2,KE⟩
 have RET:True:=trivial
 by_cases hq:e.k=20∨e.k=21
 ·have hgd:(e.k == 20)=true∨((e.k == 20)=false∧(e.k == 21)=true):=by
   rcases Classical.em (e.k=20) with h | h
   ·exact .inl (by simpa using h)
   ·rcases hq with h2 | h2
    ·exact absurd h2 h
    ·exact .inr ⟨by simpa using h,by simpa using h2⟩
  have hkq:(e.k == 20 || e.k == 21)=true:=by rcases hq with h | h <;> simp [h]
  obtain ⟨h,hh⟩:∃ h,h=hgE e ar:=⟨_,rfl⟩
  have HY2:Hid ((Y,C2)=if (decide (h < rc) && decide (cs.length < 256))=true then (⟨26,cs.length,[],0,one (hstK e ar h (cs++[h])).1⟩,(hstK e ar h (cs++[h])).2) else hstK e ar rc cs):=by
   have h2:=HY.out
   unfold hstE at h2
   rw [if_neg (by simpa using hb26)] at h2
   unfold opnH at h2
   rw [hkq,Bool.true_and,←hh] at h2
   exact h2
  have c1:=hangn_ok (e.kids.size+1) e ao cap ar w0 (by omega) hf.len hf.sh hnv ha0 (by omega) S0.all
  rw [exN_out,←hh] at c1
  clear HY hq hkq hh S0
  rcases hgd with hb20 | ⟨hb20,hb21⟩
  all_goals (
   go_wp2_with fail
   refine c1.mono ?_
   rintro x w1 ⟨rfl,b1⟩
   have Z1:=(b1.block _ hzl).trans Z0
   have E1:=(b1.block _ (by omega)).trans E0
   have W1:=(b1.block _ (by omega)).trans W0
   have C1:=C0.below b1
   have K1:=K0.trans (Kp.ofBelow b1)
   have hg1:=Nat.lt_of_lt_of_le hg0 b1.size
   have hs1:=b1.size
   clear c1 p0 p1 p2 p3 pf ws0 E0 W0 Z0 C0 K0 b1
   obtain ⟨p0,p1,p2,p3,pf⟩:=box4 E1
   have ws0:w1.cell? ⟨n0,0,none⟩=some (.func (.func 49) #[] #[.pointer (some ⟨cb,0,none⟩)]):=by rw [cell_of_row _ _ _ _ _ _ W1];rfl
   by_cases hr:rc≤h
   ·have HYC:Hid ((Y,C2)=hstK e ar rc cs):=by
     have h2:=HY2.out
     rw [if_neg (by simp;intro h3;omega)] at h2
     exact h2
    have c1:=STAY w1 g C1 (.inl rfl) hg1 K1 HYC
    have EN:=ENDS w1 g (.inl rfl) hs1 Z1 K1
    clear STAY ENDS HY2 E1 W1 Z1 C1 K1
    go_wp2_with fail
    refine c1.mono ?_
    intro x w2 hx
    obtain ⟨ay,cy,rfl,Z2,HU⟩:=EN _ _ hx
    obtain ⟨z0,z1,z2,z3,zf⟩:=box4 Z2
    clear hx EN c1 p0 p1 p2 p3 pf ws0 Z2
    rw [exN_out]
    go_wp2
    obtain ⟨wz,hwz,v0,v1,v2,v3,PZ⟩:=HU.out
    rw [←hwz]
    exact bodyPost_ret (v:=exN Y ay cy) (by simp [results,Tryz.results50,go_sem,v0,v1,v2,v3,exN]) rfl PZ
   ·have c2:=open_c w1 cb g cs h hcs hg1 C1
    have hr2:h < rc:=by omega
    clear hr
    go_wp2_with fail
    refine c2.mono ?_
    rintro x w2 ⟨rfl,g2,C2',hg2,hl2,K2⟩
    have hnb:=HB.out
    have Z2:=(K2.block (n0+1+1) (by omega) (by omega) (by omega)).trans Z1
    have E2:=(K2.block (n0+1) (by omega) (by omega) (by omega)).trans E1
    have W2:=(K2.block n0 (by omega) (by omega) (by omega)).trans W1
    have K12:=K1.to K2 (.inl rfl)
    have hs2:=Nat.le_trans hs1 K2.size
    have hg2w:g2=g∨w0.heap.size≤g2:=by rcases hg2 with h | h;exact .inl h;exact .inr (by omega)
    clear c2 p0 p1 p2 p3 pf ws0 E1 W1 Z1 C1 K1 hg2
    obtain ⟨p0,p1,p2,p3,pf⟩:=box4 E2
    have ws0:w2.cell? ⟨n0,0,none⟩=some (.func (.func 49) #[] #[.pointer (some ⟨cb,0,none⟩)]):=by rw [cell_of_row _ _ _ _ _ _ W2];rfl
    by_cases hlt:cs.length < 256
    ·have hop:opnC cs h=cs++[h]:=by unfold opnC;rw [if_pos hlt]
     rw [hop] at C2'
     have HYC:Hid (Y=⟨26,cs.length,[],0,one (hstK e ar h (cs++[h])).1⟩∧C2=(hstK e ar h (cs++[h])).2):=by
      have h2:=HY2.out
      rw [if_pos (by simp;omega)] at h2
      injection h2 with h3 h4
      exact ⟨h3,h4⟩
     have c3:=IH e ao cap ar h (cs++[h]) cb g2 w2 hN hf hnv hq2 ha0 ha1 (by simp;omega) hl2 C2' (S.mono (fun k hp hl=>K12.block k hl hp.1 hp.2) K12.size (fun k hp hl=>⟨hp.1,by have:=hp.2;rcases hg2w with h | h <;> omega⟩))
     rw [exN_out] at c3
     generalize hstK e ar h (cs++[h])=yy at *
     obtain ⟨y,cy2⟩:=yy
     simp only at c3 HYC
     have hans:(Ending.returned (.tuple #[.int .i64 (if cs.length < 256 then (cs.length:Int) else 0),.bool (decide (cs.length < 256))]))=.returned (.tuple #[.int .i64 (cs.length:Int),.bool true]):=by rw [if_pos hlt,decide_eq_true hlt]
     rw [hans]
     clear STAY ENDS HY2 E2 W2 C2' hlt hop hans hcs hnb
     go_wp2_with fail
     refine c3.mono ?_
     rintro x w3 ⟨g3,ay,cy,rfl,S3,C3,hg3,hl3,K3⟩
     have hnb:=HB.out
     have Z3:=(K3.block (n0+1+1) (by omega) (by omega) (by rcases hg2w with h | h <;> omega)).trans Z2
     have K13:=K12.to K3 (by rcases hg2w with h | h;exact .inl h;exact .inr (by omega))
     have hg3w:g3=g∨w0.heap.size≤g3:=by rcases hg3 with h | h <;> rcases hg2w with h3 | h3 <;> first | (left;omega) | (right;omega)
     have hs3:=Nat.le_trans hs2 K3.size
     have b4:Below w3.heap.size w3 (w3.alloc (.cells #[.int .i64 y.k,.int .i64 y.n,stv y.nm,.slice ay y.kids.len cy] 34)):=(Below.refl _ w3).alloc (Nat.le_refl _) _
     have Z4:(w3.alloc (.cells #[.int .i64 y.k,.int .i64 y.n,stv y.nm,.slice ay y.kids.len cy] 34)).heap[n0+1+1]?=some (.cells #[.int .i64 0,.int .i64 0,.string ⟨#[]⟩,.slice none 0 0] 34 (0,0)):=(b4.block _ (by omega)).trans Z3
     have S4:SlcN (w3.alloc (.cells #[.int .i64 y.k,.int .i64 y.n,stv y.nm,.slice ay y.kids.len cy] 34)) (fun k=>w.heap.size≤k∧k≠g3∧k≠n0+1+1) (one y) (some ⟨w3.heap.size,0,none⟩) 1 :=
      SlcN.freshP [.int .i64 y.k,.int .i64 y.n,stv y.nm,.slice ay y.kids.len cy] (FcNC.one cy (S3.mono (fun _ _ _=>rfl) (Nat.le_refl _) (fun k hp _=>⟨by have:=hp.1;omega,hp.2,by have:=hp.1;omega⟩))) ⟨by omega,by omega,by omega⟩ 1 rfl
     have C4:=C3.below b4
     have K4:=K13.trans (Kp.ofBelow b4)
     obtain ⟨SE,CE,KE⟩:=ho_end (zb:=n0+1+1) (.int .i64 26) (.int .i64 (cs.length:Int)) (.string ⟨#[]⟩) (.slice (some ⟨w3.heap.size,0,none⟩) 1 1) (by omega) S4 C4 (by omega) (by rcases hg3w with h | h <;> omega) K4
     have HU:Hid (∃ wz,wz=(((((w3.alloc (.cells #[.int .i64 y.k,.int .i64 y.n,stv y.nm,.slice ay y.kids.len cy] 34)).setCell ⟨n0+1+1,0,none⟩ (.int .i64 26)).setCell ⟨n0+1+1,1,none⟩ (.int .i64 (cs.length:Int))).setCell ⟨n0+1+1,2,none⟩ (.string ⟨#[]⟩)).setCell ⟨n0+1+1,3,none⟩ (.slice (some ⟨w3.heap.size,0,none⟩) 1 1))∧wz.cell? ⟨n0+1+1,0,none⟩=some (.int .i64 26)∧wz.cell? ⟨n0+1+1,1,none⟩=some (.int .i64 (cs.length:Int))∧wz.cell? ⟨n0+1+1,2,none⟩=some (.string ⟨#[]⟩)∧wz.cell? ⟨n0+1+1,3,none⟩=some (.slice (some ⟨w3.heap.size,0,none⟩) 1 1)∧PostHo w cb g Y C2 (.returned (.agg #[.int .i64 26,.int .i64 (cs.length:Int),.string ⟨#[]⟩,.slice (some ⟨w3.heap.size,0,none⟩) 1 1])) wz):=by
      obtain ⟨u0,u1,u2,u3,-⟩:=box4 (set4k (b0:=.int .i64 26) (b1:=.int .i64 (cs.length:Int)) (b2:=.string ⟨#[]⟩) (b3:=.slice (some ⟨w3.heap.size,0,none⟩) 1 1) Z4)
      refine ⟨_,rfl,u0,u1,u2,u3,?_⟩
      rw [HYC.out.1,HYC.out.2]
      exact ⟨g3,some ⟨w3.heap.size,0,none⟩,1,rfl,SE,CE,by rcases hg3w with h | h;exact .inl h;exact .inr (by omega),by simp;omega,KE⟩
     clear Z2 Z3 K12 K13 K3 c3 hg3 p0 p1 p2 p3 pf ws0 hnb SE CE KE S3 C3 S4 C4 K4 b4
     obtain ⟨z0,z1,z2,z3,zf⟩:=box4 Z4
     clear Z4
     rw [exN_out]
     go_wp2
     obtain ⟨wz,hwz,v0,v1,v2,v3,PZ⟩:=HU.out
     rw [←hwz]
     exact bodyPost_ret (v:=.agg #[.int .i64 26,.int .i64 (cs.length:Int),.string ⟨#[]⟩,.slice (some ⟨w3.heap.size,0,none⟩) 1 1]) (by simp [results,Tryz.results50,go_sem,v0,v1,v2,v3]) rfl PZ
    ·have HYC:Hid ((Y,C2)=hstK e ar rc cs):=by
      have h2:=HY2.out
      rw [if_neg (by simp;intro h3;omega)] at h2
      exact h2
     have hop:opnC cs h=cs:=by unfold opnC;rw [if_neg hlt]
     rw [hop] at C2'
     have c1:=STAY w2 g2 C2' hg2w hl2 K12 HYC
     have EN:=ENDS w2 g2 hg2w hs2 Z2 K12
     have hans:(Ending.returned (.tuple #[.int .i64 (if cs.length < 256 then (cs.length:Int) else 0),.bool (decide (cs.length < 256))]))=.returned (.tuple #[.int .i64 0,.bool false]):=by rw [if_neg hlt,decide_eq_false hlt]
     rw [hans]
     clear STAY ENDS HY2 E2 W2 Z2 C2' K12 hlt hop hans hcs hnb
     go_wp2_with fail
     refine c1.mono ?_
     intro x w3 hx
     obtain ⟨ay,cy,rfl,Z2,HU⟩:=EN _ _ hx
     obtain ⟨z0,z1,z2,z3,zf⟩:=box4 Z2
     clear hx EN c1 p0 p1 p2 p3 pf ws0 Z2
     rw [exN_out]
     go_wp2
     obtain ⟨wz,hwz,v0,v1,v2,v3,PZ⟩:=HU.out
     rw [←hwz]
     exact bodyPost_ret (v:=exN Y ay cy) (by simp [results,Tryz.results50,go_sem,v0,v1,v2,v3,exN]) rfl PZ)
 ·have hb20:(e.k == 20)=false:=by simp;exact fun h=>hq (.inl h)
  have hb21:(e.k == 21)=false:=by simp;exact fun h=>hq (.inr h)
  have HYC:Hid ((Y,C2)=hstK e ar rc cs):=by
   have h:=HY.out
   unfold hstE at h
   rw [if_neg (by simpa using hb26),if_neg (by simp [opnH];exact fun h=>absurd h hq)] at h
   exact h
  have c1:=STAY w0 g C0 (.inl rfl) hg0 K0 HYC
  have EN:=ENDS w0 g (.inl rfl) (Nat.le_refl _) Z0 K0
  clear STAY ENDS HY hq
  go_wp2_with fail
  refine c1.mono ?_
  intro x w1 hx
  obtain ⟨ay,cy,rfl,Z2,HU⟩:=EN _ _ hx
  obtain ⟨z0,z1,z2,z3,zf⟩:=box4 Z2
  clear hx EN c1 p0 p1 p2 p3 pf ws0 E0 W0 Z0 C0 K0 Z2 S0
  rw [exN_out]
  go_wp2
  obtain ⟨wz,hwz,v0,v1,v2,v3,PZ⟩:=HU.out
  rw [←hwz]
  exact bodyPost_ret (v:=exN Y ay cy) (by simp [results,Tryz.results50,go_sem,v0,v1,v2,v3,exN]) rfl PZ
theorem thr_ins_ok:∀ N,ThrOk N∧InsOk N
 | 0=>⟨fun e ao cap ar rc cs cb g w h=>absurd h (Nat.not_lt_zero _),fun e ao cap ar rc cs cb g w h=>absurd h (Nat.not_lt_zero _)⟩
 | N+1=>⟨through_of (inside_step (thr_ins_ok N).1),inside_step (thr_ins_ok N).1⟩
theorem thr_ok (N:Nat):ThrOk N:=(thr_ins_ok N).1
theorem Row.madeZ {w:World} {o:Nat→Nat} {lb:Nat} {t:TypeId} {X:Array Value} (hX:X=#[]):Row (w.alloc (.cells X t)) (newLab w o lb) lb t 1 (.slice (some ⟨w.heap.size,0,none⟩) 0 0) 0 []:=by
 subst hX
 exact Row.madeS (X:=#[]) rfl rfl (by unfold maxLen;omega)
set_option maxRecDepth 100000 in
theorem clonei_c (w:World) (v:Value) (xs:List Int) (o:Nat→Nat) (h:InA w v xs) (hl:xs.length≤100000) :
  Calls Tryz.prog 41 #[v] w fun e w'=>∃ v' o',e=.returned v'∧Row w' o' 5 3 1 v' xs.length (xs.map (Value.int .i64))∧Step (fun k=>k=5) w o w' o':=by
 obtain ⟨ii,hii,hzi0,hzi1,hzi2⟩:=info_parts infoInt
 have hnil:∀ (W:World) (a:Option Addr) (n c:Nat),(binOp .eql 35 (.slice a n c) (.slice none 0 0)).run Tryz.prog W=.ok (.bool a.isNone) W:=fun W a n c=>Lib.run_eql_slice_nil W _ _ a n c 0 0 Tryz.underlying35
 obtain ⟨ao,cap,rfl,hx⟩:=h
 by_cases h0:xs=[]
 ·subst h0
  cases ao with
  | none =>
   clear hx
   go_enter Tryz.func41,Tryz.ntmps41
   go_wp2
   go_ret
   exact ⟨_,o,rfl,Row.nil _ _ _ _ _,Step.refl _ _ _⟩
  | some a =>
   clear hx
   go_enter Tryz.func41,Tryz.ntmps41
   go_wp2
   go_ret
   exact ⟨_,newLab w o 5,rfl,Row.madeZ rfl,newStep _ w o 5 _⟩
 ·rcases hx with hx | ⟨b,off,rfl,-,hlt,hcell⟩
  ·exact absurd hx h0
  have hpos:xs.length≠0:=fun h=>h0 (List.length_eq_zero_iff.1 h)
  have s0:=newStep (fun _=>False) w o 5 (.cells #[] 3)
  have R0:Row (w.alloc (.cells #[] 3)) (newLab w o 5) 5 3 1 (.slice (some ⟨w.heap.size,0,none⟩) 0 0) 0 []:=Row.madeZ rfl
  have hnews:∀ j u,(xs.map (Value.int .i64))[j]?=some u→(w.alloc (.cells #[] 3)).cell? ((⟨b,off,none⟩:Addr).add j)=some u:=fun j u hj=>by
   rw [List.getElem?_map] at hj
   cases hb:xs[j]? with
   | none=>rw [hb] at hj;cases hj
   | some t =>
    rw [hb] at hj
    injection hj with hj
    subst hj
    have h2:(w.alloc (.cells #[] 3)).cell? ⟨b,off+j,none⟩=w.cell? ⟨b,off+j,none⟩:=World.cell?_of_block (a:=⟨b,off+j,none⟩) (Below.heap_alloc w _ b hlt)
    have h3:((⟨b,off,none⟩:Addr).add j)=⟨b,off+j,none⟩:=by simp [Addr.add];try exact Eq.symm
    rw [h3,h2]
    exact hcell j t hb
  have hone:∀ u ∈ xs.map (Value.int .i64),u.oneCell'=true:=fun u hu=>by
   obtain ⟨x,_,rfl⟩:=List.mem_map.1 hu;rfl
  clear hcell
  go_enter Tryz.func41,Tryz.ntmps41
  go_wp2_with (first | (at_builtin;refine wpList_append_lab rfl (.tmp 5) (.tmp 6) 35 rfl 3 ii (.int .i64 0) 1 8 Tryz.underlying35 hii hzi0 hzi1 hzi2 rfl (by decide) _ 5 _ 0 [] rfl R0 ⟨b,off,none⟩ xs.length cap (xs.map (Value.int .i64)) rfl ?c1 hnews hone (by omega) ?c3 ?c4 ?_) | go_in)
  case c1=>simp
  case c3=>unfold maxLen;omega
  case c4=>omega
  intro g7 c7 w7 o7 r7 s7
  have HS:Hid (Step (fun k=>k=5) w o w7 o7∧Row w7 o7 5 3 1 (.slice (some ⟨g7,0,none⟩) (0+xs.length) c7) xs.length (xs.map (Value.int .i64))):=by
   refine ⟨(s0.mono fun _ h=>h.elim).trans s7,?_⟩
   simp only [Nat.zero_add] at r7 ⊢
   exact r7
  clear s7 r7 s0 R0 hnews hone
  go_wp2
  go_ret
  exact ⟨_,o7,rfl,by simpa using HS.out.2,HS.out.1⟩
def PostHs (w:World) (e:Ex) (cells:List Int) (x:Ending) (w':World):Prop :=
 if kindP cells e=0 then x=.returned (.tuple #[.agg #[.int .i64 0,.int .i64 0,.string ⟨#[]⟩,.slice none 0 0,.slice none 0 0],.int .i64 140])∧Below w.heap.size w w'
 else ∃ g ay cy v,x=.returned (.tuple #[plV (hstE e 0 0 cells).1 ay cy v,.int .i64 0])∧SlcN w' (fun k=>w.heap.size≤k∧k≠g) (hstE e 0 0 cells).1.kids ay cy∧w'.ownsRow 0 3 1 v (hstE e 0 0 cells).2.length ((hstE e 0 0 cells).2.map (Value.int .i64))∧(∀ k,v.ownBlock=some k→k=g∧w.heap.size≤k)∧Below w.heap.size w w'
set_option maxRecDepth 100000 in
set_option maxHeartbeats 4000000 in
theorem hoist_c (e:Ex) (ao:Option Addr) (cap:Nat) (cv:Value) (cells:List Int) (w:World) (hf:FitN e) (hsz:(e.kids.size:Int)+2≤1000000000) (hW:Wd w) (hc:InA w cv cells) (hcl:cells.length≤1000000000) (S:SnA w e.kids ao) :
  Calls Tryz.prog 25 #[plV e ao cap cv] w (PostHs w e cells):=by
 obtain ⟨ac,cc,hcv,hcx⟩:=hc
 have hc:InA w cv cells:=⟨ac,cc,hcv,hcx⟩
 subst hcv
 clear hcx
 obtain ⟨w0,hw0⟩:∃ w0,w0=(w.alloc (.cells #[.int .i64 e.k,.int .i64 e.n,stv e.nm,.slice ao e.kids.len cap,.slice ac cells.length cc] 37)).alloc (.cells #[.int .i64 0,.int .i64 0,.string ⟨#[]⟩,.slice none 0 0,.slice none 0 0] 37):=⟨_,rfl⟩
 have B0:Below w.heap.size w w0:=by rw [hw0];exact ((Below.refl _ w).alloc (Nat.le_refl _) _).alloc (by simp) _
 have P0:w0.heap[w.heap.size]?=some (.cells #[.int .i64 e.k,.int .i64 e.n,stv e.nm,.slice ao e.kids.len cap,.slice ac cells.length cc] 37 (0,0)):=by
  rw [hw0]
  exact (Below.heap_alloc _ _ _ (by simp)).trans (heap_alloc_new w _)
 have Z0:w0.heap[w.heap.size+1]?=some (.cells #[.int .i64 0,.int .i64 0,.string ⟨#[]⟩,.slice none 0 0,.slice none 0 0] 37 (0,0)):=by
  rw [hw0]
  have:=heap_alloc_new (w.alloc (.cells #[.int .i64 e.k,.int .i64 e.n,stv e.nm,.slice ao e.kids.len cap,.slice ac cells.length cc] 37)) (.cells #[.int .i64 0,.int .i64 0,.string ⟨#[]⟩,.slice none 0 0,.slice none 0 0] 37)
  simpa using this
 have hc0:=hc.below B0
 have c1:=rightp_c e ao cap _ cells w0 hf (hW.below B0) hc0 hcl (SnA.below S B0)
 rw [plV_out] at c1 ⊢
 go_enter Tryz.func25,Tryz.ntmps25
 go_upto_region 1 with fail
 rw [←hw0]
 clear hw0
 obtain ⟨n0,hn0⟩:∃ n0,n0=w.heap.size:=⟨_,rfl⟩
 rw [←hn0] at P0 Z0 ⊢
 have HB:Hid (n0=w.heap.size):=hn0
 clear hn0
 obtain ⟨p0,p1,p2,p3,p4,pf⟩:=box5 P0
 go_wp2_with fail
 refine c1.mono ?_
 rintro x w1 ⟨rfl,b1⟩
 have hzl:=lt_of_block Z0
 have hs1:=b1.size
 have P1:=(b1.block _ (lt_of_block P0)).trans P0
 have Z1:=(b1.block _ hzl).trans Z0
 have B1:Below w.heap.size w w1:=B0.trans (b1.mono B0.size)
 have hc1:=hc0.below b1
 clear c1 b1 P0 Z0 p0 p1 p2 p3 p4 pf hc0
 by_cases hk:kindP cells e=0
 ·have hd:decide (kindP cells e≠0)=false:=by simp [hk]
  rw [hd]
  have HP:Hid (PostHs w e cells (.returned (.tuple #[.agg #[.int .i64 0,.int .i64 0,.string ⟨#[]⟩,.slice none 0 0,.slice none 0 0],.int .i64 140])) (((((w1.setCell ⟨n0+1,0,none⟩ (.int .i64 0)).setCell ⟨n0+1,1,none⟩ (.int .i64 0)).setCell ⟨n0+1,2,none⟩ (.string ⟨#[]⟩)).setCell ⟨n0+1,3,none⟩ (.slice none 0 0)).setCell ⟨n0+1,4,none⟩ (.slice none 0 0))):=by
   show PostHs _ _ _ _ _
   unfold PostHs
   rw [if_pos hk]
   refine ⟨rfl,?_⟩
   have hn:=HB.out
   exact ((((B1.setCell (by show w.heap.size≤n0+1;omega) _).setCell (by show w.heap.size≤n0+1;omega) _).setCell (by show w.heap.size≤n0+1;omega) _).setCell (by show w.heap.size≤n0+1;omega) _).setCell (by show w.heap.size≤n0+1;omega) _
  have HU:Hid (∃ wz,wz=(((((w1.setCell ⟨n0+1,0,none⟩ (.int .i64 0)).setCell ⟨n0+1,1,none⟩ (.int .i64 0)).setCell ⟨n0+1,2,none⟩ (.string ⟨#[]⟩)).setCell ⟨n0+1,3,none⟩ (.slice none 0 0)).setCell ⟨n0+1,4,none⟩ (.slice none 0 0))∧wz.cell? ⟨n0+1,0,none⟩=some (.int .i64 0)∧wz.cell? ⟨n0+1,1,none⟩=some (.int .i64 0)∧wz.cell? ⟨n0+1,2,none⟩=some (.string ⟨#[]⟩)∧wz.cell? ⟨n0+1,3,none⟩=some (.slice none 0 0)∧wz.cell? ⟨n0+1,4,none⟩=some (.slice none 0 0)∧PostHs w e cells (.returned (.tuple #[.agg #[.int .i64 0,.int .i64 0,.string ⟨#[]⟩,.slice none 0 0,.slice none 0 0],.int .i64 140])) wz):=by
   obtain ⟨u0,u1,u2,u3,u4,-⟩:=box5 (set5k (.int .i64 0) (.int .i64 0) (.string ⟨#[]⟩) (.slice none 0 0) (.slice none 0 0) Z1)
   exact ⟨_,rfl,u0,u1,u2,u3,u4,HP.out⟩
  obtain ⟨z0,z1,z2,z3,z4,zf⟩:=box5 Z1
  clear HP hk hd B1 P1 Z1 hc1
  go_wp2
  obtain ⟨wz,hwz,v0,v1,v2,v3,v4,PZ⟩:=HU.out
  rw [←hwz]
  exact bodyPost_ret (v:=.tuple #[.agg #[.int .i64 0,.int .i64 0,.string ⟨#[]⟩,.slice none 0 0,.slice none 0 0],.int .i64 140]) (by simp [results,Tryz.results25,go_sem,v0,v1,v2,v3,v4]) rfl PZ
 ·have hd:decide (kindP cells e≠0)=true:=by simp [hk]
  rw [hd]
  obtain ⟨p0,p1,p2,p3,p4,pf⟩:=box5 P1
  obtain ⟨hcl2,-,s0,hrg,-⟩:=kindP_inv hk
  have hnv:=rgE_nv hrg
  have hq2:=kindP_q2 hk
  have c2:=clonei_c w1 _ cells (fun _=>0) hc1 (by omega)
  clear hrg hd
  go_wp2_with fail
  refine c2.mono ?_
  rintro x w2 ⟨v2,o2,rfl,R2,s2⟩
  obtain ⟨a2,c2v,rfl⟩:=R2.form
  have b2:Below w1.heap.size w1 w2:=⟨s2.os,s2.tape,s2.output,s2.size,fun k hk=>s2.block k hk (by decide)⟩
  obtain ⟨w4,hw4⟩:∃ w4,w4=w2.alloc (.cells #[.slice a2 cells.length c2v] 35):=⟨_,rfl⟩
  have b4:Below w2.heap.size w2 w4:=by rw [hw4];exact (Below.refl _ w2).alloc (Nat.le_refl _) _
  have X4:w4.heap[w2.heap.size]?=some (.cells #[.slice a2 cells.length c2v] 35 (0,0)):=by
   rw [hw4]
   exact heap_alloc_new w2 _
  obtain ⟨g,C4,hgl,hgs⟩:∃ g,CsB w4 w2.heap.size g cells∧g < w4.heap.size∧w1.heap.size≤g:=by
   have hgo:∀ k,(Value.slice a2 cells.length c2v).ownBlock=some k→o2 k=5:=R2.2
   have hown:w4.ownsRow 0 3 1 (.slice a2 cells.length c2v) cells.length (cells.map (Value.int .i64)):=(R2.step (o':=newLab w2 o2 0) (I:=fun _=>False) (Below.toStepC b4) id).1
   cases hb:(Value.slice a2 cells.length c2v).ownBlock with
   | none=>exact ⟨w2.heap.size,⟨_,X4,hown,fun k hk=>by rw [hb] at hk;cases hk⟩,lt_of_block X4,b2.size⟩
   | some k0 =>
    have hk0:k0 < w2.heap.size:=R2.lt hb
    refine ⟨k0,⟨_,X4,hown,fun k hk=>?_⟩,by have:=b4.size;omega,?_⟩
    ·rw [hb] at hk
     injection hk with hk
     exact ⟨hk.symm,by omega⟩
    ·rcases Nat.lt_or_ge k0 w1.heap.size with h | h
     ·have h1:=(s2.lab k0 h).symm.trans (hgo k0 hb)
      cases h1
     ·exact h
  have hs2:=b2.size
  have B4:Below w.heap.size w w4:=(B1.trans (b2.mono B1.size)).trans (b4.mono (Nat.le_trans B1.size hs2))
  have hnb:=HB.out
  have P4:=(b4.block _ (by omega)).trans ((b2.block _ (by omega)).trans P1)
  have Z4:=(b4.block _ (by omega)).trans ((b2.block _ (by omega)).trans Z1)
  have S4:SlN w4 (Nf2 w2.heap.size g) e.kids ao:=S.mono (fun i _ hl=>B4.block i hl) B4.size (fun k _ hl=>⟨by omega,by omega⟩)
  have c5:=thr_ok (e.kids.size+1) e ao cap 0 0 cells w2.heap.size g w4 (by omega) hf hnv hq2 (by omega) (by omega) hcl2 hgl C4 S4
  rw [exN_out] at c5
  have hcb:n0+1 < w2.heap.size:=by omega
  have hgn:n0+1 < g:=by omega
  have hwn:n0+1 < w4.heap.size:=by omega
  have hcl4:w2.heap.size < w4.heap.size:=lt_of_block X4
  clear c2 p0 p1 p2 p3 p4 pf P1 Z1 R2 s2 b2 b4 X4 C4 S4 hc1 B1 hnb
  go_upto_region 5 with fail
  rw [←hw4]
  clear hw4
  generalize w2.heap.size=cb at *
  obtain ⟨p0,p1,p2,p3,p4,pf⟩:=box5 P4
  have HPS:Hid (∀ (x:Ending) (w':World),(∃ g ay cy v,x=.returned (.tuple #[plV (hstE e 0 0 cells).1 ay cy v,.int .i64 0])∧SlcN w' (fun k=>w.heap.size≤k∧k≠g) (hstE e 0 0 cells).1.kids ay cy∧w'.ownsRow 0 3 1 v (hstE e 0 0 cells).2.length ((hstE e 0 0 cells).2.map (Value.int .i64))∧(∀ k,v.ownBlock=some k→k=g∧w.heap.size≤k)∧Below w.heap.size w w')→PostHs w e cells x w'):=fun x w' h=>by
   unfold PostHs
   rw [if_neg hk]
   exact h
  generalize hstE e 0 0 cells=yy at *
  obtain ⟨Y,C2⟩:=yy
  simp only at c5 HPS
  go_wp2_with fail
  refine c5.mono ?_
  rintro x w5 ⟨g5,ay,cy,rfl,S5,C5,hg5,hl5,K5⟩
  obtain ⟨v5,e5,own5,hk5⟩:=C5
  have hform:∃ a5 c5,v5=.slice a5 C2.length c5:=Row.form (w:=w5) (o:=fun _=>0) (i:=0) ⟨own5,fun _ _=>rfl⟩
  obtain ⟨a5,c5,rfl⟩:=hform
  have b6:Below w5.heap.size w5 (w5.alloc (.cells #[.int .i64 Y.k,.int .i64 Y.n,stv Y.nm,.slice ay Y.kids.len cy] 34)):=(Below.refl _ w5).alloc (Nat.le_refl _) _
  have hnb:=HB.out
  have hs5:=K5.size
  have Z5:=(K5.block (n0+1) hwn (by omega) (by omega)).trans Z4
  have Z6:=(b6.block _ (by omega)).trans Z5
  have X6:=(b6.block _ (lt_of_block e5)).trans e5
  have hx0:(w5.alloc (.cells #[.int .i64 Y.k,.int .i64 Y.n,stv Y.nm,.slice ay Y.kids.len cy] 34)).cell? ⟨cb,0,none⟩=some (.slice a5 C2.length c5):=by rw [cell_of_row _ _ _ _ _ _ X6];rfl
  have HU:Hid (∃ wz,wz=((((((w5.alloc (.cells #[.int .i64 Y.k,.int .i64 Y.n,stv Y.nm,.slice ay Y.kids.len cy] 34)).setCell ⟨n0+1,0,none⟩ (.int .i64 Y.k)).setCell ⟨n0+1,1,none⟩ (.int .i64 Y.n)).setCell ⟨n0+1,2,none⟩ (stv Y.nm)).setCell ⟨n0+1,3,none⟩ (.slice ay Y.kids.len cy)).setCell ⟨n0+1,4,none⟩ (.slice a5 C2.length c5))∧wz.cell? ⟨n0+1,0,none⟩=some (.int .i64 Y.k)∧wz.cell? ⟨n0+1,1,none⟩=some (.int .i64 Y.n)∧wz.cell? ⟨n0+1,2,none⟩=some (stv Y.nm)∧wz.cell? ⟨n0+1,3,none⟩=some (.slice ay Y.kids.len cy)∧wz.cell? ⟨n0+1,4,none⟩=some (.slice a5 C2.length c5)∧∃ g ay' cy' v,Ending.returned (.tuple #[.agg #[.int .i64 Y.k,.int .i64 Y.n,stv Y.nm,.slice ay Y.kids.len cy,.slice a5 C2.length c5],.int .i64 0])=.returned (.tuple #[plV Y ay' cy' v,.int .i64 0])∧SlcN wz (fun k=>w.heap.size≤k∧k≠g) Y.kids ay' cy'∧wz.ownsRow 0 3 1 v C2.length (C2.map (Value.int .i64))∧(∀ k,v.ownBlock=some k→k=g∧w.heap.size≤k)∧Below w.heap.size w wz):=by
   obtain ⟨u0,u1,u2,u3,u4,-⟩:=box5 (set5k (.int .i64 Y.k) (.int .i64 Y.n) (stv Y.nm) (.slice ay Y.kids.len cy) (.slice a5 C2.length c5) Z6)
   obtain ⟨wz,hwz⟩:∃ wz,wz=((((((w5.alloc (.cells #[.int .i64 Y.k,.int .i64 Y.n,stv Y.nm,.slice ay Y.kids.len cy] 34)).setCell ⟨n0+1,0,none⟩ (.int .i64 Y.k)).setCell ⟨n0+1,1,none⟩ (.int .i64 Y.n)).setCell ⟨n0+1,2,none⟩ (stv Y.nm)).setCell ⟨n0+1,3,none⟩ (.slice ay Y.kids.len cy)).setCell ⟨n0+1,4,none⟩ (.slice a5 C2.length c5)):=⟨_,rfl⟩
   have hblk:∀ k,k≠n0+1→k < w5.heap.size→wz.heap[k]?=w5.heap[k]?:=fun k h1 h2=>by rw [hwz];exact (heap_set5 _ (n0+1) k _ _ _ _ _ h1).trans (b6.block k h2)
   have hsz7:w5.heap.size≤wz.heap.size:=by rw [hwz];simp
   have hg5n:g5≠n0+1:=by rcases hg5 with h | h <;> omega
   have s7:Step (fun k=>k=1) w5 (fun k=>if k=n0+1 then 1 else 0) wz (fun k=>if k=n0+1 then 1 else 0):=⟨by rw [hwz];rfl,by rw [hwz];rfl,by rw [hwz];rfl,hsz7,fun _ _=>rfl,fun k h1 h2=>hblk k (fun h3=>h2 (by rw [if_pos h3])) h1⟩
   refine ⟨wz,hwz,by rw [hwz];exact u0,by rw [hwz];exact u1,by rw [hwz];exact u2,by rw [hwz];exact u3,by rw [hwz];exact u4,g5,ay,cy,.slice a5 C2.length c5,rfl,?_,?_,fun k hk=>?_,?_⟩
   ·exact S5.mono (fun k hp hl=>hblk k (by have:=hp.1;omega) hl) hsz7 (fun k hp _=>⟨by have:=hp.1;have:=B4.size;omega,hp.2⟩)
   ·have C6:CsB wz cb g5 C2:=CsB.step ⟨_,e5,own5,hk5⟩ s7 (by rw [if_neg (by omega)];decide) (by rw [if_neg hg5n];decide)
    obtain ⟨v,hv,hown,-⟩:=C6
    have hv2:=(hblk cb (by omega) (lt_of_block e5)).trans e5
    rw [hv] at hv2
    injection hv2 with hv2
    injection hv2 with hv2
    obtain rfl:v=.slice a5 C2.length c5:=by simpa using hv2
    exact hown
   ·refine ⟨(hk5 k hk).1,?_⟩
    rw [(hk5 k hk).1]
    rcases hg5 with h | h
    ·omega
    ·have:=B4.size;omega
   ·have h4:=B4.size
    exact ⟨s7.os.trans (K5.os.trans B4.os),s7.tape.trans (K5.tape.trans B4.tape),s7.output.trans (K5.output.trans B4.output),by omega,fun k hk=>(hblk k (by omega) (by omega)).trans ((K5.block k (by omega) (by omega) (by omega)).trans (B4.block k hk))⟩
  obtain ⟨z0,z1,z2,z3,z4,zf⟩:=box5 Z6
  clear Z6 X6 Z5 Z4 P4 e5 own5 hk5 S5 b6 hs5 hnb K5 p0 p1 p2 p3 p4 pf hg5 hl5 B4
  rw [exN_out]
  go_wp2
  obtain ⟨wz,hwz,v0,v1,v2,v3,v4,PZ⟩:=HU.out
  rw [←hwz]
  exact bodyPost_ret (v:=.tuple #[.agg #[.int .i64 Y.k,.int .i64 Y.n,stv Y.nm,.slice ay Y.kids.len cy,.slice a5 C2.length c5],.int .i64 0]) (by simp [results,Tryz.results25,go_sem,v0,v1,v2,v3,v4]) rfl (HPS.out _ _ PZ)
end Go.Proofs.YtaihhnlfcndecaaGreatDoor

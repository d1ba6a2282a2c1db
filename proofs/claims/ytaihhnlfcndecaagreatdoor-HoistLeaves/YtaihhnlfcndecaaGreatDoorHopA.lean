import Derived.Test.YtaihhnlfcndecaaGreatDoorPrgH
namespace Go.Proofs.YtaihhnlfcndecaaGreatDoor
open Go.ChangeShapes Go.WideShapes Go.ChangeAt Go.RowKit Go.Maps
set_option linter.unusedVariables false
set_option linter.unusedSimpArgs false
def plV (e:Ex) (ao:Option Addr) (cap:Nat) (cv:Value):Value:=.agg #[.int .i64 e.k,.int .i64 e.n,stv e.nm,.slice ao e.kids.len cap,cv]
theorem plV_out (e:Ex) (ao:Option Addr) (cap:Nat) (cv:Value):plV e ao cap cv=.agg #[.int .i64 e.k,.int .i64 e.n,stv e.nm,.slice ao e.kids.len cap,cv]:=rfl
theorem any_nl (cells:List Int):cells.any (fun c=>decide (c < 0) || decide (4 < c))=cells.any nlB:=rfl
theorem nl_false {cells:List Int} (h:cells.any nlB=false):∀ c,c ∈ cells→0≤c∧c≤4:=by
 intro c hc
 rw [List.any_eq_false] at h
 have:=h c hc
 simp [nlB] at this
 omega
theorem kindP_nl {cells:List Int} {e:Ex} (h:cells.any nlB=true):kindP cells e=0:=by
 unfold kindP
 rw [if_pos (.inr (by rw [any_nl];exact h))]
theorem kindP_rg {cells:List Int} {e:Ex} (h1:cells.length≤256) (h2:cells.any nlB=false):kindP cells e=(match rgE cells e 0 0 (0,fun _=>none) with | none=>0 | some (_,k)=>if k=4 then 0 else k):=by
 rw [kindP_knd h1 (nl_false h2)]
 unfold kndD
 cases rgE cells e 0 0 (0,fun _=>none) with
 | none=>rfl
 | some z =>
  obtain ⟨s,k⟩:=z
  simp only
  by_cases h4:k=4
  ·rw [if_pos h4,if_pos h4]
  ·rw [if_neg h4,if_neg h4]
set_option maxRecDepth 100000 in
set_option maxHeartbeats 2000000 in
theorem read_c (e:Ex) (ao:Option Addr) (cap:Nat) (cv:Value) (cells:List Int) (w:World) (hf:FitN e) (hW:Wd w) (hc:InA w cv cells) (hcl:cells.length≤1000000000) (S:SnA w e.kids ao) :
  Calls Tryz.prog 74 #[plV e ao cap cv] w fun x w'=>(∃ v,x=.returned (.tuple #[v,.bool (decide (kindP cells e≠0))]))∧Below w.heap.size w w':=by
 obtain ⟨W,hZ⟩:∃ W,W=decide (kindP cells e≠0):=⟨_,rfl⟩
 rw [←hZ]
 have HW:Hid (W=decide (kindP cells e≠0)):=hZ
 clear hZ
 obtain ⟨ac,cc,hcv,hcx⟩:=hc
 have hc:InA w cv cells:=⟨ac,cc,hcv,hcx⟩
 subst hcv
 clear hcx
 have hG:=hW.lt
 have B0:Below w.heap.size w (w.alloc (.cells #[.int .i64 e.k,.int .i64 e.n,stv e.nm,.slice ao e.kids.len cap,.slice ac cells.length cc] 37)):=(Below.refl _ w).alloc (Nat.le_refl _) _
 have E0:(w.alloc (.cells #[.int .i64 e.k,.int .i64 e.n,stv e.nm,.slice ao e.kids.len cap,.slice ac cells.length cc] 37)).heap[w.heap.size]?=some (.cells #[.int .i64 e.k,.int .i64 e.n,stv e.nm,.slice ao e.kids.len cap,.slice ac cells.length cc] 37):=heap_alloc_new w _
 have S0:SlN (w.alloc (.cells #[.int .i64 e.k,.int .i64 e.n,stv e.nm,.slice ao e.kids.len cap,.slice ac cells.length cc] 37)) (Lt0 w.heap.size) e.kids ao:=S.mono (fun i _ hl=>B0.block i hl) B0.size (fun k _ hl=>hl)
 have N0:Inw (w.alloc (.cells #[.int .i64 e.k,.int .i64 e.n,stv e.nm,.slice ao e.kids.len cap,.slice ac cells.length cc] 37)) (Lt0 w.heap.size) (.slice ac cells.length cc) cells:=hc.mono (fun i _ hl=>B0.block i hl) B0.size (fun k _ hl=>hl)
 have I0:=hc.below B0
 have W0:=hW.below B0
 clear S hc hW
 rw [plV_out]
 go_enter Tryz.func74,Tryz.ntmps74
 go_upto_region 1 with fail
 generalize w.alloc (.cells #[.int .i64 e.k,.int .i64 e.n,stv e.nm,.slice ao e.kids.len cap,.slice ac cells.length cc] 37)=w0 at *
 obtain ⟨n0,hn0⟩:∃ n0,n0=w.heap.size:=⟨_,rfl⟩
 rw [←hn0] at E0 S0 N0 hG B0 ⊢
 have HN:Hid (n0=w.heap.size):=hn0
 clear hn0
 obtain ⟨p0,p1,p2,p3,p4,pf⟩:=box5 E0
 by_cases h256:256 < cells.length
 ·have hI:(256:Int) < (cells.length:Int):=by omega
  have HZ:Hid (W=false):=by show W=_;rw [HW.out,kindP_big h256];rfl
  clear HW S0 N0 I0 W0 E0
  go_wp2
  refine bodyPost_ret (v:=.tuple #[.nilIface,.bool false]) (by simp [results,Tryz.results74,go_sem]) rfl ⟨⟨_,by rw [HZ.out]⟩,?_⟩
  rw [←HN.out]
  exact B0
 have hI:¬ (256:Int) < (cells.length:Int):=by omega
 have c1:=containsfunc_c w0 _ cells I0 hcl
 go_wp2_with fail
 refine c1.mono ?_
 rintro z w1 ⟨rfl,rfl⟩
 cases hnl:cells.any nlB with
 | true =>
  have HZ:Hid (W=false):=by show W=_;rw [HW.out,kindP_nl hnl];rfl
  clear HW S0 N0 I0 W0 E0 c1
  go_wp2
  refine bodyPost_ret (v:=.tuple #[.nilIface,.bool false]) (by simp [results,Tryz.results74,go_sem]) rfl ⟨⟨_,by rw [HZ.out]⟩,?_⟩
  rw [←HN.out]
  exact B0
 | false =>
 have HW2:Hid (W=decide ((match rgE cells e 0 0 (0,fun _=>none) with | none=>0 | some (_,k)=>if k=4 then 0 else k)≠0)):=by show W=_;rw [HW.out,kindP_rg (by omega) hnl]
 clear HW c1
 have hmm:=@run_makeMap Tryz.prog
 obtain ⟨w2,hw2⟩:∃ w2,w2=(w1.alloc (.map #[] 0)).alloc (.cells #[.slice ac cells.length cc,.map (some w1.heap.size),.int .i64 0] 142):=⟨_,rfl⟩
 have b2:Below w1.heap.size w1 w2:=by rw [hw2];exact ((Below.refl _ w1).alloc (Nat.le_refl _) _).alloc (by simp) _
 have M2:MpN w2 (Lt0 n0) w1.heap.size 0 (fun _=>none):=by
  rw [hw2]
  exact (MpN.made w1 (Lt0 n0)).mono (Below.heap_alloc _ _ _ (by simp)) (fun k _ hl=>Below.heap_alloc _ _ _ hl) (by simp)
 have X2:w2.heap[w1.heap.size+1]?=some (.cells #[.slice ac cells.length cc,.map (some w1.heap.size),.int .i64 0] 142 (0,0)):=by
  rw [hw2]
  have:=heap_alloc_new (w1.alloc (.map #[] 0)) (.cells #[.slice ac cells.length cc,.map (some w1.heap.size),.int .i64 0] 142)
  simpa using this
 have R2:RD w2 n0 (w1.heap.size+1) w1.heap.size (.slice ac cells.length cc) 0 (0,fun _=>none):=⟨X2,⟨0,Nat.le_refl _,M2⟩,by show 0≤4096;omega,fun i y h=>by cases h⟩
 have hlt:=lt_of_block E0
 have c4:=partp_ok (e.kids.size+1) e ao cap n0 (w1.heap.size+1) w1.heap.size (.slice ac cells.length cc) cells 0 0 (0,fun _=>none) 0 w2 (by omega) hf (by omega) (by omega) (by omega) (by omega) (by omega) (by omega) hG (W0.below b2) R2 (N0.below b2) (S0.belowP b2)
 rw [exN_out] at c4
 have E2:=(b2.block _ hlt).trans E0
 have hmx:n0≤w1.heap.size:=by omega
 have hsz2:w1.heap.size+2≤w2.heap.size:=by have:=lt_of_block X2;omega
 clear E0 S0 N0 I0 W0 M2 X2 R2
 go_upto_region 4 with fail
 rw [←hw2]
 clear hw2 hmm p0 p1 p2 p3 p4 pf
 obtain ⟨p0,p1,p2,p3,p4,pf⟩:=box5 E2
 have hpos:Hid (∀ s k,rgE cells e 0 0 (0,fun _=>none)=some (s,k)→k≠0):=fun s k h=>rgE_pos h
 generalize rgE cells e 0 0 (0,fun _=>none)=rr at *
 go_wp2_with fail
 refine c4.mono ?_
 rintro z w3 ⟨⟨v,rfl,hv⟩,-,K3⟩
 have B3:Below n0 w w3:=(B0.trans (b2.mono hmx)).trans (K3.below (by omega) hmx (by omega))
 clear c4 p0 p1 p2 p3 p4 pf E2 K3 b2
 cases rr with
 | none =>
  have HZ:Hid (W=false):=by show W=_;rw [HW2.out];rfl
  clear HW2 hv
  simp only [Option.isSome_none]
  go_wp2
  refine bodyPost_ret (v:=.tuple #[.nilIface,.bool false]) (by simp [results,Tryz.results74,go_sem]) rfl ⟨⟨_,by rw [HZ.out]⟩,?_⟩
  rw [←HN.out]
  exact B3
 | some zz =>
  obtain ⟨s2,k⟩:=zz
  obtain ⟨ty,vx,rfl,he⟩:=hv s2 k rfl
  have c5:=fun w=>kindof_c k w
  simp only [Option.isSome_some]
  clear hv
  go_wp2_with fail
  refine (c5 _).mono ?_
  rintro z w4 ⟨rfl,b4⟩
  have B4:Below n0 w w4:=B3.trans (b4.mono (by have h1:=B3.size;have h2:=HN.out;omega))
  by_cases h4:k=4
  ·have hb4:(k == 4)=true:=by simpa using h4
   have HZ:Hid (W=false):=by show W=_;rw [HW2.out];simp [h4]
   clear HW2 h4 c5
   go_wp2
   refine bodyPost_ret (v:=.tuple #[.nilIface,.bool false]) (by simp [results,Tryz.results74,go_sem]) rfl ⟨⟨_,by rw [HZ.out]⟩,?_⟩
   rw [←HN.out]
   exact B4
  ·have hb4:(k == 4)=false:=by simpa using h4
   have HZ:Hid (W=true):=by show W=_;rw [HW2.out];simp [h4,hpos.out s2 k rfl]
   clear HW2 h4 c5
   go_wp2
   refine bodyPost_ret (v:=.tuple #[.iface ty vx,.bool true]) (by simp [results,Tryz.results74,go_sem]) rfl ⟨⟨_,by rw [HZ.out]⟩,?_⟩
   rw [←HN.out]
   exact B4
set_option maxRecDepth 100000 in
theorem rightp_c (e:Ex) (ao:Option Addr) (cap:Nat) (cv:Value) (cells:List Int) (w:World) (hf:FitN e) (hW:Wd w) (hc:InA w cv cells) (hcl:cells.length≤1000000000) (S:SnA w e.kids ao) :
  Calls Tryz.prog 39 #[plV e ao cap cv] w fun x w'=>x=.returned (.bool (decide (kindP cells e≠0)))∧Below w.heap.size w w':=by
 obtain ⟨ac,cc,hcv,hcx⟩:=hc
 have hc:InA w cv cells:=⟨ac,cc,hcv,hcx⟩
 subst hcv
 clear hcx
 have B0:Below w.heap.size w (w.alloc (.cells #[.int .i64 e.k,.int .i64 e.n,stv e.nm,.slice ao e.kids.len cap,.slice ac cells.length cc] 37)):=(Below.refl _ w).alloc (Nat.le_refl _) _
 have c1:=read_c e ao cap _ cells _ hf (hW.below B0) (hc.below B0) hcl (SnA.below S B0)
 generalize decide (kindP cells e≠0)=W at *
 rw [plV_out] at c1 ⊢
 go_enter Tryz.func39,Tryz.ntmps39
 go_wp2_with fail
 refine c1.mono ?_
 rintro z w1 ⟨⟨v,rfl⟩,b1⟩
 have B1:Below w.heap.size w w1:=B0.trans (b1.mono B0.size)
 clear c1 b1
 go_wp2
 go_ret
 exact ⟨rfl,B1⟩
end Go.Proofs.YtaihhnlfcndecaaGreatDoor
namespace Go.Proofs.YtaihhnlfcndecaaGreatDoor
open Go.ChangeShapes Go.WideShapes Go.ChangeAt Go.RowKit
set_option linter.unusedVariables false
set_option linter.unusedSimpArgs false
def CsB (w:World) (cb g:Nat) (cs:List Int):Prop:=∃ v,w.heap[cb]?=some (.cells #[v] 35 (0,0))∧w.ownsRow 0 3 1 v cs.length (cs.map (Value.int .i64))∧∀ k,v.ownBlock=some k→k=g∧k≠cb
def lab5 (cb g:Nat):Nat→Nat:=fun k=>if k=cb then 4 else if k=g then 5 else 0
theorem CsB.lt {w:World} {cb g:Nat} {cs:List Int} (h:CsB w cb g cs):cb < w.heap.size:=by obtain ⟨v,h,-⟩:=h;exact lt_of_block h
theorem CsB.row {w:World} {cb g:Nat} {cs:List Int} (h:CsB w cb g cs):∃ v,w.heap[cb]?=some (.cells #[v] 35 (0,0))∧Row w (lab5 cb g) 5 3 1 v cs.length (cs.map (Value.int .i64)):=by
 obtain ⟨v,h1,h2,h3⟩:=h
 exact ⟨v,h1,h2,fun k hk=>by obtain ⟨rfl,hn⟩:=h3 k hk;unfold lab5;rw [if_neg hn,if_pos rfl]⟩
theorem CsB.step {I:Nat→Prop} {w w':World} {o o':Nat→Nat} {cb g:Nat} {cs:List Int} (h:CsB w cb g cs) (s:Step I w o w' o') (h1:¬ I (o cb)) (h2:¬ I (o g)):CsB w' cb g cs:=by
 obtain ⟨v,e1,e2,e3⟩:=h
 refine ⟨v,(s.block _ (lt_of_block e1) h1).trans e1,?_,e3⟩
 have r:Row w (fun k=>if k=g then o g else o g) (o g) 3 1 v cs.length (cs.map (Value.int .i64)):=⟨e2,fun k hk=>by simp⟩
 refine ⟨e2.1,?_⟩
 rcases e2.2 with hn | ⟨g',cap,cur,rfl,hb,hgg,rest⟩
 ·exact .inl hn
 ·have hg:g'=g:=(e3 g' rfl).1
  subst hg
  exact .inr ⟨g',cap,cur,rfl,hb,(s.block _ (lt_of_block hgg) h2).trans hgg,rest⟩
theorem CsB.below {w w':World} {cb g:Nat} {cs:List Int} (h:CsB w cb g cs) (b:Below w.heap.size w w'):CsB w' cb g cs:=by
 have s:Step (fun _=>False) w (fun _=>0) w' (newLab w (fun _=>0) 0):=Below.toStepC b
 exact h.step s id id
def opnC (cs:List Int) (h:Int):List Int:=if cs.length < 256 then cs++[h] else cs
def PostOp (w:World) (cb g:Nat) (cs:List Int) (h:Int) (x:Ending) (w':World):Prop :=
 x=.returned (.tuple #[.int .i64 (if cs.length < 256 then (cs.length:Int) else 0),.bool (decide (cs.length < 256))])∧∃ g',CsB w' cb g' (opnC cs h)∧(g'=g∨w.heap.size≤g')∧g' < w'.heap.size∧Kp cb g w w'
set_option maxRecDepth 100000 in
set_option maxHeartbeats 2000000 in
theorem open_c (w:World) (cb g:Nat) (cs:List Int) (h:Int) (hcs:cs.length≤256) (hg:g < w.heap.size) (H:CsB w cb g cs) :
  Calls Tryz.prog 49 #[.int .i64 h,.pointer (some ⟨cb,0,none⟩)] w (PostOp w cb g cs h):=by
 obtain ⟨ii,hii,hzi0,hzi1,hzi2⟩:=info_parts infoInt
 obtain ⟨v,E0,R0⟩:=H.row
 obtain ⟨av,cv,rfl⟩:=R0.form
 have c0:w.cell? ⟨cb,0,none⟩=some (.slice av cs.length cv):=by rw [cell_of_row _ _ _ _ _ _ E0];rfl
 have cf:∀ j,w.frozen? ⟨cb,j,none⟩=false:=fun j=>frozen_of_row w cb j _ _ E0
 by_cases hlt:cs.length < 256
 ·have hI:¬ (256:Int)≤(cs.length:Int):=by omega
  have hans:opnC cs h=cs++[h]:=by unfold opnC;rw [if_pos hlt]
  unfold PostOp
  rw [hans,if_pos hlt,decide_eq_true hlt]
  have s1:=boxStep (fun _=>False) w (lab5 cb g) (.cells #[.int .i64 h] 3)
  have R1:=R0.step s1 id
  have E1:(w.alloc (.cells #[.int .i64 h] 3)).heap[cb]?=some (.cells #[.slice av cs.length cv] 35 (0,0)):=(Below.heap_alloc w _ cb (lt_of_block E0)).trans E0
  have hone:∀ u ∈ [Value.int .i64 h],u.oneCell'=true:=by intro u hu;simp at hu;subst hu;rfl
  have q1:cs.length+1≤maxLen:=by unfold maxLen;omega
  have q2:(cs.length+1) * 8≤140737488355328:=by omega
  have hcb:=lt_of_block E0
  have hl4:newLab w (lab5 cb g) 0 cb=4:=by rw [newLab_old hcb];simp [lab5]
  go_enter Tryz.func49,Tryz.ntmps49
  go_wp2_with (first | (at_builtin;refine wpList_append_lab rfl (.tmp 8) (.tmp 10) 35 rfl 3 ii (.int .i64 0) 1 8 Tryz.underlying35 hii hzi0 hzi1 hzi2 rfl (by decide) (newLab w (lab5 cb g) 0) 5 _ cs.length (cs.map (Value.int .i64)) rfl R1 ⟨w.heap.size,0,none⟩ 1 1 [.int .i64 h] rfl rfl (new_one w _ _) hone (by decide) q1 q2 ?_) | go_in)
  intro g2 c2 w2 o2 R2 s2
  have E2:=(s2.block cb (by simp;omega) (by rw [hl4];decide)).trans E1
  have hg2:o2 g2=5:=R2.2 g2 rfl
  have hgs:g2=g∨w.heap.size≤g2:=by
   rcases Nat.lt_or_ge g2 w.heap.size with h3 | h3
   ·have h4:=(s2.lab g2 (by simp;omega)).symm.trans hg2
    rw [newLab_old h3] at h4
    unfold lab5 at h4
    split at h4
    ·cases h4
    ·split at h4
     ·rename_i h5;exact .inl h5
     ·cases h4
   ·exact .inr h3
  have hgc:g2≠cb:=by
   intro h3
   have h4:=(s2.lab cb (by simp;omega)).trans hl4
   rw [←h3,hg2] at h4
   cases h4
  have K2:Kp cb g w w2:=by
   refine ⟨s2.os,s2.tape,s2.output,Nat.le_trans (by simp) s2.size,fun k hk h3 h4=>?_⟩
   refine (s2.block k (by simp;omega) ?_).trans (Below.heap_alloc w _ k hk)
   rw [newLab_old hk]
   unfold lab5
   rw [if_neg h3,if_neg h4]
   decide
  have HF:Hid (∃ g',CsB (w2.setCell ⟨cb,0,none⟩ (.slice (some ⟨g2,0,none⟩) (cs.length+1) c2)) cb g' (cs++[h])∧(g'=g∨w.heap.size≤g')∧g' < (w2.setCell ⟨cb,0,none⟩ (.slice (some ⟨g2,0,none⟩) (cs.length+1) c2)).heap.size∧Kp cb g w (w2.setCell ⟨cb,0,none⟩ (.slice (some ⟨g2,0,none⟩) (cs.length+1) c2))):=by
   refine ⟨g2,⟨_,(Blk.set (o:=fun _=>0) (i:=0) ⟨E2,rfl⟩ 0 _).1,?_,?_⟩,hgs,by simpa using (R2.lt rfl:g2 < w2.heap.size),K2.set _ _ (.inr (.inl rfl))⟩
   ·have s3:Step (fun k=>k=4) w2 o2 (w2.setCell ⟨cb,0,none⟩ (.slice (some ⟨g2,0,none⟩) (cs.length+1) c2)) o2:=setStep _ w2 o2 ⟨cb,0,none⟩ _ ((s2.lab cb (by simp;omega)).trans hl4)
    have R3:=(R2.step s3 (by decide)).1
    rw [List.map_append,List.length_append]
    exact R3
   ·intro k hk
    simp [Value.ownBlock] at hk
    subst hk
    exact ⟨rfl,hgc⟩
  have c2':w2.cell? ⟨cb,0,none⟩=some (.slice av cs.length cv):=by rw [cell_of_row _ _ _ _ _ _ E2];rfl
  have f2:∀ j,w2.frozen? ⟨cb,j,none⟩=false:=fun j=>frozen_of_row w2 cb j _ _ E2
  clear E1 E2 R1 R2 s1 s2 K2 hgs hgc hone c0 cf E0 R0 H hg2 hl4
  go_wp2
  exact bodyPost_ret (v:=.tuple #[.int .i64 (cs.length:Int),.bool true]) (by simp [results,Tryz.results49,go_sem]) rfl ⟨rfl,HF.out⟩
 ·have hI:(256:Int)≤(cs.length:Int):=by omega
  have hans:opnC cs h=cs:=by unfold opnC;rw [if_neg hlt]
  unfold PostOp
  rw [hans,if_neg hlt,decide_eq_false hlt]
  have HF:Hid (∃ g',CsB w cb g' cs∧(g'=g∨w.heap.size≤g')∧g' < w.heap.size∧Kp cb g w w):=⟨g,H,.inl rfl,hg,Kp.refl _ _ _⟩
  clear E0 R0 H hlt hans
  go_enter Tryz.func49,Tryz.ntmps49
  go_wp2
  exact bodyPost_ret (v:=.tuple #[.int .i64 0,.bool false]) (by simp [results,Tryz.results49,go_sem]) rfl ⟨rfl,HF.out⟩
end Go.Proofs.YtaihhnlfcndecaaGreatDoor

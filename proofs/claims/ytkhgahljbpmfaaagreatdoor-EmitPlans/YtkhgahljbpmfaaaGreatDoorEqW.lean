import Derived.Test.YtkhgahljbpmfaaaGreatDoorEmR
set_option maxRecDepth 100000
set_option maxHeartbeats 8000000
namespace Go.Proofs.YtkhgahljbpmfaaaGreatDoor
open Option renaming none->GE,some->GF
open Nat renaming le_refl->GG,lt_of_lt_of_le->GQ,le_trans->Hr,not_lt_zero->Hv,add_zero->Hw,zero_add->Ib,le_of_lt->Iq,zero_mul->IF,zero_le->Jm,lt_or_ge->JP
open Go.Proofs.Tryz renaming prog->GH,underlying35->Hy,underlying40->I7,ntmps40->Jc,func40->Jk
open Go renaming World->GI,lt_of_block->GJ,bodyPost_ret->GK,heap_alloc_new->GL,Value->GN,Calls->GV,maxLen->G5,Addr->Ha,cell_of_row->Hj,TypeId->Hp,heap_setCell_same->In,frozen_of_row->Io,Ending->IL,madeCells->IM,splice->JT
open List renaming getElem?_eq_getElem->GM,length_append->Hb,length_cons->Hc,getD_eq_getElem?_getD->Hf,set_cons_zero->Hg,set_cons_succ->Hh,getElem?_eq_none->Hi,replicate->Ho,getElem?_replicate->Ia,getElem?_append_right->Ik,mem_cons->Iu,getElem_mem->Ix,getElem?_append_left->Iy,drop_eq_getElem_cons->IQ,cons_append->IU,take_succ_eq_append_getElem->IW,mem_append_left->I1,ext_getElem?->Jo,append_assoc->Jp,take_append_drop->JF,take_length->JQ,idxOf_append->Kb
open Go.RowKit renaming Below->GO,intOf->Hl
open Go.Lib renaming hid->GP
open Go.RowKit.Below renaming refl->GR
open Bool renaming and_eq_true->He
open Go.World renaming cell?_of_block->GW,cell?->JJ
open Go.Value renaming int->GX,ownBlock->Jt
open Exists renaming intro->G9
open Int renaming toNat_natCast->Ij
open Or renaming inl->I2
open Go.Ending renaming returned->Jb
open Go.Addr renaming add->Je
open Classical renaming byContradiction->Ji
open Go.ChangeShapes Go.WideShapes Go.ChangeAt Go.RowKit
set_option linter.unusedVariables false
set_option linter.unusedSimpArgs false
theorem En:Ent 80:=λ_ _=>by kernel_rfl
theorem ER:Ent 81:=λ_ _=>by kernel_rfl
theorem vU (s:Em)(op a b u:Nat)(c:u<=1000000000):Grw s (s.push op a b u) 1:=⟨by rw[Em.mes_push];omega,by simp[Em.push],rfl,λh=>by show max s.dp (u+1)<=_;omega⟩
theorem FF (s:Em)(n:Int):Grw s (s.kc n) 1:=⟨s.mes_kc n,GG _,rfl,id⟩
theorem AI {k n:Int}{nm:List UInt8}{len:Nat}(h:eg k n nm len=true):nm.length<=12:=by
 have a:=gU h;unfold eg at h;rcases a with rfl|rfl|rfl|rfl|rfl|rfl|rfl|rfl|rfl|rfl|rfl|rfl|rfl|rfl|rfl|rfl|rfl|rfl|rfl|rfl|rfl|rfl|rfl|rfl|rfl
 all_goals first
 | (simp at h;have h2:nm=[]:=(by first|exact h.1|exact h.2.1|exact h.2.2.1|exact h.2|exact h);rw[h2];simp;done)
 | (
  simp at h;have h2:=h.2.2;unfold eE at h2;split at h2
  ·cases h2
  ·simp only[He,decide_eq_true_eq] at h2;simp;omega)
theorem rc:∀ (d:Fs) (y:Ex) (r:Fs),d.app (Fs.ex y r)=(d.snoc y).app r
 | ⟨GE⟩,y,r=>rfl
 | ⟨GF ⟨k,n,nm,a,ks,t⟩⟩,y,r=>by
  have h:=rc t y r;simp only[Fs.app,Fs.snoc] at h ⊢;rw[h]
theorem rt {nc:Nat}:∀ {d r:Fs},okF nc (d.app r)->okF nc r
 | ⟨GE⟩,r,h=>h
 | ⟨GF ⟨k,n,nm,a,ks,t⟩⟩,r,h=>rt (d:=t) h.2.2
theorem iT:∀ (f:Fs),f.len<=f.size
 | ⟨GE⟩=>GG _
 | ⟨GF ⟨k,n,nm,a,ks,r⟩⟩=>by have:=iT r;simp only[Fs.len,Fs.size];omega
abbrev Bx (w:GI)(g rb:Nat)(k n:Int)(nm:List UInt8)(sl:GN)(ar u:Nat):Prop:=w.cell? ⟨g,0,GE⟩=GF (pt0 rb)/\(w.cell? ⟨g+1,0,GE⟩=GF (.int .i64 k)/\w.cell? ⟨g+1,1,GE⟩=GF (.int .i64 n)/\w.cell? ⟨g+1,2,GE⟩=GF (stv nm)/\w.cell? ⟨g+1,3,GE⟩=GF sl)/\w.cell? ⟨g+2,0,GE⟩=GF (.int .i64 ar)/\w.cell? ⟨g+2,1,GE⟩=GF (.int .i64 u)
theorem uw (nc N:Nat)(ih:jx nc N):jx nc (N+1):=by
 intro e ao cap ar u w o rb lv ls s hN Y C aa S D hm hu Z hd X h;obtain⟨k,n,nm,a,ks⟩:=e;have H:=Y.2;have J:=kX Y.1.1;simp only at hN H J S hm hu Z;rw[dS];simp only;by_cases h1:k=1
 ·subst h1;have P:emE ls ⟨1,n,nm,a,ks⟩ ar u s=s.con n 1 u:=by simp[emE,prt]
  rw[P];have ad:kdE ⟨1,n,nm,a,ks⟩=1:=by simp[kdE,kdN]
  obtain⟨g,A⟩:=exq w.heap.size;obtain⟨w1,i⟩:=exq (((w.alloc (.cells #[pt0 rb] 82)).alloc (zNv 1 n nm ao ks.len cap)).alloc (.cells #[.int .i64 ar,.int .i64 u] 86));obtain⟨F,z2,z3,z4,z5⟩:=al3 w (.cells #[pt0 rb] 82) (zNv 1 n nm ao ks.len cap) (.cells #[.int .i64 ar,.int .i64 u] 86);rw[<-i,<-A] at F z2 z3 z4 z5;have s0:∀ {I:Nat->Prop},dQ I w o w1 (dR w o 0):=λ{I}=>gS o (by rw[<-A];exact z5);have f:∀ j,dR w o 0 (g+j)=0:=λj=>dY (by omega);have v:=S.stepO (s0 (I:=λ_=>False)) id;have U:=h.step (s0 (I:=λ_=>False)) noF;have X1:=X.step (s0 (I:=λ_=>False)) id;have S0:=s0 (I:=I17);have p:Blk w1 (dR w o 0) 0 g (.cells #[pt0 rb] 82):=⟨F,f 0⟩;have q:Blk w1 (dR w o 0) 0 (g+1) (zNv 1 n nm ao ks.len cap):=⟨z2,f 1⟩;have m:Blk w1 (dR w o 0) 0 (g+2) (.cells #[.int .i64 ar,.int .i64 u] 86):=⟨z3,f 2⟩;generalize dR w o 0=c at *;have HG:=GP A;have E:Hid (∀ w' o',dQ I17 w1 c w' o'->Bx w' g rb 1 n nm (.slice ao ks.len cap) ar u):=λw' o' S=>⟨eP (p.step S dZ).1,(dW (q.step S dZ).1).1,(eh (m.step S dZ).1).1,(eh (m.step S dZ).1).2⟩;obtain⟨c0,⟨m0,m1,m2,m3⟩,a0,a1⟩:=E.out _ _ (dQ.refl I17 w1 c);obtain⟨d0,⟨f0,f1,f2,f3⟩,e0,e1⟩:=E.out _ _ ((dQ.refl I17 w1 c).drew);have SD:dQ I17 w1 c w1.drew c:=(dQ.refl _ w1 c).drew;have dF:dQ (λ_=>False) w1 c w1.drew c:=(dQ.refl _ w1 c).drew;have L:=GP D;have K:=GP C;clear s0 f F z2 z3 z4 z5 h X S A D C J;have G:=kG nc (ks.size+1) ⟨1,n,nm,a,ks⟩ ao cap w1.drew (by show ks.size < _;omega) Y (v.stepO dF id).all;rw[dS,ad] at G;simp only at G;have HC:∀ w2,GO w1.drew.heap.size w1.drew w2->GV GH 74 #[.pointer (GF ⟨rb,0,GE⟩),.int .i64 n,.int .i64 1,spV ar u] w2 (mX w2 c rb lv (s.con n 1 u) (.tuple #[])):=λw2 B=>fo n 1 ar u w2 c rb lv ls s Y.1.2.2.2 (by omega) (by omega) hd (by omega) ((X1.step dF id).below B) ((U.step dF noF).below B);clear P ad p q m v U H;go_enter Jk,Jc;go_upto_region 1 with fail;rw[<-i,<-HG.out];clear i;go_upto_region 10 with fail;go_region_held3 (λwx=>wx.cell? ⟨g,0,GE⟩=GF (pt0 rb)/\(wx.cell? ⟨g+1,0,GE⟩=GF (.int .i64 1)/\wx.cell? ⟨g+1,1,GE⟩=GF (.int .i64 n)/\wx.cell? ⟨g+1,2,GE⟩=GF (stv nm)/\wx.cell? ⟨g+1,3,GE⟩=GF (.slice ao ks.len cap))/\wx.cell? ⟨g+2,0,GE⟩=GF (.int .i64 ar)/\wx.cell? ⟨g+2,1,GE⟩=GF (.int .i64 u)) (go_keep) (first|(go_at_call 75;refine G.mono ?_;rintro z w2 ⟨rfl,B2⟩;have S2:=SD.trans (dQ.ofBelow (I:=I17) c B2);obtain⟨d0,⟨f0,f1,f2,f3⟩,e0,e1⟩:=E.out _ _ S2;have HF:=HC w2 B2)|(go_at_call 74;refine HF.mono ?_;rintro z w3 ⟨rfl,V,E3,M⟩;obtain⟨d0,⟨f0,f1,f2,f3⟩,e0,e1⟩:=E.out _ _ (S2.trans M)))
  all_goals
   go_wp2
   go_end0
   exact⟨rfl,⟨V,E3,(S0.trans S2).trans M⟩,(iJ s n 1 u (by omega)).le (by omega)⟩
 by_cases h2:k=2
 ·subst h2;have P:emE ls ⟨2,n,nm,a,ks⟩ ar u s=s.con n 2 u:=by simp[emE,prt]
  rw[P];have ad:kdE ⟨2,n,nm,a,ks⟩=2:=by simp[kdE,kdN]
  obtain⟨g,A⟩:=exq w.heap.size;obtain⟨w1,i⟩:=exq (((w.alloc (.cells #[pt0 rb] 82)).alloc (zNv 2 n nm ao ks.len cap)).alloc (.cells #[.int .i64 ar,.int .i64 u] 86));obtain⟨F,z2,z3,z4,z5⟩:=al3 w (.cells #[pt0 rb] 82) (zNv 2 n nm ao ks.len cap) (.cells #[.int .i64 ar,.int .i64 u] 86);rw[<-i,<-A] at F z2 z3 z4 z5;have s0:∀ {I:Nat->Prop},dQ I w o w1 (dR w o 0):=λ{I}=>gS o (by rw[<-A];exact z5);have f:∀ j,dR w o 0 (g+j)=0:=λj=>dY (by omega);have v:=S.stepO (s0 (I:=λ_=>False)) id;have U:=h.step (s0 (I:=λ_=>False)) noF;have X1:=X.step (s0 (I:=λ_=>False)) id;have S0:=s0 (I:=I17);have p:Blk w1 (dR w o 0) 0 g (.cells #[pt0 rb] 82):=⟨F,f 0⟩;have q:Blk w1 (dR w o 0) 0 (g+1) (zNv 2 n nm ao ks.len cap):=⟨z2,f 1⟩;have m:Blk w1 (dR w o 0) 0 (g+2) (.cells #[.int .i64 ar,.int .i64 u] 86):=⟨z3,f 2⟩;generalize dR w o 0=c at *;have HG:=GP A;have E:Hid (∀ w' o',dQ I17 w1 c w' o'->Bx w' g rb 2 n nm (.slice ao ks.len cap) ar u):=λw' o' S=>⟨eP (p.step S dZ).1,(dW (q.step S dZ).1).1,(eh (m.step S dZ).1).1,(eh (m.step S dZ).1).2⟩;obtain⟨c0,⟨m0,m1,m2,m3⟩,a0,a1⟩:=E.out _ _ (dQ.refl I17 w1 c);obtain⟨d0,⟨f0,f1,f2,f3⟩,e0,e1⟩:=E.out _ _ ((dQ.refl I17 w1 c).drew);have SD:dQ I17 w1 c w1.drew c:=(dQ.refl _ w1 c).drew;have dF:dQ (λ_=>False) w1 c w1.drew c:=(dQ.refl _ w1 c).drew;have L:=GP D;have K:=GP C;clear s0 f F z2 z3 z4 z5 h X S A D C J;have G:=kG nc (ks.size+1) ⟨2,n,nm,a,ks⟩ ao cap w1.drew (by show ks.size < _;omega) Y (v.stepO dF id).all;rw[dS,ad] at G;simp only at G;have HC:∀ w2,GO w1.drew.heap.size w1.drew w2->GV GH 74 #[.pointer (GF ⟨rb,0,GE⟩),.int .i64 n,.int .i64 2,spV ar u] w2 (mX w2 c rb lv (s.con n 2 u) (.tuple #[])):=λw2 B=>fo n 2 ar u w2 c rb lv ls s Y.1.2.2.2 (by omega) (by omega) hd (by omega) ((X1.step dF id).below B) ((U.step dF noF).below B);clear P ad p q m v U H;go_enter Jk,Jc;go_upto_region 1 with fail;rw[<-i,<-HG.out];clear i;go_upto_region 10 with fail;go_region_held3 (λwx=>wx.cell? ⟨g,0,GE⟩=GF (pt0 rb)/\(wx.cell? ⟨g+1,0,GE⟩=GF (.int .i64 2)/\wx.cell? ⟨g+1,1,GE⟩=GF (.int .i64 n)/\wx.cell? ⟨g+1,2,GE⟩=GF (stv nm)/\wx.cell? ⟨g+1,3,GE⟩=GF (.slice ao ks.len cap))/\wx.cell? ⟨g+2,0,GE⟩=GF (.int .i64 ar)/\wx.cell? ⟨g+2,1,GE⟩=GF (.int .i64 u)) (go_keep) (first|(go_at_call 75;refine G.mono ?_;rintro z w2 ⟨rfl,B2⟩;have S2:=SD.trans (dQ.ofBelow (I:=I17) c B2);obtain⟨d0,⟨f0,f1,f2,f3⟩,e0,e1⟩:=E.out _ _ S2;have HF:=HC w2 B2)|(go_at_call 74;refine HF.mono ?_;rintro z w3 ⟨rfl,V,E3,M⟩;obtain⟨d0,⟨f0,f1,f2,f3⟩,e0,e1⟩:=E.out _ _ (S2.trans M)))
  all_goals
   go_wp2
   go_end0
   exact⟨rfl,⟨V,E3,(S0.trans S2).trans M⟩,(iJ s n 2 u (by omega)).le (by omega)⟩
 by_cases h3:k=3
 ·subst h3;have P:emE ls ⟨3,n,nm,a,ks⟩ ar u s=(s.kc n).push 2 (s.cs.idxOf n) 0 u:=by simp[emE,prt]
  rw[P];obtain⟨g,A⟩:=exq w.heap.size;obtain⟨w1,i⟩:=exq (((w.alloc (.cells #[pt0 rb] 82)).alloc (zNv 3 n nm ao ks.len cap)).alloc (.cells #[.int .i64 ar,.int .i64 u] 86));obtain⟨F,z2,z3,z4,z5⟩:=al3 w (.cells #[pt0 rb] 82) (zNv 3 n nm ao ks.len cap) (.cells #[.int .i64 ar,.int .i64 u] 86);rw[<-i,<-A] at F z2 z3 z4 z5;have s0:∀ {I:Nat->Prop},dQ I w o w1 (dR w o 0):=λ{I}=>gS o (by rw[<-A];exact z5);have f:∀ j,dR w o 0 (g+j)=0:=λj=>dY (by omega);have v:=S.stepO (s0 (I:=λ_=>False)) id;have U:=h.step (s0 (I:=λ_=>False)) noF;have X1:=X.step (s0 (I:=λ_=>False)) id;have S0:=s0 (I:=I17);have p:Blk w1 (dR w o 0) 0 g (.cells #[pt0 rb] 82):=⟨F,f 0⟩;have q:Blk w1 (dR w o 0) 0 (g+1) (zNv 3 n nm ao ks.len cap):=⟨z2,f 1⟩;have m:Blk w1 (dR w o 0) 0 (g+2) (.cells #[.int .i64 ar,.int .i64 u] 86):=⟨z3,f 2⟩;generalize dR w o 0=c at *;have HG:=GP A;have E:Hid (∀ w' o',dQ I17 w1 c w' o'->Bx w' g rb 3 n nm (.slice ao ks.len cap) ar u):=λw' o' S=>⟨eP (p.step S dZ).1,(dW (q.step S dZ).1).1,(eh (m.step S dZ).1).1,(eh (m.step S dZ).1).2⟩;obtain⟨c0,⟨m0,m1,m2,m3⟩,a0,a1⟩:=E.out _ _ (dQ.refl I17 w1 c);obtain⟨d0,⟨f0,f1,f2,f3⟩,e0,e1⟩:=E.out _ _ ((dQ.refl I17 w1 c).drew);have SD:dQ I17 w1 c w1.drew c:=(dQ.refl _ w1 c).drew;have dF:dQ (λ_=>False) w1 c w1.drew c:=(dQ.refl _ w1 c).drew;have L:=GP D;have K:=GP C;clear s0 f F z2 z3 z4 z5 h X S A D C J;have G:=wG n w1.drew c rb lv ls s Y.1.2.2.2 (by omega) (X1.step dF id) (U.step dF noF);have aJ:s.cs.idxOf n<=268435455:=by
   have:=List.idxOf_le_length (a:=n) (l:=s.cs)
   unfold Em.mes at hm;omega
  have gk:=FF s n;have HC:∀ w2 o2,dQ I17 w1.drew c w2 o2->EmW w2 o2 rb lv (s.kc n)->GV GH 76 #[.pointer (GF ⟨rb,0,GE⟩),.int .i64 2,.int .i64 (s.cs.idxOf n:Nat),.int .i64 0,spV ar u] w2 (mX w2 o2 rb lv ((s.kc n).push 2 (s.cs.idxOf n) 0 u) (.tuple #[])):=λw2 o2 S2 E2=>tU 2 (s.cs.idxOf n) 0 ar u w2 o2 rb lv ls (s.kc n) (by omega) aJ (by omega) (by omega) (gk.dp hd) (by have:=gk.mes;omega) ((X1.step dF id).step S2 dZ) E2;clear P p q m v U H;go_enter Jk,Jc;go_upto_region 1 with fail;rw[<-i,<-HG.out];clear i;go_upto_region 12 with fail;go_region_held3 (λwx=>wx.cell? ⟨g,0,GE⟩=GF (pt0 rb)/\wx.cell? ⟨g+1,1,GE⟩=GF (.int .i64 n)/\wx.cell? ⟨g+2,0,GE⟩=GF (.int .i64 ar)/\wx.cell? ⟨g+2,1,GE⟩=GF (.int .i64 u)) (go_keep) (first|(go_at_call 77;refine G.mono ?_;rintro z w2 ⟨rfl,o2,E2,S2⟩;have M:=SD.trans S2;obtain⟨d0,⟨f0,f1,f2,f3⟩,e0,e1⟩:=E.out _ _ M;have HF:=HC w2 o2 S2 E2)|(go_at_call 76;refine HF.mono ?_;rintro z w3 ⟨rfl,V,E3,S4⟩;obtain⟨d0,⟨f0,f1,f2,f3⟩,e0,e1⟩:=E.out _ _ (M.trans S4)))
  all_goals
   go_wp2
   go_end0
   exact⟨rfl,⟨V,E3,(S0.trans M).trans S4⟩,(gk.trans (vU _ 2 _ 0 u (by omega))).le (by omega)⟩
 by_cases h5:k=5
 ·subst h5;have hn:=J.2.2.2.2.2.1 (I2 rfl);have a3:n<=3:=Y.1.2.1 rfl;obtain⟨n0,aC⟩:∃n0:Nat,(n0:Int)=n:=⟨n.toNat,by omega⟩;subst aC;have P:emE ls ⟨5,(n0:Int),nm,a,ks⟩ ar u s=s.push 3 n0 0 u:=by simp[emE,prt]
  rw[P];obtain⟨g,A⟩:=exq w.heap.size;obtain⟨w1,i⟩:=exq (((w.alloc (.cells #[pt0 rb] 82)).alloc (zNv 5 (n0:Int) nm ao ks.len cap)).alloc (.cells #[.int .i64 ar,.int .i64 u] 86));obtain⟨F,z2,z3,z4,z5⟩:=al3 w (.cells #[pt0 rb] 82) (zNv 5 (n0:Int) nm ao ks.len cap) (.cells #[.int .i64 ar,.int .i64 u] 86);rw[<-i,<-A] at F z2 z3 z4 z5;have s0:∀ {I:Nat->Prop},dQ I w o w1 (dR w o 0):=λ{I}=>gS o (by rw[<-A];exact z5);have f:∀ j,dR w o 0 (g+j)=0:=λj=>dY (by omega);have v:=S.stepO (s0 (I:=λ_=>False)) id;have U:=h.step (s0 (I:=λ_=>False)) noF;have X1:=X.step (s0 (I:=λ_=>False)) id;have S0:=s0 (I:=I17);have p:Blk w1 (dR w o 0) 0 g (.cells #[pt0 rb] 82):=⟨F,f 0⟩;have q:Blk w1 (dR w o 0) 0 (g+1) (zNv 5 (n0:Int) nm ao ks.len cap):=⟨z2,f 1⟩;have m:Blk w1 (dR w o 0) 0 (g+2) (.cells #[.int .i64 ar,.int .i64 u] 86):=⟨z3,f 2⟩;generalize dR w o 0=c at *;have HG:=GP A;have E:Hid (∀ w' o',dQ I17 w1 c w' o'->Bx w' g rb 5 (n0:Int) nm (.slice ao ks.len cap) ar u):=λw' o' S=>⟨eP (p.step S dZ).1,(dW (q.step S dZ).1).1,(eh (m.step S dZ).1).1,(eh (m.step S dZ).1).2⟩;obtain⟨c0,⟨m0,m1,m2,m3⟩,a0,a1⟩:=E.out _ _ (dQ.refl I17 w1 c);obtain⟨d0,⟨f0,f1,f2,f3⟩,e0,e1⟩:=E.out _ _ ((dQ.refl I17 w1 c).drew);have SD:dQ I17 w1 c w1.drew c:=(dQ.refl _ w1 c).drew;have dF:dQ (λ_=>False) w1 c w1.drew c:=(dQ.refl _ w1 c).drew;have L:=GP D;have K:=GP C;clear s0 f F z2 z3 z4 z5 h X S A D C J;have G:=tU 3 n0 0 ar u w1 c rb lv ls s (by omega) (by omega) (by omega) (by omega) hd (by omega) X1 U;clear P p q m v U H;go_enter Jk,Jc;go_upto_region 1 with fail;rw[<-i,<-HG.out];clear i;go_wp2_with (first|(go_at_call 76;refine G.mono ?_;rintro z w3 ⟨rfl,V,E3,M⟩))
  go_end0
  exact⟨rfl,⟨V,E3,S0.trans M⟩,(vU s 3 n0 0 u (by omega)).le (by omega)⟩
 by_cases aj:k=17
 ·subst aj;have R:ks.len=2:=J.2.2.1 (by omega) (by omega);obtain⟨x,y,T⟩:=iu R;subst T;simp only[eC] at hN hm hu Z;have P:emE ls ⟨17,n,nm,a,Fs.ex x (Fs.ex y .nil)⟩ ar u s=(emE ls x ar u s).fork 14 (emE ls y ar u) (λt=>t.con (0:Nat) 2 u):=by show prt ls 17 n nm _ (emE ls x::emE ls y::[]) ar u s=_;simp[prt]
  rw[P];have Q:(Fs.ex x (Fs.ex y .nil)).size=x.kids.size+y.kids.size+2:=by simp only[eC,Fs.size]<;>omega
  rw[Q];have O:Fs.nil.size=0:=rfl;rw[O] at hN hm hu Z;obtain⟨g,A⟩:=exq w.heap.size;obtain⟨w1,i⟩:=exq (((w.alloc (.cells #[pt0 rb] 82)).alloc (.cells #[.int .i64 17,.int .i64 n,stv nm,.slice ao (Fs.ex x (Fs.ex y .nil)).len cap] 34)).alloc (.cells #[.int .i64 ar,.int .i64 u] 86));obtain⟨F,z2,z3,z4,z5⟩:=al3 w (.cells #[pt0 rb] 82) (.cells #[.int .i64 17,.int .i64 n,stv nm,.slice ao (Fs.ex x (Fs.ex y .nil)).len cap] 34) (.cells #[.int .i64 ar,.int .i64 u] 86);rw[<-i,<-A] at F z2 z3 z4 z5;have s0:∀ {I:Nat->Prop},dQ I w o w1 (dR w o 0):=λ{I}=>gS o (by rw[<-A];exact z5);have f:∀ j,dR w o 0 (g+j)=0:=λj=>dY (by omega);have v:=S.stepO (s0 (I:=λ_=>False)) id;have U:=h.step (s0 (I:=λ_=>False)) noF;have X1:=X.step (s0 (I:=λ_=>False)) id;have S0:=s0 (I:=I17);have p:Blk w1 (dR w o 0) 0 g (.cells #[pt0 rb] 82):=⟨F,f 0⟩;have q:Blk w1 (dR w o 0) 0 (g+1) (.cells #[.int .i64 17,.int .i64 n,stv nm,.slice ao (Fs.ex x (Fs.ex y .nil)).len cap] 34):=⟨z2,f 1⟩;have m:Blk w1 (dR w o 0) 0 (g+2) (.cells #[.int .i64 ar,.int .i64 u] 86):=⟨z3,f 2⟩;generalize dR w o 0=c at *;have HG:=GP A;have E:Hid (∀ w' o',dQ I17 w1 c w' o'->Bx w' g rb 17 n nm (.slice ao (Fs.ex x (Fs.ex y .nil)).len cap) ar u):=λw' o' S=>⟨eP (p.step S dZ).1,(dW (q.step S dZ).1).1,(eh (m.step S dZ).1).1,(eh (m.step S dZ).1).2⟩;obtain⟨c0,⟨m0,m1,m2,m3⟩,a0,a1⟩:=E.out _ _ (dQ.refl I17 w1 c);obtain⟨d0,⟨f0,f1,f2,f3⟩,e0,e1⟩:=E.out _ _ ((dQ.refl I17 w1 c).drew);have SD:dQ I17 w1 c w1.drew c:=(dQ.refl _ w1 c).drew;have dF:dQ (λ_=>False) w1 c w1.drew c:=(dQ.refl _ w1 c).drew;have L:=GP D;have K:=GP C;clear s0 f F z2 z3 z4 z5 h X S A D C J;have G:=AE nc N ih 17 n nm a x y ao cap 14 0 ar u w1 c rb lv ls s (by omega) (by omega) H (by omega) (by omega) K.out aa (by omega) (by omega) v L.out (by omega) hd X1 U;rw[dS] at G;simp only at G;clear P p q m v U H R Q O;go_enter Jk,Jc;go_upto_region 1 with fail;rw[<-i,<-HG.out];clear i;go_wp2_with (first|(go_at_call 78;refine G.mono ?_;rintro z w3 ⟨rfl,⟨V,E3,M⟩,g3⟩))
  go_end0
  exact⟨rfl,⟨V,E3,S0.trans M⟩,g3.le (by omega)⟩
 by_cases ai:k=18
 ·subst ai;have R:ks.len=2:=J.2.2.1 (by omega) (by omega);obtain⟨x,y,T⟩:=iu R;subst T;simp only[eC] at hN hm hu Z;have P:emE ls ⟨18,n,nm,a,Fs.ex x (Fs.ex y .nil)⟩ ar u s=(emE ls x ar u s).fork 15 (emE ls y ar u) (λt=>t.con (1:Nat) 2 u):=by show prt ls 18 n nm _ (emE ls x::emE ls y::[]) ar u s=_;simp[prt]
  rw[P];have Q:(Fs.ex x (Fs.ex y .nil)).size=x.kids.size+y.kids.size+2:=by simp only[eC,Fs.size]<;>omega
  rw[Q];have O:Fs.nil.size=0:=rfl;rw[O] at hN hm hu Z;obtain⟨g,A⟩:=exq w.heap.size;obtain⟨w1,i⟩:=exq (((w.alloc (.cells #[pt0 rb] 82)).alloc (.cells #[.int .i64 18,.int .i64 n,stv nm,.slice ao (Fs.ex x (Fs.ex y .nil)).len cap] 34)).alloc (.cells #[.int .i64 ar,.int .i64 u] 86));obtain⟨F,z2,z3,z4,z5⟩:=al3 w (.cells #[pt0 rb] 82) (.cells #[.int .i64 18,.int .i64 n,stv nm,.slice ao (Fs.ex x (Fs.ex y .nil)).len cap] 34) (.cells #[.int .i64 ar,.int .i64 u] 86);rw[<-i,<-A] at F z2 z3 z4 z5;have s0:∀ {I:Nat->Prop},dQ I w o w1 (dR w o 0):=λ{I}=>gS o (by rw[<-A];exact z5);have f:∀ j,dR w o 0 (g+j)=0:=λj=>dY (by omega);have v:=S.stepO (s0 (I:=λ_=>False)) id;have U:=h.step (s0 (I:=λ_=>False)) noF;have X1:=X.step (s0 (I:=λ_=>False)) id;have S0:=s0 (I:=I17);have p:Blk w1 (dR w o 0) 0 g (.cells #[pt0 rb] 82):=⟨F,f 0⟩;have q:Blk w1 (dR w o 0) 0 (g+1) (.cells #[.int .i64 18,.int .i64 n,stv nm,.slice ao (Fs.ex x (Fs.ex y .nil)).len cap] 34):=⟨z2,f 1⟩;have m:Blk w1 (dR w o 0) 0 (g+2) (.cells #[.int .i64 ar,.int .i64 u] 86):=⟨z3,f 2⟩;generalize dR w o 0=c at *;have HG:=GP A;have E:Hid (∀ w' o',dQ I17 w1 c w' o'->Bx w' g rb 18 n nm (.slice ao (Fs.ex x (Fs.ex y .nil)).len cap) ar u):=λw' o' S=>⟨eP (p.step S dZ).1,(dW (q.step S dZ).1).1,(eh (m.step S dZ).1).1,(eh (m.step S dZ).1).2⟩;obtain⟨c0,⟨m0,m1,m2,m3⟩,a0,a1⟩:=E.out _ _ (dQ.refl I17 w1 c);obtain⟨d0,⟨f0,f1,f2,f3⟩,e0,e1⟩:=E.out _ _ ((dQ.refl I17 w1 c).drew);have SD:dQ I17 w1 c w1.drew c:=(dQ.refl _ w1 c).drew;have dF:dQ (λ_=>False) w1 c w1.drew c:=(dQ.refl _ w1 c).drew;have L:=GP D;have K:=GP C;clear s0 f F z2 z3 z4 z5 h X S A D C J;have G:=AE nc N ih 18 n nm a x y ao cap 15 1 ar u w1 c rb lv ls s (by omega) (by omega) H (by omega) (by omega) K.out aa (by omega) (by omega) v L.out (by omega) hd X1 U;rw[dS] at G;simp only at G;clear P p q m v U H R Q O;go_enter Jk,Jc;go_upto_region 1 with fail;rw[<-i,<-HG.out];clear i;go_wp2_with (first|(go_at_call 78;refine G.mono ?_;rintro z w3 ⟨rfl,⟨V,E3,M⟩,g3⟩))
  go_end0
  exact⟨rfl,⟨V,E3,S0.trans M⟩,g3.le (by omega)⟩
 by_cases ah:k=19
 ·subst ah;have R:ks.len=3:=J.1 rfl;obtain⟨x,y,z,T⟩:=kV R;subst T;simp only[eC] at hN hm hu Z;have P:emE ls ⟨19,n,nm,a,Fs.ex x (Fs.ex y (Fs.ex z .nil))⟩ ar u s=(emE ls x ar u s).fork 14 (emE ls y ar u) (emE ls z ar u):=by show prt ls 19 n nm _ (emE ls x::emE ls y::emE ls z::[]) ar u s=_;simp[prt]
  rw[P];have Q:(Fs.ex x (Fs.ex y (Fs.ex z .nil))).size=x.kids.size+y.kids.size+z.kids.size+3:=by simp only[eC,Fs.size]<;>omega
  rw[Q];have O:Fs.nil.size=0:=rfl;rw[O] at hN hm hu Z;have al:(Fs.ex x (Fs.ex y (Fs.ex z .nil))).len=3:=rfl;have a4:∀ (fn:Fn) (first cap:Array GN) (w:GI),(Instr.makeFunc fn first cap).run GH w=.ok (.func fn first cap) w:=λ_ _ _ _=>rfl;obtain⟨g,A⟩:=exq w.heap.size;obtain⟨w1,i⟩:=exq (((w.alloc (.cells #[pt0 rb] 82)).alloc (.cells #[.int .i64 19,.int .i64 n,stv nm,.slice ao (Fs.ex x (Fs.ex y (Fs.ex z .nil))).len cap] 34)).alloc (.cells #[.int .i64 ar,.int .i64 u] 86));obtain⟨F,z2,z3,z4,z5⟩:=al3 w (.cells #[pt0 rb] 82) (.cells #[.int .i64 19,.int .i64 n,stv nm,.slice ao (Fs.ex x (Fs.ex y (Fs.ex z .nil))).len cap] 34) (.cells #[.int .i64 ar,.int .i64 u] 86);rw[<-i,<-A] at F z2 z3 z4 z5;have s0:∀ {I:Nat->Prop},dQ I w o w1 (dR w o 0):=λ{I}=>gS o (by rw[<-A];exact z5);have f:∀ j,dR w o 0 (g+j)=0:=λj=>dY (by omega);have v:=S.stepO (s0 (I:=λ_=>False)) id;have U:=h.step (s0 (I:=λ_=>False)) noF;have X1:=X.step (s0 (I:=λ_=>False)) id;have S0:=s0 (I:=I17);have p:Blk w1 (dR w o 0) 0 g (.cells #[pt0 rb] 82):=⟨F,f 0⟩;have q:Blk w1 (dR w o 0) 0 (g+1) (.cells #[.int .i64 19,.int .i64 n,stv nm,.slice ao (Fs.ex x (Fs.ex y (Fs.ex z .nil))).len cap] 34):=⟨z2,f 1⟩;have m:Blk w1 (dR w o 0) 0 (g+2) (.cells #[.int .i64 ar,.int .i64 u] 86):=⟨z3,f 2⟩;generalize dR w o 0=c at *;have HG:=GP A;have E:Hid (∀ w' o',dQ I17 w1 c w' o'->Bx w' g rb 19 n nm (.slice ao (Fs.ex x (Fs.ex y (Fs.ex z .nil))).len cap) ar u):=λw' o' S=>⟨eP (p.step S dZ).1,(dW (q.step S dZ).1).1,(eh (m.step S dZ).1).1,(eh (m.step S dZ).1).2⟩;obtain⟨c0,⟨m0,m1,m2,m3⟩,a0,a1⟩:=E.out _ _ (dQ.refl I17 w1 c);obtain⟨d0,⟨f0,f1,f2,f3⟩,e0,e1⟩:=E.out _ _ ((dQ.refl I17 w1 c).drew);have SD:dQ I17 w1 c w1.drew c:=(dQ.refl _ w1 c).drew;have dF:dQ (λ_=>False) w1 c w1.drew c:=(dQ.refl _ w1 c).drew;have L:=GP D;have K:=GP C;clear s0 f F z2 z3 z4 z5 h X S A D C J;obtain⟨b,off,ak,ck,rfl,-,Sy,NK⟩:=ia (x:=.nil) v 0 rfl;have HC:=ih x ak ck ar u w1.drew c rb lv ls s (by omega) (en H).1 K.out aa (Sy.stepO dF id) L.out (by omega) (by omega) (by omega) hd (X1.step dF id) (U.step dF noF);rw[dS] at HC;have CX:Hid (∀ w' o',dQ I17 w1 c w' o'->Cx rb g (g+1) (g+2) 19 n nm (Fs.ex x (Fs.ex y (Fs.ex z .nil))) (GF ⟨b,off,GE⟩) cap ar u w' o'):=λw' o' S=>⟨p.step S dZ,q.step S dZ,m.step S dZ,v.stepO S dZ⟩;have NN:Hid (∀ w' o',dQ I17 w1 c w' o'->Nd4 w' b off x ak ck):=λw' o' S=>NK S dZ;have FK:∀ w2 o2 s2,Cx rb g (g+1) (g+2) 19 n nm (Fs.ex x (Fs.ex y (Fs.ex z .nil))) (GF ⟨b,off,GE⟩) cap ar u w2 o2->EmX w2 o2 lv ls->EmW w2 o2 rb lv s2->s2.mes+(300*(y.kids.size+1)+300*(z.kids.size+1)+2)<=100000000->s2.dp<=1000000001->s2.ks.length=ls.length->_:=λw2 o2 s2 K2 X2 E2 aD aK aI =>
   ue 14 80 81 #[pt0 g,pt0 (g+1),pt0 (g+2)] #[pt0 g,pt0 (g+1),pt0 (g+2)] (emE ls y ar u) (emE ls z ar u) (300*(y.kids.size+1)) (300*(z.kids.size+1)) _ (Cx.keeps _ _ _ _ _ _ _ _ _ _ _ _) En ER w2 o2 rb lv ls (At nc N ih rb g (g+1) (g+2) 19 n nm x y z (GF ⟨b,off,GE⟩) cap ar u lv ls H (by omega) K.out aa (by omega) (by omega)) (yM nc N ih rb g (g+1) (g+2) 19 n nm x y z (GF ⟨b,off,GE⟩) cap ar u lv ls H (by omega) K.out aa (by omega) (by omega)) s2 (by omega) aD aK aI X2 E2 K2
  obtain⟨x0,x1,x2,x3⟩:=NN.out _ _ (dQ.refl I17 w1 c);obtain⟨y0,y1,y2,y3⟩:=NN.out _ _ SD;rw[al] at i m3 f3 E ⊢;clear P p q m v U R Q O al Sy NK;go_enter Jk,Jc;go_upto_region 1 with fail;rw[<-i,<-HG.out];clear i;go_upto_region 20 with fail;go_region_held3 (λwx=>wx.cell? ⟨g,0,GE⟩=GF (pt0 rb)/\wx.cell? ⟨g+1,3,GE⟩=GF (.slice (GF ⟨b,off,GE⟩) 3 cap)/\(wx.cell? ⟨b,off,GE⟩=GF (.int .i64 x.k)/\wx.cell? ⟨b,off+1,GE⟩=GF (.int .i64 x.n)/\wx.cell? ⟨b,off+2,GE⟩=GF (stv x.nm)/\wx.cell? ⟨b,off+3,GE⟩=GF (.slice ak x.kids.len ck))/\wx.cell? ⟨g+2,0,GE⟩=GF (.int .i64 ar)/\wx.cell? ⟨g+2,1,GE⟩=GF (.int .i64 u)) (go_keep) (first|(go_at_call 40;refine HC.mono ?_;rintro z2 w2 ⟨rfl,⟨o2,E2,S2⟩,g2⟩;have M:=SD.trans S2;obtain⟨d0,⟨f0,f1,f2,f3⟩,e0,e1⟩:=E.out _ _ M;obtain⟨y0,y1,y2,y3⟩:=NN.out _ _ M))
  all_goals
   have HF:=FK w2 o2 _ (CX.out _ _ M) (X1.step M dZ) E2 (by have:=g2.mes;omega) (g2.dp hd) (g2.ks.trans L.out);clear FK HC E CX NN;go_wp2_with (first|(go_at_call 79;refine HF.mono ?_;rintro z2 w4 ⟨rfl,⟨o4,E4,S4⟩,g4⟩))
   go_end0
   exact⟨rfl,⟨o4,E4,(S0.trans M).trans S4⟩,(g2.trans g4).le (by omega)⟩
 by_cases af:k=26
 ·subst af;have R:ks.len=1:=J.2.1 rfl;obtain⟨x,T⟩:=mI R;subst T;simp only[eC] at hN hm hu Z;have P:emE ls ⟨26,n,nm,a,Fs.ex x .nil⟩ ar u s=((emE ls x ar u ((s.cel n.toNat (kdE x)).lay 17 n.toNat 0)).lay 18 n.toNat 0).land s.ws.length:=by show prt ls 26 n nm (kdE x::[]) (emE ls x::[]) ar u s=_;simp[prt]
  rw[P];have Q:(Fs.ex x .nil).size=x.kids.size+1:=by simp only[eC,Fs.size]<;>omega
  rw[Q];have O:Fs.nil.size=0:=rfl;rw[O] at hN hm hu Z;obtain⟨g,A⟩:=exq w.heap.size;obtain⟨w1,i⟩:=exq (((w.alloc (.cells #[pt0 rb] 82)).alloc (.cells #[.int .i64 26,.int .i64 n,stv nm,.slice ao (Fs.ex x .nil).len cap] 34)).alloc (.cells #[.int .i64 ar,.int .i64 u] 86));obtain⟨F,z2,z3,z4,z5⟩:=al3 w (.cells #[pt0 rb] 82) (.cells #[.int .i64 26,.int .i64 n,stv nm,.slice ao (Fs.ex x .nil).len cap] 34) (.cells #[.int .i64 ar,.int .i64 u] 86);rw[<-i,<-A] at F z2 z3 z4 z5;have s0:∀ {I:Nat->Prop},dQ I w o w1 (dR w o 0):=λ{I}=>gS o (by rw[<-A];exact z5);have f:∀ j,dR w o 0 (g+j)=0:=λj=>dY (by omega);have v:=S.stepO (s0 (I:=λ_=>False)) id;have U:=h.step (s0 (I:=λ_=>False)) noF;have X1:=X.step (s0 (I:=λ_=>False)) id;have S0:=s0 (I:=I17);have p:Blk w1 (dR w o 0) 0 g (.cells #[pt0 rb] 82):=⟨F,f 0⟩;have q:Blk w1 (dR w o 0) 0 (g+1) (.cells #[.int .i64 26,.int .i64 n,stv nm,.slice ao (Fs.ex x .nil).len cap] 34):=⟨z2,f 1⟩;have m:Blk w1 (dR w o 0) 0 (g+2) (.cells #[.int .i64 ar,.int .i64 u] 86):=⟨z3,f 2⟩;generalize dR w o 0=c at *;have HG:=GP A;have E:Hid (∀ w' o',dQ I17 w1 c w' o'->Bx w' g rb 26 n nm (.slice ao (Fs.ex x .nil).len cap) ar u):=λw' o' S=>⟨eP (p.step S dZ).1,(dW (q.step S dZ).1).1,(eh (m.step S dZ).1).1,(eh (m.step S dZ).1).2⟩;obtain⟨c0,⟨m0,m1,m2,m3⟩,a0,a1⟩:=E.out _ _ (dQ.refl I17 w1 c);obtain⟨d0,⟨f0,f1,f2,f3⟩,e0,e1⟩:=E.out _ _ ((dQ.refl I17 w1 c).drew);have SD:dQ I17 w1 c w1.drew c:=(dQ.refl _ w1 c).drew;have dF:dQ (λ_=>False) w1 c w1.drew c:=(dQ.refl _ w1 c).drew;have L:=GP D;have K:=GP C;clear s0 f F z2 z3 z4 z5 h X S A D C J;have G:=EX nc N ih n nm a x ao cap ar u w1 c rb lv ls s Y (by omega) K.out aa (by omega) (by omega) v L.out (by omega) hd X1 U;rw[dS] at G;simp only at G;clear P p q m v U H R Q O;go_enter Jk,Jc;go_upto_region 1 with fail;rw[<-i,<-HG.out];clear i;go_wp2_with (first|(go_at_call 82;refine G.mono ?_;rintro z w3 ⟨rfl,⟨V,E3,M⟩,g3⟩))
  go_end0
  exact⟨rfl,⟨V,E3,S0.trans M⟩,g3.le (by omega)⟩
 by_cases ag:k=21
 ·subst ag;obtain⟨R,hn⟩:=J.2.2.2.1 rfl;obtain⟨x,y,T⟩:=iu R;subst T;simp only[eC] at hN hm hu Z;have P:emE ls ⟨21,n,nm,a,Fs.ex x (Fs.ex y .nil)⟩ ar u s=qua ls n (emE ls x) (emE ls y) ar u s:=by show prt ls 21 n nm _ (emE ls x::emE ls y::[]) ar u s=_;simp[prt]
  rw[P];have Q:(Fs.ex x (Fs.ex y .nil)).size=x.kids.size+y.kids.size+2:=by simp only[eC,Fs.size]<;>omega
  rw[Q];have O:Fs.nil.size=0:=rfl;rw[O] at hN hm hu Z;obtain⟨g,A⟩:=exq w.heap.size;obtain⟨w1,i⟩:=exq (((w.alloc (.cells #[pt0 rb] 82)).alloc (.cells #[.int .i64 21,.int .i64 n,stv nm,.slice ao (Fs.ex x (Fs.ex y .nil)).len cap] 34)).alloc (.cells #[.int .i64 ar,.int .i64 u] 86));obtain⟨F,z2,z3,z4,z5⟩:=al3 w (.cells #[pt0 rb] 82) (.cells #[.int .i64 21,.int .i64 n,stv nm,.slice ao (Fs.ex x (Fs.ex y .nil)).len cap] 34) (.cells #[.int .i64 ar,.int .i64 u] 86);rw[<-i,<-A] at F z2 z3 z4 z5;have s0:∀ {I:Nat->Prop},dQ I w o w1 (dR w o 0):=λ{I}=>gS o (by rw[<-A];exact z5);have f:∀ j,dR w o 0 (g+j)=0:=λj=>dY (by omega);have v:=S.stepO (s0 (I:=λ_=>False)) id;have U:=h.step (s0 (I:=λ_=>False)) noF;have X1:=X.step (s0 (I:=λ_=>False)) id;have S0:=s0 (I:=I17);have p:Blk w1 (dR w o 0) 0 g (.cells #[pt0 rb] 82):=⟨F,f 0⟩;have q:Blk w1 (dR w o 0) 0 (g+1) (.cells #[.int .i64 21,.int .i64 n,stv nm,.slice ao (Fs.ex x (Fs.ex y .nil)).len cap] 34):=⟨z2,f 1⟩;have m:Blk w1 (dR w o 0) 0 (g+2) (.cells #[.int .i64 ar,.int .i64 u] 86):=⟨z3,f 2⟩;generalize dR w o 0=c at *;have HG:=GP A;have E:Hid (∀ w' o',dQ I17 w1 c w' o'->Bx w' g rb 21 n nm (.slice ao (Fs.ex x (Fs.ex y .nil)).len cap) ar u):=λw' o' S=>⟨eP (p.step S dZ).1,(dW (q.step S dZ).1).1,(eh (m.step S dZ).1).1,(eh (m.step S dZ).1).2⟩;obtain⟨c0,⟨m0,m1,m2,m3⟩,a0,a1⟩:=E.out _ _ (dQ.refl I17 w1 c);obtain⟨d0,⟨f0,f1,f2,f3⟩,e0,e1⟩:=E.out _ _ ((dQ.refl I17 w1 c).drew);have SD:dQ I17 w1 c w1.drew c:=(dQ.refl _ w1 c).drew;have dF:dQ (λ_=>False) w1 c w1.drew c:=(dQ.refl _ w1 c).drew;have L:=GP D;have K:=GP C;clear s0 f F z2 z3 z4 z5 h X S A D C J;have G:=Cu nc N ih n nm a x y ao cap ar u w1 c rb lv ls s hn H (by omega) (by omega) K.out aa (by omega) (by omega) v L.out (by omega) hd X1 U;rw[dS] at G;simp only at G;clear P p q m v U H R Q O;go_enter Jk,Jc;go_upto_region 1 with fail;rw[<-i,<-HG.out];clear i;go_wp2_with (first|(go_at_call 83;refine G.mono ?_;rintro z w3 ⟨rfl,⟨V,E3,M⟩,g3⟩))
  go_end0
  exact⟨rfl,⟨V,E3,S0.trans M⟩,g3.le (by omega)⟩
 have aq:opK k:=by
  have aG:=gU Y.1.1;simp only at aG;unfold opK;omega
 have P:emE ls ⟨k,n,nm,a,ks⟩ ar u s=opr k n nm (kdF ks) (nI (emF ls ks) 0 ar u s):=by
  show prt ls k n nm (kdF ks) (emF ls ks) ar u s=_;unfold prt;rw[if_neg h1,if_neg h2,if_neg h3,if_neg h5,if_neg aj,if_neg ai,if_neg ah,if_neg af,if_neg ag]
 rw[P];obtain⟨W,hW⟩:=exq (nI (emF ls ks) 0 ar u s);rw[<-hW];have HW:=GP hW;clear hW P;obtain⟨g,A⟩:=exq w.heap.size;obtain⟨w1,i⟩:=exq (((w.alloc (.cells #[pt0 rb] 82)).alloc (zNv k n nm ao ks.len cap)).alloc (.cells #[.int .i64 ar,.int .i64 u] 86));obtain⟨F,z2,z3,z4,z5⟩:=al3 w (.cells #[pt0 rb] 82) (zNv k n nm ao ks.len cap) (.cells #[.int .i64 ar,.int .i64 u] 86);rw[<-i,<-A] at F z2 z3 z4 z5;have s0:∀ {I:Nat->Prop},dQ I w o w1 (dR w o 0):=λ{I}=>gS o (by rw[<-A];exact z5);have f:∀ j,dR w o 0 (g+j)=0:=λj=>dY (by omega);have v:=S.stepO (s0 (I:=λ_=>False)) id;have U:=h.step (s0 (I:=λ_=>False)) noF;have X1:=X.step (s0 (I:=λ_=>False)) id;have S0:=s0 (I:=I17);have p:Blk w1 (dR w o 0) 0 g (.cells #[pt0 rb] 82):=⟨F,f 0⟩;have q:Blk w1 (dR w o 0) 0 (g+1) (zNv k n nm ao ks.len cap):=⟨z2,f 1⟩;have m:Blk w1 (dR w o 0) 0 (g+2) (.cells #[.int .i64 ar,.int .i64 u] 86):=⟨z3,f 2⟩;generalize dR w o 0=c at *;have HG:=GP A;have E:Hid (∀ w' o',dQ I17 w1 c w' o'->Bx w' g rb k n nm (.slice ao ks.len cap) ar u):=λw' o' S=>⟨eP (p.step S dZ).1,(dW (q.step S dZ).1).1,(eh (m.step S dZ).1).1,(eh (m.step S dZ).1).2⟩;obtain⟨c0,⟨m0,m1,m2,m3⟩,a0,a1⟩:=E.out _ _ (dQ.refl I17 w1 c);obtain⟨d0,⟨f0,f1,f2,f3⟩,e0,e1⟩:=E.out _ _ ((dQ.refl I17 w1 c).drew);have SD:dQ I17 w1 c w1.drew c:=(dQ.refl _ w1 c).drew;have dF:dQ (λ_=>False) w1 c w1.drew c:=(dQ.refl _ w1 c).drew;have L:=GP D;have K:=GP C;clear s0 f F z2 z3 z4 z5 h X S A D C J;have aE:=iT ks;have au:=AI Y.1.1;simp only at au;clear d0 f0 f1 f2 f3 e0 e1 p q m;have aQ:=GP Y;have aP:=GP H;clear Y H;have a8:(k==1)=false:=by simpa using h1
 have a7:(k==2)=false:=by simpa using h2
 have a6:(k==3)=false:=by simpa using h3
 have a5:(k==5)=false:=by simpa using h5
 have aZ:(k==17)=false:=by simpa using aj
 have aY:(k==18)=false:=by simpa using ai
 have aX:(k==19)=false:=by simpa using ah
 have aV:(k==26)=false:=by simpa using af
 have aW:(k==21)=false:=by simpa using ag
 clear h1 h2 h3 h5 aj ai ah af ag;go_enter Jk,Jc;go_upto_region 1 with fail;rw[<-i,<-HG.out];clear i;go_wp2_with fail;go_loopw [13] (λvi wr=>∃(d r:Fs) (s':Em) (o':Nat->Nat),Hid (ks=d.app r)/\vi=.int .i64 (d.len:Nat)/\EmW wr o' rb lv s'/\dQ I17 w1 c wr o'/\Grw s s' (300*d.size)/\Hid (W=nI (emF ls r) d.len ar u s')) (λvi _=>ks.len-(Hl vi).toNat)
 case atStart=>exact⟨.nil,ks,s,c,rfl,by show _=GX .i64 ((0:Nat):Int);rfl,U,dQ.refl _ _ _,⟨by simp,GG _,rfl,id⟩,HW⟩
 case round =>
  clear HW U c0 m0 m1 m2 m3 a0 a1;obtain⟨d,r,s',o',G,rfl,E2,S2,g2,HW⟩:=hrel;obtain⟨c0,⟨m0,m1,m2,m3⟩,a0,a1⟩:=E.out _ _ S2;have ab:ks.len=d.len+r.len:=by rw[G.out,Fs.len_app]
  have ac:ks.size=d.size+r.size:=by rw[G.out,Fs.size_app]
  have aF:=iT d;cases r using Fs.on with
  | nil =>
   have aH:¬(d.len:Int)<(ks.len:Int):=by simp only[Fs.len] at ab;omega
   have aO:W=s':=HW.out;subst aO;have HO:=tm nc ⟨k,n,nm,a,ks⟩ ao cap wr o' rb lv ls W aq aQ.out (v.stepO S2 dZ) (by show ks.len<=_;omega) (by show nm.length<=G5;unfold G5;omega) (by have:=g2.mes;simp only[Fs.size] at ac;omega) (X1.step S2 dZ) E2;rw[dS] at HO;simp only at HO;have a2:d.size<=ks.size:=by omega
   clear HW G ab ac aF aE E;go_wp2_with (first|(go_at_call 85;refine HO.mono ?_;rintro z w3 ⟨rfl,⟨V,E3,M⟩,g3⟩))
   go_end0
   exact⟨rfl,⟨V,E3,(S0.trans S2).trans M⟩,(g2.trans g3).le (by omega)⟩
  | cons kk kn km ka ap kr =>
   obtain⟨y,hy⟩:∃y:Ex,y=⟨kk,kn,km,ka,ap⟩:=⟨_,rfl⟩;have ay:Fs.cons kk kn km ka ap kr=Fs.ex y kr:=by rw[hy];rfl
   rw[ay] at G HW ab ac;have av:(Fs.ex y kr).len=kr.len+1:=rfl;rw[av] at ab;rw[eC] at ac;have aB:okE nc y:=by
    have h0:=aP.out;rw[G.out] at h0;exact(en (rt h0)).1
   have an:=v.stepO S2 dZ;rw[G.out] at an;obtain⟨b,off,ak,ck,rfl,NN,Sy,NK⟩:=ia (x:=d) an d.len rfl;obtain⟨x0,x1,x2,x3⟩:=NN;have aH:(d.len:Int)<(ks.len:Int):=by omega
   obtain⟨w3,ae⟩:=exq (wr.alloc (.cells (ik y ak ck) 34));obtain⟨gy,am⟩:=exq wr.heap.size;have s3:∀ {I:Nat->Prop},dQ I wr o' w3 (dR wr o' 0):=λ{I}=>gS o' (by rw[ae];exact b1 _ _);have B3:Blk w3 (dR wr o' 0) 0 gy (.cells (ik y ak ck) 34):=by rw[ae,am];exact⟨GL _ _,dY (GG _)⟩
   have E3:=E2.step (s3 (I:=λ_=>False)) noF;have M:=S2.trans (s3 (I:=I17));have aL:=Sy.stepO (s3 (I:=λ_=>False)) id;generalize dR wr o' 0=V at *;have aM:=M.trans ((dQ.refl I17 w3 V).drew);have az:=λw'=>ku ar u d.len w' (by omega) (by omega);have HC:∀ w4,GO w3.drew.heap.size w3.drew w4->_:=λw4 B4=>ih y ak ck ar (u+d.len) w4 V rb lv ls s' (by omega) aB K.out aa ((aL.stepO ((dQ.refl (λ_=>False) w3 V).drew) id).stepO (dQ.ofBelow (I:=λ_=>False) V B4) id) (g2.ks.trans L.out) (by have:=g2.mes;omega) (by omega) (by omega) (g2.dp hd) ((X1.step aM dZ).below B4) ((E3.step ((dQ.refl (λ_=>False) w3 V).drew) noF).below B4);have KY:Hid (∀ w' o2,dQ I17 w3 V w' o2->(w'.cell? ⟨g,0,GE⟩=GF (pt0 rb)/\w'.cell? ⟨g+2,0,GE⟩=GF (.int .i64 ar)/\w'.cell? ⟨g+2,1,GE⟩=GF (.int .i64 u))/\w'.cell? ⟨gy,0,GE⟩=GF (.int .i64 y.k)/\w'.cell? ⟨gy,1,GE⟩=GF (.int .i64 y.n)/\w'.cell? ⟨gy,2,GE⟩=GF (stv y.nm)/\w'.cell? ⟨gy,3,GE⟩=GF (.slice ak y.kids.len ck)):=λw' o2 S=>by
    obtain⟨q0,-,q1,q2⟩:=E.out _ _ (M.trans S);exact⟨⟨q0,q1,q2⟩,(dW (B3.step S dZ).1).1⟩
   have aN:Hid (W=nI (emF ls kr) (d.len+1) ar u (emE ls y ar (u+d.len) s')):=HW;have aS:Hid (ks=(d.snoc y).app kr):=by show _=_;rw[G.out,rc]
   have ax:(d.snoc y).len=d.len+1:=Fs.len_snoc d y;have aw:(d.snoc y).size=d.size+(y.kids.size+1):=by unfold Fs.snoc;rw[Fs.size_app];rfl
   have aA:=GP ax;have aU:=GP aw;have aT:=GP am;have aR:=GP ab;have a9:=GP ac;clear s3 hy ay av an NK Sy am B3 HW G E2 ax aw ab ac;go_upto_region 5 with fail;rw[<-ae,<-aT.out];clear ae;obtain⟨⟨i0,i1,i2⟩,j0,j1,j2,j3⟩:=KY.out _ _ (dQ.refl I17 w3 V);obtain⟨⟨k0,k1,k2⟩,l0,l1,l2,l3⟩:=KY.out _ _ ((dQ.refl I17 w3 V).drew);clear x0 x1 x2 x3 c0 m0 m1 m2 m3 a0 a1;go_region_held3 (λwx=>wx.cell? ⟨g,0,GE⟩=GF (pt0 rb)/\(wx.cell? ⟨gy,0,GE⟩=GF (.int .i64 y.k)/\wx.cell? ⟨gy,1,GE⟩=GF (.int .i64 y.n)/\wx.cell? ⟨gy,2,GE⟩=GF (stv y.nm)/\wx.cell? ⟨gy,3,GE⟩=GF (.slice ak y.kids.len ck))/\wx.cell? ⟨g+2,0,GE⟩=GF (.int .i64 ar)/\wx.cell? ⟨g+2,1,GE⟩=GF (.int .i64 u)) (go_keep) (first|(go_at_call 84;refine(az _).mono ?_;rintro z w4 ⟨rfl,B4⟩;have S4:=((dQ.refl I17 w3 V).drew).trans (dQ.ofBelow (I:=I17) V B4);obtain⟨⟨k0,k1,k2⟩,l0,l1,l2,l3⟩:=KY.out _ _ S4;have HF:=HC w4 B4;rw[dS] at HF)|(go_at_call 40;refine HF.mono ?_;rintro z w5 ⟨rfl,⟨o5,E5,S5⟩,g5⟩;obtain⟨⟨k0,k1,k2⟩,l0,l1,l2,l3⟩:=KY.out _ _ (S4.trans S5)))
   all_goals
    clear HC HF az;go_wp2;go_roundw
    case rel=>(try ((repeat apply G9);refine⟨?_,rfl⟩));exact⟨d.snoc y,kr,_,o5,aS,by rw[aA.out];go_num,E5,(M.trans S4).trans S5,by rw[aU.out];exact(g2.trans g5).le (by omega),by rw[aA.out];exact aN⟩
    case measure=>have ab:=aR.out;simp[Hl];omega
theorem sO (nc:Nat):∀ N,jx nc N
 | 0=>λe ao cap ar u w o rb lv ls s h=>by omega
 | N+1=>uw nc N (sO nc N)
theorem xT (w:GI)(b off c n:Nat)(hn:n<=100000)(hb:b<w.heap.size)(hc:w.cell? ⟨b,off,GE⟩=GF (.int .i64 1)) :
  GV GH 73 #[.slice (GF ⟨b,off,GE⟩) 1 c,.int .i64 n] w λx w'=>∃g,x=.returned (.slice (GF ⟨g,0,GE⟩) n n)/\w.heap.size<=g/\w'.heap[g]?=GF (.cells (Ho n (GX .i64 1)).toArray 3 (0,0))/\GO w.heap.size w w':=by
 obtain⟨ii,J,H,u,G⟩:=ek pE;have mk:∀ w:GI,(Instr.makeSlice 35 (.int .i64 n) (.int .i64 n)).run GH w=.ok (.slice (GF ⟨w.heap.size,0,GE⟩) n n) (w.alloc (.cells (IM (GX .i64 0).cells (n*1)) 3)):=λw=>by
  have:=run_make (P:=GH) w 35 3 ii _ Hy J H .i64 .i64 n n (by omega) (Int.le_refl _) (by rw[G];omega) (by omega)
  rw[u] at this;simpa only[Ij] using this
 obtain⟨X,hX,ab⟩:∃X:List GN,IM (GX .i64 0).cells (n*1)=X.toArray/\X.length=n:=⟨(IM (GX .i64 0).cells (n*1)).toList,by simp,by simp[IM,Value.cells]⟩;rw[hX] at mk;have B0:GO w.heap.size w (w.alloc (.cells X.toArray 3)):=(GR _ w).alloc (GG _) _;have E0:(w.alloc (.cells X.toArray 3)).heap[w.heap.size]?=GF (.cells X.toArray 3 (0,0)):=GL w _;have c0:=(B0.cell (p:=⟨b,off,GE⟩) hb).trans hc;have m1:=λw=>DS n hn w;clear hX hc;go_enter Tryz.func73,Tryz.ntmps73;go_wp2_with fail;refine(m1 _).mono ?_;rintro z w1 ⟨rfl,rfl⟩;go_upto_region 7 with fail;generalize w1.alloc (.cells X.toArray 3)=w0 at *;obtain⟨g,Z⟩:=exq w1.heap.size;rw[<-Z] at E0 ⊢;have O:Hid (g=w1.heap.size):=Z;have K:(Tryz.prog.info? 3).map (·.size)=GF 1:=by rw[J];simp[u]
 obtain⟨cs,t⟩:=exq (Ho (min 1 n) (GX .i64 1));have o:cs.length=min 1 n:=by rw[t];simp
 have F:∀ j v,cs[j]?=GF v->j=0/\v=GX .i64 1:=by
  intro j v a;rw[t,Ia] at a;split at a
  ·injection a with a
   exact⟨by omega,a.symm⟩
  ·cases a
 have M:∀ j,j<cs.length->cs[j]?=GF (GX .i64 1):=by
  intro j e;rw[t,Ia];rw[o] at e;rw[if_pos e]
 clear t Z;obtain⟨w2,I,D,N⟩:=jM (P:=GH) (w:=w0) 35 35 3 3 Hy K (GF ⟨g,0,GE⟩) (GF ⟨b,off,GE⟩) n n 1 c g 0 X 3 E0 cs (by rw[o]) (λ_=>⟨rfl,_,rfl,λj v a=>by obtain⟨rfl,rfl⟩:=F j v a;exact c0⟩) (by omega) (λv a=>by obtain⟨j,e,h2⟩:=List.mem_iff_getElem.1 a;rw[(F j v (by rw[GM e,h2])).2];rfl);have i:(JT X 0 cs).length=n:=by rw[length_splice _ _ _ (by omega)];exact ab
 have q:Hid (∀ j,j<0+cs.length->(JT X 0 cs)[j]?=GF (GX .i64 1)):=rq (λj e=>absurd e (Hv _)) M (by omega);generalize JT X 0 cs=Y at *;have af:Hid (g=w1.heap.size):=O;have B2:GO w1.heap.size w1 w2:=B0.trans (by rw[<-O.out];exact N);have C:Hid (min 1 n<=n/\(0<n->0<min 1 n)):=⟨by omega,by omega⟩;rw[o,Ib] at q;have l:goInt cs.length=.int .i64 (min 1 n:Nat):=by rw[o];rfl
 rw[l] at I;generalize min 1 n=k1 at *;have h2:=GJ D;clear E0 c0 M F B0 N l;go_wp2;go_loopw [8] (λv wr=>∃(k:Nat) (Y:List GN),k<=n/\v=.int .i64 k/\(0<n->0<k)/\Y.length=n/\Hid (∀ j,j<k->Y[j]?=GF (GX .i64 1))/\wr.heap[g]?=GF (.cells Y.toArray 3 (0,0))/\GO w1.heap.size w1 wr) (λv _=>n-(Hl v).toNat)
 case atStart=>exact⟨k1,Y,C.out.1,rfl,C.out.2,i,q,D,B2⟩
 case round =>
  clear C i q D B2 I o h2;obtain⟨k,Y,hk,rfl,V,A,r,Q,R⟩:=hrel;by_cases ae:k<n
  ·have U:(k:Int)<(n:Int):=by omega
   have ac:GO wr.heap.size wr wr.drew:=⟨rfl,rfl,rfl,GG _,λ_ _=>rfl⟩;have Ed:wr.drew.heap[g]?=GF (.cells Y.toArray 3 (0,0)):=Q;obtain⟨f,s⟩:=exq (Ho (min k (n-k)) (GX .i64 1));have m:f.length=min k (n-k):=by rw[s];simp
   have L:∀ j,j<f.length->f[j]?=GF (GX .i64 1):=by
    intro j e;rw[s,Ia];rw[m] at e;rw[if_pos e]
   have E:∀ j v,f[j]?=GF v->j<k/\v=GX .i64 1:=by
    intro j v a;rw[s,Ia] at a;split at a
    ·injection a with a
     exact⟨by omega,a.symm⟩
    ·cases a
   clear s;obtain⟨w3,S,W,aa⟩:=jM (P:=GH) (w:=wr.drew) 35 35 3 3 Hy K (GF ⟨g,k,GE⟩) (GF ⟨g,0,GE⟩) (n-k) (n-k) k n g k Y 3 Ed f (by rw[m]) (λ_=>⟨rfl,_,rfl,λj v a=>by
    obtain⟨e,rfl⟩:=E j v a;have ea:(Je ⟨g,0,GE⟩ j)=⟨g,j,GE⟩:=by simp[Je];exact λh=>h.symm
    rw[ea,Hj _ _ _ _ _ _ Ed];simpa using r.out j e⟩) (by omega) (λv a=>by obtain⟨j,e,h2⟩:=List.mem_iff_getElem.1 a;rw[(E j v (by rw[GM e,h2])).2];rfl)
   have B:(JT Y k f).length=n:=by rw[length_splice _ _ _ (by omega)];exact A
   have y:Hid (∀ j,j<k+f.length->(JT Y k f)[j]?=GF (GX .i64 1)):=rq r.out L (by omega);generalize JT Y k f=Y3 at *;have B3:GO w1.heap.size w1 w3:=(R.trans (ac.mono R.size)).trans (by rw[<-O.out];exact aa);rw[m] at y;have l:goInt f.length=.int .i64 (min k (n-k):Nat):=by rw[m];rfl
   rw[l] at S;have ad:0<min k (n-k):=by have:=V (by omega);omega
   have T:k+min k (n-k)<=n:=by omega
   generalize min k (n-k)=d at *;clear r L E m l Q A Ed;go_wp2_with fail;go_region;go_wp2;go_roundw
   case rel=>exact⟨k+d,Y3,T,by simp,λ_=>by omega,B,y,W,B3⟩
   case measure=>simp[Hl];omega
  ·have U:¬(k:Int)<(n:Int):=by omega
   have HR:Hid (∃g',Jb (.slice (GF ⟨g,0,GE⟩) n n)=Jb (.slice (GF ⟨g',0,GE⟩) n n)/\w1.heap.size<=g'/\wr.heap[g']?=GF (.cells (Ho n (GX .i64 1)).toArray 3 (0,0))/\GO w1.heap.size w1 wr):=by
    have hY:Y=Ho n (GX .i64 1):=by
     apply Jo;intro j;rw[Ia];by_cases e:j<n
     ·rw[if_pos e];exact r.out j (by omega)
     ·rw[if_neg e];exact Hi (by omega)
    exact⟨g,rfl,by rw[O.out];exact GG _,by rw[<-hY];exact Q,R⟩
   clear r Q A R;go_wp2;go_ret;exact HR.out
theorem yo {cells:List Int}{n:Int}{ks:Fs}{ar:Nat}{s s':Rg}(h:fN cells n ks ar s=GF s'):s'.1=s.1:=by
 unfold fN at h;split at h
 ·cases h
 ·split at h
  ·cases h
  ·split at h
   ·injection h with h;subst h;rfl
   ·split at h
    ·injection h with h;subst h;rfl
    ·cases h
theorem Dv {pk:Int}{i ar a:Nat}(h:ar<=a):(ep pk i ar a).1<=(ep pk i ar a).2:=by
 unfold ep;split
 ·simp only;split<;>omega
 ·exact h
theorem ww {cells:List Int}{e:Ex}{ar f:Nat}{s s':Rg}{k:Int}(g:rgE cells e ar f s=GF (s',k))(j:ar<=f)(h:-9223372036854775808<=e.n/\e.n<=9223372036854775807):okN cells.length e.k e.n e.nm e.kids.len:=by
 have i:=nK g;obtain⟨c,-⟩:=gL g;unfold gdE at c;simp only[not_or] at c;obtain⟨g1,g2,g3,b⟩:=c;refine⟨i,λh5=>?_,λd=>?_,h⟩
 ·rw[h5] at b;simp[nuP] at b;omega
 ·rw[d] at b;simp[nuP] at b;omega
theorem zR (cells:List Int):∀ (f:Fs) (pk:Int) (i ar b:Nat) (s s':Rg) (kd:List Int),ar<=b->rgF cells f pk i ar b s=GF (s',kd)->f.rng->okF cells.length f/\s'.1=s.1+f.size/\(s.1<=4096->s'.1<=4096)
 | ⟨GE⟩,pk,i,ar,b,s,s',kd,p,h,g=>by
  simp only[rgF] at h;injection h with h
  injection h with h1 h2
  subst h1;exact⟨trivial,rfl,id⟩
 | ⟨GF ⟨k,n,nm,a,ks,r⟩⟩,pk,i,ar,b,s,s',kd,p,h,g=>by
  have A:rgF cells ⟨GF ⟨k,n,nm,a,ks,r⟩⟩ pk i ar b s=_:=iK cells ⟨k,n,nm,a,ks⟩ r pk i ar b s;rw[A] at h;cases l:rgE cells ⟨k,n,nm,a,ks⟩ (ep pk i ar b).1 (ep pk i ar b).2 s with
  | none=>rw[l] at h;cases h
  | some z =>
   obtain⟨s2,C⟩:=z;rw[l] at h;simp only at h;cases o:rgF cells r pk (i+1) ar b s2 with
   | none=>rw[o] at h;cases h
   | some z =>
    obtain⟨B,rest⟩:=z;rw[o] at h;injection h with h
    injection h with h1 h2
    subst h1;have d:=Dv (pk:=pk) (i:=i) p;have j:=ww l d ⟨g.1,g.2.1⟩;obtain⟨t,u,v,q,E,y,x,w,c⟩:=gL l;simp only at q j c;obtain⟨a1,a2,a3⟩:=zR cells ks k 0 _ _ _ _ _ d q g.2.2.1;obtain⟨b1,b2,b3⟩:=zR cells r pk (i+1) ar b _ _ _ p o g.2.2.2;have e:s2.1=u.1:=by
     split at c
     ·exact yo c
     ·injection c with c;rw[c]
    have m:(⟨GF ⟨k,n,nm,a,ks,r⟩⟩:Fs).size=ks.size+r.size+1:=rfl;unfold gdE at t;simp only[not_or] at t;refine⟨⟨j,a1,b1⟩,?_,λD=>?_⟩
    ·rw[m,b2,e,a2];simp only;omega
    ·exact b3 (by rw[e];exact a3 (by simp only;omega))
theorem sY {cells:List Int}{e:Ex}(h:fa cells e≠0)(i:-9223372036854775808<=e.n/\e.n<=9223372036854775807)(g:e.kids.rng):okE cells.length e/\e.kids.size+1<=4096/\cells.length<=256/\∀ c,c ∈ cells->0<=c/\c<=4:=by
 obtain⟨h1,h2,s,b,-⟩:=mM h;have a:=ww b (GG 0) i;obtain⟨m,l,f,j,-,-,-,-,-⟩:=gL b;obtain⟨a1,a2,a3⟩:=zR cells e.kids e.k 0 0 0 _ _ _ (GG 0) j g;have d:=a3 (by simp);rw[a2] at d;simp only at d;exact⟨⟨a,a1⟩,by omega,h1,h2⟩
structure ly (w:GI):Prop where
 tab:Tab w
 bar:∀ k:Nat,k<25->w.cell? ⟨0,k,GE⟩=GF (.int .i64 ([0,0,0,0,0,0,4,5,6,7,8,9,10,0,0,0,0,0,0,0,0,0,20,0,22].getD k 0))
 lt:0<w.heap.size
theorem ly.below {w w':GI}(h:ly w)(b:GO w.heap.size w w'):ly w':=⟨h.tab.below b,λk a=>(b.cell (p:=⟨0,k,GE⟩) h.lt).trans (h.bar k a),GQ h.lt b.size⟩
abbrev o00:Nat->Nat:=λ_=>0
theorem sG (q:GN)(cells:List Int)(w:GI)(M:cells.length<=256)(N:InA w q cells) :
  GV GH 39 #[q] w λe w'=>∃rb o',e=.returned (pt0 rb)/\EmW w' o' rb q (em0 cells)/\GO w.heap.size w w'/\∀ k,k<w.heap.size->o' k=0:=by
 obtain⟨ao,cap,rfl,-⟩:=N;obtain⟨w1,b⟩:=exq (w.alloc (.cells #[.int .i64 1] 3));obtain⟨g,j⟩:=exq w.heap.size;have B:GO g w w1:=by rw[b,j];exact b1 _ _
 have z:w1.cell? ⟨g,0,GE⟩=GF (.int .i64 1):=eP (by rw[b,j];exact GL _ _);have v:g<w1.heap.size:=by rw[b,j];simp
 have n:=xT w1 g 0 1 cells.length (by omega) v z;have t:=GP j;clear j;go_enter Tryz.func39,Tryz.ntmps39;go_wp2_with fail;rw[<-b,<-t.out];clear b;refine n.mono ?_;rintro e w2 ⟨gk,rfl,L,s,A⟩;clear n;obtain⟨r,f⟩:=exq w2.heap.size;obtain⟨d,a⟩:=exq (((w2.alloc (.map #[] 0)).alloc (.map #[] 0)).alloc (.cells #[.slice GE 0 0,.slice GE 0 0,.slice GE 0 0,.slice (GF ⟨gk,0,GE⟩) cells.length cells.length,.map (GF r),.map (GF (r+1)),.slice ao cells.length cap,.int .i64 0] 90));obtain⟨u,z2,z3,z4,z5⟩:=al3 w2 (.map #[] 0) (.map #[] 0) (.cells #[.slice GE 0 0,.slice GE 0 0,.slice GE 0 0,.slice (GF ⟨gk,0,GE⟩) cells.length cells.length,.map (GF r),.map (GF (r+1)),.slice ao cells.length cap,.int .i64 0] 90);rw[<-a,<-f] at u z2 z3 z4 z5;have p:gk<r:=by rw[f];exact GJ s
 have K:g<gk:=by omega
 have y:Hid (∃rb o',Jb (.pointer (GF ⟨r+2,0,GE⟩))=.returned (pt0 rb)/\EmW d o' rb (.slice ao cells.length cap) (em0 cells)/\GO w.heap.size w d/\∀ k,k<w.heap.size->o' k=0):=by
  obtain⟨o',c⟩:∃o':Nat->Nat,o'=λk=>if k=r+2 then 1 else if k=gk then 5 else if k=r then 6 else if k=r+1 then 7 else 0:=⟨_,rfl⟩;have H:o' (r+2)=1:=by rw[c];simp
  have G:o' gk=5:=by rw[c];show (if gk=r+2 then 1 else if gk=gk then 5 else _)=5;rw[if_neg (by omega),if_pos rfl]
  have F:o' r=6:=by rw[c];show (if r=r+2 then 1 else if r=gk then 5 else if r=r then 6 else _)=6;rw[if_neg (by omega),if_neg (by omega),if_pos rfl]
  have E:o' (r+1)=7:=by rw[c];show (if r+1=r+2 then 1 else if r+1=gk then 5 else if r+1=r then 6 else if r+1=r+1 then 7 else 0)=7;rw[if_neg (by omega),if_neg (by omega),if_neg (by omega),if_pos rfl]
  have l:GO r w2 d:=z5;refine⟨r+2,o',rfl,⟨λx i=>by simp[em0] at i,λx i=>by simp[em0] at i,λx i=>by simp[em0] at i,_,_,_,_,r,r+1,⟨z3,H⟩,Row.nil _ _ _ _ _,Row.nil _ _ _ _ _,Row.nil _ _ _ _ _,?_,?_,?_⟩,?_,λk m=>?_⟩
  ·have O:d.heap[gk]?=_:=(l.block gk p).trans s;have Q:(em0 cells).ks.length=cells.length:=by simp[em0]
   have P:eiV (em0 cells).ks=Ho cells.length (GX .i64 1):=by simp[eiV,em0]
   rw[Q,P];refine⟨⟨by simp,.inr ⟨gk,cells.length,_,rfl,Jm _,O,GG _,by unfold G5;omega,by simp,by simp⟩⟩,λk m=>?_⟩;simp[Jt] at m;rw[<-m];exact G
  ·obtain⟨D,h,q2,C,o⟩:=MpC.made w2 o00 6;rw[<-f] at h;exact⟨D,la h (dQ.ofBelow (I:=λ_=>False) (w:=w2.alloc (.map #[] 0)) (w':=d) o00 (by rw[a];exact((GR _ _).alloc (GG _) _).alloc (by simp) _)) id,q2,F,o⟩
  ·obtain⟨D,h,q2,C,o⟩:=MpS.made (w2.alloc (.map #[] 0)) o00 7;have e:(w2.alloc (.map #[] 0)).heap.size=r+1:=by rw[f];simp
   rw[e] at h;exact⟨D,la h (dQ.ofBelow (I:=λ_=>False) (w':=d) o00 (by rw[a];exact b1 _ _)) id,q2,E,o⟩
  ·rw[<-t.out];exact(B.trans (A.mono (Iq v))).trans (l.mono (by omega))
  ·rw[<-t.out] at m;rw[c];show (if k=r+2 then 1 else if k=gk then 5 else if k=r then 6 else if k=r+1 then 7 else 0)=0;rw[if_neg (by omega),if_neg (by omega),if_neg (by omega),if_neg (by omega)]
 have J:=@run_makeMap GH;have n:=GP f;clear u z2 z3 z4 z5 s A B z f;rw[n.out] at a y;go_wp2;rw[<-a];clear a;go_ret;exact y.out
abbrev iL:Array GN:=#[.slice GE 0 0,.slice GE 0 0,.slice GE 0 0,.slice GE 0 0]
structure EmC (w:GI)(o:Nat->Nat)(s:Em)(vw vc vn vk:GN):Prop where
 ok:∀ x ∈ s.ws,x.ok
 ci:∀ n ∈ s.cs,-9223372036854775808<=n/\n<=9223372036854775807
 ni:∀ x ∈ s.ns,x.length<=G5
 ws:Row w o 2 54 1 vw s.ws.length (woV s.ws)
 cs:Row w o 3 3 1 vc s.cs.length (eiV s.cs)
 ns:Row w o 4 9 1 vn s.ns.length (esV s.ns)
 ks:Row w o 5 3 1 vk s.ks.length (eiV s.ks)
def qB (w:GI)(e:Ex)(cells:List Int)(z:IL)(w':GI):Prop :=
 GO w.heap.size w w'/\((fa cells e=0/\z=.returned (.tuple #[.agg iL,.int .i64 140])) \/
  (fa cells e≠0/\(32768<(emA cells e).ws.length\/1024<(emA cells e).dp)/\z=.returned (.tuple #[.agg iL,.int .i64 190])) \/
  (fa cells e≠0/\(emA cells e).ws.length<=32768/\(emA cells e).dp<=1024/\(emA cells e).mes<=100000000/\∃vw vc vn vk o',z=.returned (.tuple #[.agg #[vw,vc,vn,vk],.int .i64 0])/\(∀ k,k<w.heap.size->o' k=0)/\EmC w' o' (emA cells e) vw vc vn vk))
theorem EG {w w':GI}{o':Nat->Nat}{f:GN}{cells:List Int}(h:ly w)(l:InA w f cells)(B:GO w.heap.size w w')(c:∀ k,k<w.heap.size->o' k=0):EmX w' o' f cells:=by
 have e:=h.below B;obtain⟨ao,cap,g,a⟩:=l;refine⟨e.tab,c _ h.tab.2.2.2.2.2.2,e.bar,⟨c _ h.lt,e.lt⟩,ao,cap,g,?_⟩;rcases a with a|⟨b,off,h1,h2,d,m⟩
 ·exact .inl a
 ·exact .inr ⟨b,off,h1,c b d,GQ d B.size,λj x i=>(B.cell (p:=⟨b,off+j,GE⟩) d).trans (m j x i)⟩
theorem gi {w:GI}{b:Nat}{f e d c a:GN}{t:Hp}(h:w.heap[b]?=GF (.cells #[f,e,d,c,a] t)):w.cell? ⟨b,0,GE⟩=GF f/\w.cell? ⟨b,1,GE⟩=GF e/\w.cell? ⟨b,2,GE⟩=GF d/\w.cell? ⟨b,3,GE⟩=GF c/\w.cell? ⟨b,4,GE⟩=GF a:=by
 refine⟨?_,?_,?_,?_,?_⟩<;>simp[JJ,h]
theorem oU {w:GI}{b:Nat}{j i g f:GN}{t:Hp}(e d c a:GN)(h:w.heap[b]?=GF (.cells #[j,i,g,f] t)):((((w.setCell ⟨b,0,GE⟩ e).setCell ⟨b,1,GE⟩ d).setCell ⟨b,2,GE⟩ c).setCell ⟨b,3,GE⟩ a).heap[b]?=GF (.cells #[e,d,c,a] t) :=
 In _ b 3 _ _ _ (In _ b 2 _ _ _ (In _ b 1 _ _ _ (In w b 0 _ _ _ h)))
theorem yS (e:Ex)(ao:Option Ha)(cap:Nat)(X:GN)(cells:List Int)(w:GI)(hf:fs e)(hn:-9223372036854775808<=e.n/\e.n<=9223372036854775807)(hr:e.kids.rng)(hW:Wd w)(hT:ly w)(I:InA w X cells)(ag:cells.length<=1000000000)(S:SnA w e.kids ao) :
  GV GH 16 #[plV e ao cap X] w (qB w e cells):=by
 obtain⟨g,V⟩:=exq w.heap.size;obtain⟨w1,i⟩:=exq ((w.alloc (.cells #[.int .i64 e.k,.int .i64 e.n,stv e.nm,.slice ao e.kids.len cap,X] 37)).alloc (.cells iL 42));obtain⟨B,z2,z3,z4⟩:=al2 w (.cells #[.int .i64 e.k,.int .i64 e.n,stv e.nm,.slice ao e.kids.len cap,X] 37) (.cells iL 42);rw[<-i,<-V] at B z2 z3 z4;have y:GO w.heap.size w w1:=by rw[<-V];exact z4
 have J:=Bh e ao cap X cells w1 hf (hW.below y) (I.below y) ag (SnA.below S y);have af:=I;obtain⟨ac,cc,rfl,-⟩:=af;rw[fp] at J ⊢;have A:=GP V;clear V;obtain⟨c0,c1,c2,c3,c4⟩:=gi B;by_cases H:fa cells e=0
 ·rw[decide_eq_false (by simp[H])] at J;have HK:=GP H;clear H;go_enter Tryz.func16,Tryz.ntmps16;go_upto_region 1 with fail;rw[<-i,<-A.out];clear i;go_upto_region 2 with (first|(go_at_call 38;refine J.mono ?_;rintro z w2 ⟨rfl,o⟩))
  have GZ:=(o.block (g+1) (by omega)).trans z2;obtain⟨⟨d0,d1,d2,d3⟩,q⟩:=dW GZ;have ap:=q 0;have am:=q 1;have al:=q 2;have aj:=q 3;have BZ:=z4.trans (o.mono (by omega));have j:=oU (.slice GE 0 0) (.slice GE 0 0) (.slice GE 0 0) (.slice GE 0 0) GZ;have a:g<=g+1:=by omega
  have l:=(((BZ.setCell (p:=⟨g+1,0,GE⟩) a (.slice GE 0 0)).setCell (p:=⟨g+1,1,GE⟩) a (.slice GE 0 0)).setCell (p:=⟨g+1,2,GE⟩) a (.slice GE 0 0)).setCell (p:=⟨g+1,3,GE⟩) a (.slice GE 0 0);obtain⟨⟨F,E,D,C⟩,-⟩:=dW j;have f:=GP l;clear j l GZ BZ J B z2 z3 z4 y o c0 c1 c2 c3 c4;go_wp2;exact GK (v:=.tuple #[.agg iL,.int .i64 140]) (by simp[results,Tryz.results16,go_sem,F,E,D,C]) rfl ⟨by rw[<-A.out];exact f.out,.inl ⟨HK.out,rfl⟩⟩
 ·rw[decide_eq_true H] at J;obtain⟨ab,au,T,av⟩:=sY H hn hr;have HK:=GP H;clear H;go_enter Tryz.func16,Tryz.ntmps16;go_upto_region 1 with fail;rw[<-i,<-A.out];clear i;go_upto_region 3 with (first|(go_at_call 38;refine J.mono ?_;rintro z w2 ⟨rfl,o⟩))
  have d:=y.trans (o.mono y.size);have N:=(o.block g (by omega)).trans B;have y2:=(o.block (g+1) (by omega)).trans z2;have L2:g+2<=w2.heap.size:=by rw[<-z3];exact o.size
  have HN:=sG _ cells w2 T (I.below d);clear c0 c1 c2 c3 c4 J;obtain⟨c0,c1,c2,c3,c4⟩:=gi N;go_upto_region 4 with (first|(go_at_call 39;refine HN.mono ?_;rintro z w3 ⟨rb,o3,rfl,E3,m,h⟩))
  have Y:=EG (hT.below d) (I.below d) m h;have x:SnO w3 o3 e.kids ao:=(SnA.below S d).mono (λk _ hl=>m.block k hl) m.size (λk _ hl=>h k hl);have t:Blk w3 o3 0 g (zPl e ao cap ac cells.length cc):=⟨(m.block g (by omega)).trans N,h g (by omega)⟩;have s:Blk w3 o3 0 (g+1) (.cells iL 42):=⟨(m.block (g+1) (by omega)).trans y2,h (g+1) (by omega)⟩;have G:(em0 cells).mes=0:=rfl;have ae:(em0 cells).ks.length=cells.length:=by simp[em0]
  have HP:=sO cells.length (e.kids.size+1) e ao cap 0 0 w3 o3 rb _ cells (em0 cells) (by omega) ab rfl T x ae (by rw[G];omega) (by omega) (by omega) (by show 0<=_;omega) Y E3;rw[dS] at HP;have BW:GO g w w3:=(by rw[<-A.out] at d;exact d.trans (m.mono (by omega)));clear c0 c1 c2 c3 c4 HN;obtain⟨c0,c1,c2,c3,c4⟩:=gi t.1;go_upto_region 5 with (first|(go_at_call 40;refine HP.mono ?_;rintro z w4 ⟨rfl,⟨o4,E4,S4⟩,g4⟩))
  have X4:=Y.step S4 dZ;have HL:=fi 0 0 0 w4 o4 rb _ cells (emE cells e 0 0 (em0 cells)) (by omega) (by omega) (by omega) (by have:=g4.mes;rw[G] at this;omega) X4 E4;go_upto_region 6 with (first|(go_at_call 41;refine HL.mono ?_;rintro z w5 ⟨rfl,K,E5,S5⟩))
  have W:(emE cells e 0 0 (em0 cells)).lay 0 0 0=emA cells e:=rfl;rw[W] at E5;have U:(emA cells e).mes<=100000000:=by
   rw[<-W,Em.mes_lay]
   have:=g4.mes
   rw[G] at this;omega
  have aa:=GP U;have c:=S4.trans S5;have b:=s.step c dZ;have R:∀ k,k<w.heap.size->K k=0:=λk ad=>by
   have V:=A.out;have hb:=BW.size;rw[c.lab k (by have:=m.size;omega)];exact h k (by omega)
  have M:=BW.trans ⟨c.os,c.tape,c.output,c.size,λk ad=>c.block k (by have:=m.size;omega) (by rw[h k (by omega)];exact dZ)⟩;obtain⟨h1,h2,h3,vw,vc,vn,vk,mc,mn,q0,Q,q2,P,O,q5,q6⟩:=E5;obtain⟨⟨t0,t1,t2,t3,t4,t5,t6,t7⟩,-⟩:=gX q0.1;obtain⟨⟨d0,d1,d2,d3⟩,q⟩:=dW b.1;have ap:=q 0;have am:=q 1;have al:=q 2;have aj:=q 3;have a:g<=g+1:=by omega
  obtain⟨aw,cw,rfl⟩:=Q.form;obtain⟨u,r,rfl⟩:=q2.form;obtain⟨an,cn,rfl⟩:=P.form;obtain⟨ak,ck,rfl⟩:=O.form;by_cases hA:32768<(emA cells e).ws.length
  ·have ai:(32768:Int)<((emA cells e).ws.length:Int):=by omega
   have j:=oU (.slice GE 0 0) (.slice GE 0 0) (.slice GE 0 0) (.slice GE 0 0) b.1;have l:=(((M.setCell (p:=⟨g+1,0,GE⟩) a (.slice GE 0 0)).setCell (p:=⟨g+1,1,GE⟩) a (.slice GE 0 0)).setCell (p:=⟨g+1,2,GE⟩) a (.slice GE 0 0)).setCell (p:=⟨g+1,3,GE⟩) a (.slice GE 0 0);obtain⟨⟨F,E,D,C⟩,-⟩:=dW j;have f:=GP l;have L:=GP hA;clear j l M s t b Q q2 P O q5 q6 Y X4 c x E3 E4 BW HP HL m d N y2 y o B z2 z4 hT hW S I;go_wp2;exact GK (v:=.tuple #[.agg iL,.int .i64 190]) (by simp[results,Tryz.results16,go_sem,F,E,D,C]) rfl ⟨by rw[<-A.out];exact f.out,.inr (.inl ⟨HK.out,.inl L.out,rfl⟩)⟩
  ·have ai:¬(32768:Int)<((emA cells e).ws.length:Int):=by omega
   by_cases hB:1024<(emA cells e).dp
   ·have ah:(1024:Int)<((emA cells e).dp:Int):=by omega
    have j:=oU (.slice GE 0 0) (.slice GE 0 0) (.slice GE 0 0) (.slice GE 0 0) b.1;have l:=(((M.setCell (p:=⟨g+1,0,GE⟩) a (.slice GE 0 0)).setCell (p:=⟨g+1,1,GE⟩) a (.slice GE 0 0)).setCell (p:=⟨g+1,2,GE⟩) a (.slice GE 0 0)).setCell (p:=⟨g+1,3,GE⟩) a (.slice GE 0 0);obtain⟨⟨F,E,D,C⟩,-⟩:=dW j;have f:=GP l;have L:=GP hB;clear j l M s t b Q q2 P O q5 q6 Y X4 c x E3 E4 BW HP HL m d N y2 y o B z2 z4 hT hW S I;go_wp2;exact GK (v:=.tuple #[.agg iL,.int .i64 190]) (by simp[results,Tryz.results16,go_sem,F,E,D,C]) rfl ⟨by rw[<-A.out];exact f.out,.inr (.inl ⟨HK.out,.inr L.out,rfl⟩)⟩
   ·have ah:¬(1024:Int)<((emA cells e).dp:Int):=by omega
    have j:=oU (.slice aw (emA cells e).ws.length cw) (.slice u (emA cells e).cs.length r) (.slice an (emA cells e).ns.length cn) (.slice ak (emA cells e).ks.length ck) b.1;have l:=(((M.setCell (p:=⟨g+1,0,GE⟩) a (.slice aw (emA cells e).ws.length cw)).setCell (p:=⟨g+1,1,GE⟩) a (.slice u (emA cells e).cs.length r)).setCell (p:=⟨g+1,2,GE⟩) a (.slice an (emA cells e).ns.length cn)).setCell (p:=⟨g+1,3,GE⟩) a (.slice ak (emA cells e).ks.length ck);have Z:dQ (λk=>k=0) w5 K ((((w5.setCell ⟨g+1,0,GE⟩ (.slice aw (emA cells e).ws.length cw)).setCell ⟨g+1,1,GE⟩ (.slice u (emA cells e).cs.length r)).setCell ⟨g+1,2,GE⟩ (.slice an (emA cells e).ns.length cn)).setCell ⟨g+1,3,GE⟩ (.slice ak (emA cells e).ks.length ck)) K:=((((dQ.refl _ w5 K).setCell ⟨g+1,0,GE⟩ _ b.2).setCell ⟨g+1,1,GE⟩ _ b.2).setCell ⟨g+1,2,GE⟩ _ b.2).setCell ⟨g+1,3,GE⟩ _ b.2;obtain⟨⟨F,E,D,C⟩,-⟩:=dW j;have f:=GP l;have L:=GP (show (emA cells e).ws.length<=32768/\(emA cells e).dp<=1024 by omega);have ar:=GP (show EmC _ K (emA cells e) _ _ _ _ from ⟨h1,h2,h3,Q.step Z (by decide),q2.step Z (by decide),P.step Z (by decide),O.step Z (by decide)⟩);have aq:=GP R;clear j l Z M s t b Q q2 P O q5 q6 Y X4 c x E3 E4 BW HP HL m d N y2 y o B z2 z4 hT hW S I R hA hB;go_wp2;exact GK (v:=.tuple #[.agg #[.slice aw (emA cells e).ws.length cw,.slice u (emA cells e).cs.length r,.slice an (emA cells e).ns.length cn,.slice ak (emA cells e).ks.length ck],.int .i64 0]) (by simp[results,Tryz.results16,go_sem,F,E,D,C]) rfl ⟨by rw[<-A.out];exact f.out,.inr (.inr ⟨HK.out,L.out.1,L.out.2,aa.out,_,_,_,_,K,rfl,aq.out,ar.out⟩)⟩
def awE:List UInt8:=[99,111,117,110,116,32,118,32,105,110,32,102,101,119,58,32,118,32,61,32,64,49]
def zc:Fs->Bool
 | ⟨GE⟩=>true
 | ⟨GF ⟨_,n,_,_,ks,r⟩⟩=>decide (-9223372036854775808<=n)&&(decide (n<=9223372036854775807)&&(zc ks&&zc r))
theorem re:∀ {f:Fs},zc f=true->f.rng
 | ⟨GE⟩,_=>trivial
 | ⟨GF ⟨k,n,nm,a,ks,r⟩⟩,h=>by
  simp only[zc,He,decide_eq_true_eq] at h;exact⟨h.1,h.2.1,re h.2.2.1,re h.2.2.2⟩
def Fa (l:List UInt8):Bool:=match ie l with
 | ⟨GF (.inr (x,_))⟩=>decide ((pe x).2.1=0)&&(decide (fa [] (ofE x [])≠0)&&(zc (one (ofE x []))&&(decide ((emA [] (ofE x [])).ws.length=11)&&(decide ((emA [] (ofE x [])).dp<=1024)&&(decide ((emA [] (ofE x [])).cs=[0,1])&&decide ((emA [] (ofE x [])).ns=[[102,101,119]]))))))
 | _=>false
theorem aw_e:Fa awE=true:=by kernel_rfl
theorem xW {l:List UInt8}(h:Fa l=true):∃x t,ie l=.ok x t/\(pe x).2.1=0/\fa [] (ofE x [])≠0/\(one (ofE x [])).rng/\(emA [] (ofE x [])).ws.length=11/\(emA [] (ofE x [])).dp<=1024/\(emA [] (ofE x [])).cs=[0,1]/\(emA [] (ofE x [])).ns=[[102,101,119]]:=by
 unfold Fa at h;cases b:ie l using Rs.on with
 | out=>rw[b] at h;cases h
 | bad e a=>rw[b] at h;cases h
 | ok x t =>
  rw[b] at h;simp only[Rs.ok,He,decide_eq_true_eq] at h;exact⟨x,t,rfl,h.1,h.2.1,re h.2.2.1,h.2.2.2.1,h.2.2.2.2.1,h.2.2.2.2.2.1,h.2.2.2.2.2.2⟩
theorem kK.okE {w w':GI}{e:Ex}{x:IL}(h:kK w e x w')(b:(pe e).2.1=0):∃a c,x=.returned (.tuple #[plV (ofE e []) a c (.slice GE 0 0),.int .i64 0])/\SlN w' (Nw w.heap.size) (ofE e []).kids a/\GO w.heap.size w w':=by
 unfold kK at h;rw[if_pos b] at h;exact h
theorem qB.yes {w w':GI}{e:Ex}{cells:List Int}{z:IL}(h:qB w e cells z w')(a:fa cells e≠0)(h1:(emA cells e).ws.length<=32768)(h2:(emA cells e).dp<=1024):GO w.heap.size w w'/\∃vw vc vn vk o',z=.returned (.tuple #[.agg #[vw,vc,vn,vk],.int .i64 0])/\(∀ k,k<w.heap.size->o' k=0)/\EmC w' o' (emA cells e) vw vc vn vk:=by
 obtain⟨B,h|h|h⟩:=h
 ·exact absurd h.1 a
 ·rcases h.2.1 with b|b<;>omega
 ·exact⟨B,h.2.2.2.2⟩
theorem zH (w:GI)(T:Wd w)(U:ly w):GV GH 13 #[] w λe w'=>e=.returned (.bool true)/\GO w.heap.size w w':=by
 obtain⟨x,t,z,I,J,h,g,j,k,i⟩:=xW aw_e;have c:=ya z;have c1:=Ch ⟨awE.toArray⟩ w (by decide);have K:(ByteArray.mk awE.toArray).data.toList=awE:=by simp
 rw[K,z] at c1;have C:fs (ofE x []):=⟨Ey x [] c.fit.nm,Hr (Di x []) c.fit.len,wR x [] c.fit.sh⟩;clear K z;go_enter Tryz.func13,Tryz.ntmps13;go_wp2_with fail;refine c1.mono ?_;rintro e w1 ⟨b,a,rfl,R,b1⟩;clear c1;have b2:GO w1.heap.size w1 (w1.alloc (zEx x b a)):=(GR _ w1).alloc (GG _) _;have O:(w1.alloc (zEx x b a)).heap[w1.heap.size]?=GF (zEx x b a):=GL w1 _;have H:=b1.trans (b2.mono b1.size);have Q:SlT (w1.alloc (zEx x b a)) x.kids b:=SlT.below (Sl.all R) b2;rw[dU];go_upto_region 2 with fail;generalize w1.alloc (zEx x b a)=w2 at *;generalize w1.heap.size=bx at *;have c3:=Fk x b a w2 c.fit (by have:=c.size;omega) Q;rw[dU] at c3;obtain⟨p0,p1,p2,p3,p4,y⟩:=dT O;go_wp2_with fail;refine c3.mono ?_;intro e w3 D;have D:=D.okE I;clear c3;generalize ofE x []=p at *;obtain⟨ap,n,rfl,X,b3⟩:=D;have S:=H.trans (b3.mono H.size);clear p0 p1 p2 p3 p4 y b1 b2 b3 H Q O R c I;have L:GO w3.heap.size w3 (w3.alloc (zPl p ap n GE 0 0)):=(GR _ w3).alloc (GG _) _;have N:(w3.alloc (zPl p ap n GE 0 0)).heap[w3.heap.size]?=GF (zPl p ap n GE 0 0):=GL w3 _;have r:=S.trans (L.mono S.size);have P:=SnA.below X.all L;rw[fp];go_upto_region 3 with fail;generalize w3.alloc (zPl p ap n GE 0 0)=w4 at *;generalize w3.heap.size=bp at *;have c5:=yS p ap n (.slice GE 0 0) [] w4 C ⟨h.1,h.2.1⟩ h.2.2.1 (T.below r) (U.below r) ⟨GE,0,rfl,.inl rfl⟩ (by simp) P;rw[fp] at c5;obtain⟨p0,p1,p2,p3,p4,y⟩:=dT N;go_wp2_with fail;refine c5.mono ?_;intro e f h5;obtain⟨q,vw,vc,vn,vk,Z,rfl,-,o⟩:=h5.yes J (by omega) j;clear c5 h5;have G:=r.trans (q.mono r.size);obtain⟨aw,cw,rfl⟩:=o.ws.form;obtain⟨ak,ck,rfl⟩:=o.ks.form;have F:=o.cs;have E:=o.ns;rw[k] at F;rw[i] at E;rw[g];obtain⟨u,cc,rfl,-,-,-,B,m,-⟩:=F.pos (by decide);obtain⟨gn,cn,rfl,-,-,-,A,l,-⟩:=E.pos (by decide);have d1:f.cell? ⟨u,1,GE⟩=GF (.int .i64 1):=m 1 (by decide);have d2:f.cell? ⟨gn,0,GE⟩=GF (.string ⟨#[102,101,119]⟩):=l 0 (by decide);generalize (emA [] p).ks.length=lk at *;obtain⟨s,d⟩:=exq (f.alloc (.cells #[.slice aw 11 cw,.slice (GF ⟨u,0,GE⟩) 2 cc,.slice (GF ⟨gn,0,GE⟩) 1 cn,.slice ak lk ck] 42));have v:GO f.heap.size f s:=by rw[d];exact b1 _ _
 have M:s.heap[f.heap.size]?=GF (.cells #[.slice aw 11 cw,.slice (GF ⟨u,0,GE⟩) 2 cc,.slice (GF ⟨gn,0,GE⟩) 1 cn,.slice ak lk ck] 42):=by rw[d];exact GL f _
 have Y:=G.trans (v.mono G.size);have W:=(v.cell (p:=⟨u,1,GE⟩) B).trans d1;have V:=(v.cell (p:=⟨gn,0,GE⟩) A).trans d2;obtain⟨⟨m0,m1,m2,m3⟩,-⟩:=dW M;clear d1 d2 v G m l F E o p0 p1 p2 p3 p4 y N M q r P k i g j J;go_upto_region 4 with fail;rw[<-d];clear d;generalize f.heap.size=bq at *;go_wp2;go_ret;exact⟨rfl,Y⟩
structure Inv (s:Em):Prop where
 nc:s.cs.Nodup
 nn:s.ns.Nodup
 wc:∀ x ∈ s.ws,(x.op=1\/x.op=2)->x.a<s.cs.length
 wn:∀ x ∈ s.ws,x.op=21->x.a<s.ns.length
 uc:∀ i,i<s.cs.length->∃x ∈ s.ws,(x.op=1\/x.op=2)/\x.a=i
 un:∀ i,i<s.ns.length->∃x ∈ s.ws,x.op=21/\x.a=i
structure Pre (s s':Em):Prop where
 at1:∀ i,i<s.ws.length->s'.ws[i]?=s.ws[i]?
 len:s.ws.length<=s'.ws.length
 ks:s'.ks.length=s.ks.length
theorem Pre.refl (s:Em):Pre s s:=⟨λ_ _=>rfl,GG _,rfl⟩
theorem Pre.trans {a b c:Em}(h:Pre a b)(k:Pre b c):Pre a c:=⟨λi d=>(k.at1 i (GQ d h.len)).trans (h.at1 i d),Hr h.len k.len,k.ks.trans h.ks⟩
def Gd (f:Em->Em):Prop:=∀ s,Inv s->Inv (f s)/\Pre s (f s)
theorem Gd.id:Gd (λs=>s):=λs h=>⟨h,Pre.refl s⟩
theorem Gd.comp {f g:Em->Em}(a:Gd f)(b:Gd g):Gd (λs=>g (f s)):=λs h=>⟨(b _ (a s h).1).1,(a s h).2.trans (b _ (a s h).1).2⟩
theorem wN (s:Em)(op a b:Nat):Pre s (s.lay op a b):=⟨λi c=>by simp only[Em.lay];exact Iy c,by simp[Em.lay],rfl⟩
theorem pB (s:Em)(op a b u:Nat):Pre s (s.push op a b u):=⟨λi c=>by simp only[Em.push];exact Iy c,by simp[Em.push],rfl⟩
theorem lT {s:Em}(h:Inv s)(x:Wo)(d:Nat)(h1:(x.op=1\/x.op=2)->x.a<s.cs.length)(h2:x.op=21->x.a<s.ns.length):Inv ⟨s.ws++[x],s.cs,s.ns,s.ks,d⟩:=by
 refine⟨h.nc,h.nn,λy b=>?_,λy b=>?_,λi c=>?_,λi c=>?_⟩
 ·rcases List.mem_append.1 b with b|b
  ·exact h.wc y b
  ·simp at b;subst b;exact h1
 ·rcases List.mem_append.1 b with b|b
  ·exact h.wn y b
  ·simp at b;subst b;exact h2
 ·obtain⟨y,b,e⟩:=h.uc i c;exact⟨y,I1 _ b,e⟩
 ·obtain⟨y,b,e⟩:=h.un i c;exact⟨y,I1 _ b,e⟩
theorem fr (op a b:Nat)(h1:op≠1)(h2:op≠2)(c:op≠21):Gd (λs=>s.lay op a b):=λs h =>
 ⟨lT h ⟨op,a,b⟩ s.dp (λh=>by rcases h with h|h<;>contradiction) (λh=>absurd h c),wN s op a b⟩
theorem qF {s:Em}(h:Inv s)(n:Int)(op b d:Nat)(f:op=1\/op=2):Inv ⟨(s.kc n).ws++[⟨op,s.cs.idxOf n,b⟩],(s.kc n).cs,(s.kc n).ns,(s.kc n).ks,d⟩:=by
 by_cases g:n ∈ s.cs
 ·have e:(s.kc n).cs=s.cs:=by simp[Em.kc,g]
  simp only[e];exact lT h ⟨op,s.cs.idxOf n,b⟩ d (λ_=>List.idxOf_lt_length_of_mem g) (λh=>by rcases f with e|e<;>(rw[e] at h;cases h))
 ·have e:(s.kc n).cs=s.cs++[n]:=by simp[Em.kc,g]
  have o:=List.idxOf_eq_length g;simp only[e,o];refine⟨?_,h.nn,λy a c=>?_,λy a c=>?_,λi j=>?_,λi j=>?_⟩
  ·rw[List.nodup_append];exact⟨h.nc,by simp,λx m y a=>by simp at a;subst a;rintro rfl;exact g m⟩
  ·rw[Hb];rcases List.mem_append.1 a with a|a
   ·have:=h.wc y a c;omega
   ·simp at a;subst a;simp
  ·rcases List.mem_append.1 a with a|a
   ·exact h.wn y a c
   ·simp at a;subst a;rcases f with e|e<;>(rw[e] at c;cases c)
  ·rw[Hb] at j;by_cases k:i<s.cs.length
   ·obtain⟨y,a,l⟩:=h.uc i k;exact⟨y,I1 _ a,l⟩
   ·exact⟨_,List.mem_append_right _ (List.mem_singleton.2 rfl),f,by simp at j;simp only;omega⟩
  ·obtain⟨y,a,l⟩:=h.un i j;exact⟨y,I1 _ a,l⟩
theorem Ah {s:Em}(h:Inv s)(n:List UInt8)(d:Nat):Inv ⟨(s.kn n).ws++[⟨21,s.ns.idxOf n,0⟩],(s.kn n).cs,(s.kn n).ns,(s.kn n).ks,d⟩:=by
 by_cases c:n ∈ s.ns
 ·have e:(s.kn n).ns=s.ns:=by simp[Em.kn,c]
  simp only[e];exact lT h ⟨21,s.ns.idxOf n,0⟩ d (λh=>by simp at h) (λ_=>List.idxOf_lt_length_of_mem c)
 ·have e:(s.kn n).ns=s.ns++[n]:=by simp[Em.kn,c]
  have l:=List.idxOf_eq_length c;simp only[e,l];refine⟨h.nc,?_,λy a b=>?_,λy a b=>?_,λi f=>?_,λi f=>?_⟩
  ·rw[List.nodup_append];exact⟨h.nn,by simp,λx k y a=>by simp at a;subst a;rintro rfl;exact c k⟩
  ·rcases List.mem_append.1 a with a|a
   ·exact h.wc y a b
   ·simp at a;subst a;simp at b
  ·rw[Hb];rcases List.mem_append.1 a with a|a
   ·have:=h.wn y a b;omega
   ·simp at a;subst a;simp
  ·obtain⟨y,a,j⟩:=h.uc i f;exact⟨y,I1 _ a,j⟩
  ·rw[Hb] at f;by_cases g:i<s.ns.length
   ·obtain⟨y,a,j⟩:=h.un i g;exact⟨y,I1 _ a,j⟩
   ·exact⟨_,List.mem_append_right _ (List.mem_singleton.2 rfl),rfl,by simp at f;simp only;omega⟩
theorem iW (n:Int)(kd u:Nat):Gd (λs=>s.con n kd u):=λs h=>⟨qF h n 1 kd _ (.inl rfl),Pre.trans (b:=s.kc n) ⟨λ_ _=>rfl,GG _,rfl⟩ (pB (s.kc n) 1 _ kd u)⟩
theorem Eg (n:Int)(u:Nat):Gd (λs=>(s.kc n).push 2 (s.cs.idxOf n) 0 u):=λs h=>⟨qF h n 2 0 _ (.inr rfl),Pre.trans (b:=s.kc n) ⟨λ_ _=>rfl,GG _,rfl⟩ (pB (s.kc n) 2 _ 0 u)⟩
theorem ET (n:List UInt8):Gd (λs=>(s.kn n).lay 21 (s.ns.idxOf n) 0):=λs h=>⟨Ah h n _,Pre.trans (b:=s.kn n) ⟨λ_ _=>rfl,GG _,rfl⟩ (wN (s.kn n) 21 _ 0)⟩
theorem EW (a u:Nat):Gd (λs=>s.push 3 a 0 u):=λs h=>⟨lT h ⟨3,a,0⟩ _ (λh=>by simp at h) (λh=>by simp at h),pB s 3 a 0 u⟩
theorem nL (s:Em)(i j:Nat):(s.land i).ws[j]?=if i=j then (s.ws[j]?).map (λx=>x.to s.ws.length) else s.ws[j]?:=by
 simp only[Em.land];rw[List.getElem?_modify];split<;>simp
theorem Gp (x:Wo)(n:Nat):(x.to n).op=x.op:=by unfold Wo.to;split<;>rfl
theorem my {s:Em}(h:Inv s){i:Nat}{x:Wo}(m:s.ws[i]?=GF x)(h1:x.op≠1)(h2:x.op≠2)(n:x.op≠21):Inv (s.land i):=by
 have f:∀ y ∈ (s.land i).ws,(y.op=1\/y.op=2\/y.op=21)->y ∈ s.ws:=λy b a=>by
  obtain⟨j,c⟩:=List.mem_iff_getElem?.1 b;rw[nL] at c;split at c
  ·rename_i e
   subst e;rw[m] at c;simp at c;subst c;rw[Gp] at a;rcases a with a|a|a<;>contradiction
  ·exact List.mem_iff_getElem?.2 ⟨j,c⟩
 have d:∀ y ∈ s.ws,(y.op=1\/y.op=2\/y.op=21)->y ∈ (s.land i).ws:=λy b a=>by
  obtain⟨j,c⟩:=List.mem_iff_getElem?.1 b;refine List.mem_iff_getElem?.2 ⟨j,?_⟩;rw[nL];split
  ·rename_i e
   subst e;rw[m] at c;simp at c;subst c;rcases a with a|a|a<;>contradiction
  ·exact c
 refine⟨h.nc,h.nn,λy b a=>h.wc y (f y b (by rcases a with e|e;exact .inl e;exact .inr (.inl e))) a,λy b a=>h.wn y (f y b (.inr (.inr a))) a,λk g=>?_,λk g=>?_⟩
 ·obtain⟨y,b,a,l⟩:=h.uc k g;exact⟨y,d y b (by rcases a with e|e;exact .inl e;exact .inr (.inl e)),a,l⟩
 ·obtain⟨y,b,a,l⟩:=h.un k g;exact⟨y,d y b (.inr (.inr a)),a,l⟩
theorem rT (s:Em)(i:Nat):(s.land i).ws.length=s.ws.length:=by simp[Em.land]
theorem lZ {s s':Em}(h:Pre s s'){i:Nat}(c:s.ws.length<=i):Pre s (s'.land i):=⟨λj b=>by rw[nL,if_neg (by omega)];exact h.at1 j b,by rw[rT];exact h.len,h.ks⟩
theorem mj (s:Em)(op a b:Nat):(s.lay op a b).ws[s.ws.length]?=GF ⟨op,a,b⟩:=by simp[Em.lay]
theorem nR {f g:Em->Em}(op:Nat)(n:Gd f)(m:Gd g)(h1:op≠1)(h2:op≠2)(i:op≠21):Gd (λs=>s.fork op f g):=λs h=>by
 obtain⟨e,p1⟩:=fr op 0 0 h1 h2 i s h;obtain⟨i2,p2⟩:=n _ e;obtain⟨i3,p3⟩:=fr 13 0 0 (by decide) (by decide) (by decide) _ i2
 dsimp only at e p1 i2 p2 i3 p3
 have l:(s.lay op 0 0).ws.length=s.ws.length+1:=by simp[Em.lay]
 have c:((f (s.lay op 0 0)).lay 13 0 0).ws[s.ws.length]?=GF ⟨op,0,0⟩:=((p2.trans p3).at1 s.ws.length (by omega)).trans (mj s op 0 0);have i4:=my i3 c h1 h2 i;have p4:=lZ ((p1.trans p2).trans p3) (GG s.ws.length);obtain⟨i5,d⟩:=m _ i4;have k:=p2.len;have j:(((f (s.lay op 0 0)).lay 13 0 0).land s.ws.length).ws.length=(f (s.lay op 0 0)).ws.length+1:=by rw[rT];simp[Em.lay]
 have b:(((f (s.lay op 0 0)).lay 13 0 0).land s.ws.length).ws[(f (s.lay op 0 0)).ws.length]?=GF ⟨13,0,0⟩:=by
  rw[nL,if_neg (by omega)];exact mj _ 13 0 0
 have a:=(d.at1 (f (s.lay op 0 0)).ws.length (by omega)).trans b;exact⟨my i5 a (by decide) (by decide) (by decide),lZ (p4.trans d) (by omega)⟩
theorem qS (h:Nat):∀ (l:List Int) (i:Nat),Gd (iH h l i)
 | [],_=>Gd.id
 | x::r,i=>λs f=>by
  unfold iH;by_cases e:x=(h:Int)
  ·rw[if_pos e];obtain⟨a,b⟩:=fr 19 i 0 (by decide) (by decide) (by decide) s f;obtain⟨c,d⟩:=qS h r (i+1) _ a;exact⟨c,b.trans d⟩
  ·rw[if_neg e];exact qS h r (i+1) s f
theorem zI (lv:List Int){t:Tr}(a:∀ ar u,Gd (t ar u))(ar u:Nat):Gd (bdy lv t ar u):=(qS (ar+1) lv 0).comp (a (ar+1) u)
theorem wk (lv:List Int){t:Tr}(a:∀ ar u,Gd (t ar u))(op:Nat)(v:Int)(h1:op≠1)(h2:op≠2)(c:op≠21)(ar u:Nat):Gd (xV lv t op v ar u):=λs b =>
 nR 24 ((((zI lv a ar u).comp (fr op s.ws.length 0 h1 h2 c)).comp (fr 25 0 0 (by decide) (by decide) (by decide))).comp (iW v 2 u)) (iW (1-v) 2 u) (by decide) (by decide) (by decide) s b
theorem rl (lv:List Int){t:Tr}(c:∀ ar u,Gd (t ar u)){f:Nat->Em->Em}(e:∀ g,Gd (f g))(ar u:Nat):Gd (pK lv t f ar u):=λs h=>by
 obtain⟨a,p1⟩:=fr 24 0 0 (by decide) (by decide) (by decide) s h;obtain⟨i2,p2⟩:=(((zI lv c ar u).comp (e s.ws.length)).comp (fr 13 s.ws.length 0 (by decide) (by decide) (by decide))) _ a
 dsimp only at a p1 i2 p2
 have d:(s.lay 24 0 0).ws.length=s.ws.length+1:=by simp[Em.lay]
 have b:=(p2.at1 s.ws.length (by omega)).trans (mj s 24 0 0);exact⟨my i2 b (by decide) (by decide) (by decide),lZ (p1.trans p2) (GG _)⟩
theorem EF (lv:List Int)(n:Int){a t:Tr}(d:∀ ar u,Gd (a ar u))(b:∀ ar u,Gd (t ar u))(ar u:Nat):Gd (qua lv n a t ar u):=λs c=>by
 unfold qua;split
 ·exact((d ar u).comp (wk lv b 15 0 (by decide) (by decide) (by decide) ar u)) s c
 ·split
  ·exact((d ar u).comp (wk lv b 14 1 (by decide) (by decide) (by decide) ar u)) s c
  ·split
   ·exact(((d ar u).comp (iW 0 1 u)).comp (rl lv b (λg=>((fr 14 g 0 (by decide) (by decide) (by decide)).comp (iW 1 1 (u+1))).comp (fr 6 0 0 (by decide) (by decide) (by decide))) ar (u+1))) s c
   ·split
    ·exact(((d ar u).comp (iW 0 1 u)).comp (rl lv b (λg=>fr 6 0 0 (by decide) (by decide) (by decide)) ar (u+1))) s c
    ·exact(((((d ar u).comp (iW 0 1 u)).comp (iW 0 2 (u+1))).comp (rl lv b (λg=>fr 26 (n-5).toNat 0 (by decide) (by decide) (by decide)) ar (u+2))).comp (fr 27 0 0 (by decide) (by decide) (by decide))) s c
theorem zU:∀ (T:List Tr) (i ar u:Nat),(∀ t ∈ T,∀ ar u,Gd (t ar u))->Gd (nI T i ar u)
 | [],_,_,_,_=>Gd.id
 | t::r,i,ar,u,h=>(h t (List.mem_cons_self ..) ar (u+i)).comp (zU r (i+1) ar u (λx a=>h x (List.mem_cons_of_mem _ a)))
theorem ua (k:Int):jy k≠1/\jy k≠2/\jy k≠21:=by
 unfold jy
 repeat' split
 all_goals decide
theorem Fv (k n:Int)(nm:List UInt8)(b:List Int):Gd (opr k n nm b):=λs a=>by
 unfold opr;split
 ·exact fr 11 0 _ (by decide) (by decide) (by decide) s a
 ·split
  ·exact((fr 11 0 (b.getD 0 0).toNat (by decide) (by decide) (by decide)).comp (fr 5 0 0 (by decide) (by decide) (by decide))) s a
  ·split
   ·exact fr 12 0 0 (by decide) (by decide) (by decide) s a
   ·split
    ·exact fr 12 0 1 (by decide) (by decide) (by decide) s a
    ·split
     ·exact fr 16 _ 0 (by decide) (by decide) (by decide) s a
     ·split
      ·exact ET nm s a
      ·split
       ·exact fr 23 _ 0 (by decide) (by decide) (by decide) s a
       ·exact fr _ 0 0 (ua k).1 (ua k).2.1 (ua k).2.2 s a
theorem jo {T:List Tr}(h:∀ t ∈ T,∀ ar u,Gd (t ar u))(i ar u:Nat):Gd (T.getD i noT ar u):=by
 by_cases a:i<T.length
 ·rw[Hf,GM a];exact h _ (Ix a) ar u
 ·rw[Hf,Hi (by omega)];exact Gd.id
theorem za (lv:List Int)(k n:Int)(nm:List UInt8)(b:List Int){T:List Tr}(h:∀ t ∈ T,∀ ar u,Gd (t ar u))(ar u:Nat):Gd (prt lv k n nm b T ar u):=λs a=>by
 unfold prt;split
 ·exact iW n 1 u s a
 split
 ·exact iW n 2 u s a
 split
 ·exact Eg n u s a
 split
 ·exact EW _ u s a
 split
 ·exact((jo h 0 ar u).comp (nR 14 (jo h 1 ar u) (iW 0 2 u) (by decide) (by decide) (by decide))) s a
 split
 ·exact((jo h 0 ar u).comp (nR 15 (jo h 1 ar u) (iW 1 2 u) (by decide) (by decide) (by decide))) s a
 split
 ·exact((jo h 0 ar u).comp (nR 14 (jo h 1 ar u) (jo h 2 ar u) (by decide) (by decide) (by decide))) s a
 split
 ·have c:Inv (s.cel n.toNat (b.getD 0 0)):=⟨a.nc,a.nn,a.wc,a.wn,a.uc,a.un⟩;have p0:Pre s (s.cel n.toNat (b.getD 0 0)):=⟨λ_ _=>rfl,GG _,by simp[Em.cel]⟩;obtain⟨d,p1⟩:=fr 17 n.toNat 0 (by decide) (by decide) (by decide) _ c;obtain⟨i2,p2⟩:=((jo h 0 ar u).comp (fr 18 n.toNat 0 (by decide) (by decide) (by decide))) _ d
  dsimp only at d p1 i2 p2
  have f:((s.cel n.toNat (b.getD 0 0)).lay 17 n.toNat 0).ws.length=s.ws.length+1:=by simp[Em.lay,Em.cel]
  have e:=(p2.at1 s.ws.length (by omega)).trans (mj (s.cel n.toNat (b.getD 0 0)) 17 n.toNat 0);exact⟨my i2 e (show (17:Nat)≠1 by decide) (show (17:Nat)≠2 by decide) (show (17:Nat)≠21 by decide),lZ ((p0.trans p1).trans p2) (GG _)⟩
 split
 ·exact EF lv n (λar u=>jo h 0 ar u) (λar u=>jo h 1 ar u) ar u s a
 ·exact((zU T 0 ar u h).comp (Fv k n nm b)) s a
theorem tK (lv:List Int):∀ (f:Fs),∀ t ∈ emF lv f,∀ ar u,Gd (t ar u)
 | ⟨GE⟩=>λt b=>by simp[emF] at b
 | ⟨GF ⟨k,n,nm,a,ks,r⟩⟩=>λt b ar u=>by
  simp only[emF,Iu] at b;rcases b with rfl|b
  ·exact za lv k n nm (kdF ks) (tK lv ks) ar u
  ·exact tK lv r t b ar u
theorem Ej (lv:List Int)(e:Ex)(ar u:Nat):Gd (emE lv e ar u):=za lv e.k e.n e.nm (kdF e.kids) (tK lv e.kids) ar u
theorem Dz (lv:List Int)(e:Ex):Inv (emA lv e)/\(emA lv e).ks.length=lv.length:=by
 have c:Inv (em0 lv):=⟨List.nodup_nil,List.nodup_nil,λx a=>by simp[em0] at a,λx a=>by simp[em0] at a,λi b=>by simp[em0] at b,λi b=>by simp[em0] at b⟩;obtain⟨h,p⟩:=((Ej lv e 0 0).comp (fr 0 0 0 (by decide) (by decide) (by decide))) _ c;exact⟨h,p.ks.trans (by simp[em0])⟩
theorem yz (w:GI)(v1 v2:GN)(xs a:List Int)(h1:InA w v1 xs)(h2:InA w v2 a)(J:xs.length<=1000000000) :
  GV GH 42 #[v1,v2] w λx w'=>x=.returned (.bool (decide (xs=a)))/\GO w.heap.size w w':=by
 obtain⟨W,z⟩:=exq (decide (xs=a));rw[<-z];have h:Hid (W=decide (xs=a)):=z;clear z;obtain⟨a1,c1,rfl,h1⟩:=h1;obtain⟨a2,c2,rfl,h2⟩:=h2;go_enter Tryz.func42,Tryz.ntmps42;by_cases c:xs.length=a.length
 ·have A:((xs.length:Int) != (a.length:Int))=false:=by rw[c];simp
  have D:Hid (xs.length=a.length):=c;clear c;go_wp2;go_loopw [5] (λv wr=>∃k:Nat,k<=xs.length/\v=.int .i64 k/\Hid (∀ j,j<k->xs[j]?=a[j]?)/\GO w.heap.size w wr) (λv _=>xs.length-(Hl v).toNat)
  case atStart=>exact⟨0,by omega,by go_num,λj r=>absurd r (Hv _),GR _ _⟩
  case round =>
   obtain⟨k,K,rfl,b,o⟩:=hrel;by_cases l:k<xs.length
   ·have C:k<a.length:=by have:=D.out;omega
    have e:=GM l;have hy1:=GM C;rcases h1 with rfl|⟨g1,H,rfl,-,t,n⟩
    ·simp at l
    rcases h2 with rfl|⟨g2,G,rfl,-,s,m⟩
    ·simp at C
    have F:=(o.cell (p:=⟨g1,H+k,GE⟩) t).trans (n k _ e);have E:=(o.cell (p:=⟨g2,G+k,GE⟩) s).trans (m k _ hy1);generalize xs[k]=x at F e;generalize a[k]=y at E hy1;have q:(k:Int)<(xs.length:Int):=by omega
    have g:Hid (xs[k]?=GF x/\a[k]?=GF y):=⟨e,hy1⟩;clear e hy1 n m A;by_cases i:x=y
    ·have u:(x != y)=false:=by simpa using i
     have hn2:Hid (∀ j,j<k+1->xs[j]?=a[j]?):=by
      intro j r;rcases Nat.lt_succ_iff_lt_or_eq.1 r with f|rfl
      ·exact b.out j f
      ·rw[g.out.1,g.out.2,i]
     clear b g i h;go_wp2_with fail
     go_quiet (fail)
     have B:=o.trans (show GO w.heap.size wr (wr.drewN nq) from ⟨rfl,rfl,rfl,GG _,λ_ _=>rfl⟩);go_wp2;go_roundw
     case rel=>exact⟨k+1,by omega,by go_num,hn2,B⟩
     case measure=>simp[Hl];omega
    ·have u:(x != y)=true:=by simpa using i
     have d:Hid (W=false):=by
      show W=_;rw[h.out];apply decide_eq_false;intro f;rw[f,g.out.2] at g
      have:=g.out.1
      injection this with this
      exact i this.symm
     clear b g i h;go_wp2_with fail
     go_quiet (fail)
     have B:=o.trans (show GO w.heap.size wr (wr.drewN nq) from ⟨rfl,rfl,rfl,GG _,λ_ _=>rfl⟩);go_wp2;go_ret;rw[d.out];exact⟨rfl,B⟩
   ·have q:¬(k:Int)<(xs.length:Int):=by omega
    have d:Hid (W=true):=by
     show W=_;rw[h.out];apply decide_eq_true;apply Jo;intro j;rcases JP j k with f|f
     ·exact b.out j f
     ·rw[Hi (by omega),Hi (by have:=D.out;omega)]
    clear b h h1 h2 A;go_wp2;go_ret;rw[d.out];exact⟨rfl,o⟩
 ·have A:((xs.length:Int) != (a.length:Int))=true:=by simp;omega
  have d:Hid (W=false):=by
   show W=_;rw[h.out];exact decide_eq_false (λf=>c (by rw[f]))
  clear h c h1 h2;go_wp2;go_ret;rw[d.out];exact⟨rfl,GR _ _⟩
def hvP (e:Ex)(cells:List Int):Bool:=decide (20000<cells.length)||decide (wgF e.kids (20000-1)<0)
theorem yB (e:Ex)(ao:Option Ha)(cap s:Nat)(l:GN)(cells:List Int)(w:GI)(q:InA w l cells)(p:cells.length<=G5)(a:e.kids.len<=G5)(d:e.kids.wide)(S:SnA w e.kids ao) :
  GV GH 12 #[plV e ao cap l] w λx w'=>x=.returned (.bool (hvP e cells))/\GO w.heap.size w w':=by
 obtain⟨W,j⟩:=exq (hvP e cells);rw[<-j];have b:Hid (W=hvP e cells):=j;clear j;obtain⟨ac,cc,i,h⟩:=q;subst i;clear h;have f:Hid (G5=9223372036854775807):=rfl;have o:cells.length<=9223372036854775807:=by have:=f.out;omega
 have c:GO w.heap.size w (w.alloc (zPl e ao cap ac cells.length cc)):=(GR _ w).alloc (GG _) _;have m:(w.alloc (zPl e ao cap ac cells.length cc)).heap[w.heap.size]?=GF (zPl e ao cap ac cells.length cc):=GL w _;have t:=SnA.below S c;rw[fp];go_enter Tryz.func12,Tryz.ntmps12;go_upto_region 1 with fail;generalize w.alloc (zPl e ao cap ac cells.length cc)=w0 at *;obtain⟨p0,p1,p2,p3,p4,n⟩:=dT m;by_cases h2:20000<cells.length
 ·have r:(20000:Int)<(cells.length:Int):=by omega
  have k:Hid (W=true):=by show W=_;rw[b.out];simp[hvP,h2]
  clear b h2;go_wp2;go_ret;rw[k.out];exact⟨rfl,c⟩
 ·have r:¬(20000:Int)<(cells.length:Int):=by omega
  have k:Hid (W=decide (wgF e.kids (20000-1)<0)):=by show W=_;rw[b.out];simp[hvP,h2]
  have c1:=pZ (e.kids.size+1) e ao cap 20000 w0 (by omega) a d (by omega) (by omega) t;rw[dS] at c1;generalize wgF e.kids (20000-1)=g at *;clear b h2;go_wp2_with fail;refine c1.mono ?_;rintro z w1 ⟨rfl,b1⟩;have u:GO w.heap.size w w1:=c.trans (b1.mono c.size);clear c1 p0 p1 p2 p3 p4 n m;go_wp2;go_ret;rw[k.out];exact⟨rfl,u⟩
theorem Db {e:Ex}{cells:List Int}(h:hvP e cells=false):cells.length<=20000/\e.kids.size<=20000:=by
 unfold hvP at h;simp only[Bool.or_eq_false_iff,decide_eq_false_iff_not] at h;have h1:=od e.kids (20000-1) (by omega);omega
abbrev bV (U:List Bool):Array GN:=(U.map Value.bool).toArray
def okQ (s:Em):Prop:=s.ws.length<=32768/\s.dp<=1024
structure Qle (s t:Em):Prop where
 ws:s.ws.length<=t.ws.length
 dp:s.dp<=t.dp
theorem Qle.ok {s t:Em}(h:Qle s t)(k:okQ t):okQ s:=⟨Hr h.ws k.1,Hr h.dp k.2⟩
theorem Qle.refl (s:Em):Qle s s:=⟨GG _,GG _⟩
theorem Qle.trans {a b c:Em}(h:Qle a b)(k:Qle b c):Qle a c:=⟨Hr h.ws k.ws,Hr h.dp k.dp⟩
theorem es (s:Em)(op a b:Nat):Qle s (s.lay op a b):=⟨by simp[Em.lay],GG _⟩
theorem pg (s:Em)(op a b u:Nat):Qle s (s.push op a b u):=⟨by simp[Em.push],by simp only[Em.push];omega⟩
theorem tO (s:Em)(n:Int):Qle s (s.kc n):=⟨GG _,GG _⟩
theorem AM (s:Em)(x:List UInt8):Qle s (s.kn x):=⟨GG _,GG _⟩
theorem fE (s:Em)(n:Int)(kd u:Nat):Qle s (s.con n kd u):=(tO s n).trans (pg _ 1 _ kd u)
theorem iD (s:Em)(i:Nat):Qle s (s.land i):=⟨by simp[Em.land],GG _⟩
theorem vq (s:Em)(i:Nat)(k:Int):Qle s (s.cel i k):=⟨GG _,GG _⟩
def Qgr (f:Em->Em):Prop:=∀ s,Qle s (f s)
theorem Qgr.id:Qgr (λs=>s):=Qle.refl
theorem mq {f g:Em->Em}(op:Nat)(b:Qgr f)(a:Qgr g):Qgr (λs=>s.fork op f g):=λs =>
 ((((es s op 0 0).trans (b _)).trans (es _ 13 0 0)).trans (iD _ _)).trans ((a _).trans (iD _ _))
theorem hS (h:Nat):∀ (l:List Int) (i:Nat),Qgr (iH h l i)
 | [],_=>Qgr.id
 | x::r,i=>λs=>by
  unfold iH;by_cases e:x=(h:Int)
  ·rw[if_pos e];exact(es s 19 i 0).trans (hS h r (i+1) _)
  ·rw[if_neg e];exact hS h r (i+1) s
def Qtr (t:Tr):Prop:=∀ ar u,Qgr (t ar u)
theorem vK (lv:List Int){t:Tr}(a:Qtr t)(ar u:Nat):Qgr (bdy lv t ar u):=λs=>(hS (ar+1) lv 0 s).trans (a (ar+1) u _)
theorem rU (lv:List Int){t:Tr}(a:Qtr t)(op:Nat)(v:Int)(ar u:Nat):Qgr (xV lv t op v ar u):=λs =>
 mq 24 (f:=λx=>(((bdy lv t ar u x).lay op s.ws.length 0).lay 25 0 0).con v 2 u) (λx=>(((vK lv a ar u x).trans (es _ _ _ _)).trans (es _ _ _ _)).trans (fE _ _ _ _)) (λx=>fE _ _ _ _) s
theorem oA (lv:List Int){t:Tr}(a:Qtr t){f:Nat->Em->Em}(b:∀ g,Qgr (f g))(ar u:Nat):Qgr (pK lv t f ar u):=λs =>
 ((((es s 24 0 0).trans (vK lv a ar u _)).trans (b _ _)).trans (es _ _ _ _)).trans (iD _ _)
theorem vA (lv:List Int)(n:Int){a t:Tr}(c:Qtr a)(b:Qtr t)(ar u:Nat):Qgr (qua lv n a t ar u):=λs=>by
 unfold qua;split
 ·exact(c ar u s).trans (rU lv b 15 0 ar u _)
 split
 ·exact(c ar u s).trans (rU lv b 14 1 ar u _)
 split
 ·exact((c ar u s).trans (fE _ _ _ _)).trans (oA lv b (f:=λg x=>((x.lay 14 g 0).con 1 1 (u+1)).lay 6 0 0) (λg x=>((es _ _ _ _).trans (fE _ _ _ _)).trans (es _ _ _ _)) ar (u+1) _)
 split
 ·exact((c ar u s).trans (fE _ _ _ _)).trans (oA lv b (f:=λ_ x=>x.lay 6 0 0) (λg x=>es _ _ _ _) ar (u+1) _)
 ·exact((((c ar u s).trans (fE _ _ _ _)).trans (fE _ _ _ _)).trans (oA lv b (f:=λ_ x=>x.lay 26 (n-5).toNat 0) (λg x=>es _ _ _ _) ar (u+2) _)).trans (es _ _ _ _)
theorem vC:∀ (T:List Tr) (i ar u:Nat),(∀ t ∈ T,Qtr t)->Qgr (nI T i ar u)
 | [],_,_,_,_=>Qgr.id
 | t::r,i,ar,u,h=>λs=>(h t (List.mem_cons_self ..) ar (u+i) s).trans (vC r (i+1) ar u (λx a=>h x (List.mem_cons_of_mem _ a)) _)
theorem CL (k n:Int)(nm:List UInt8)(a:List Int):Qgr (opr k n nm a):=λs=>by
 unfold opr
 repeat' split
 all_goals first|exact es _ _ _ _|exact(es _ _ _ _).trans (es _ _ _ _)|exact(AM _ _).trans (es _ _ _ _)
theorem rg {T:List Tr}(h:∀ t ∈ T,Qtr t)(i:Nat):Qtr (T.getD i noT):=by
 by_cases a:i<T.length
 ·rw[Hf,GM a];exact h _ (Ix a)
 ·rw[Hf,Hi (by omega)];exact λ_ _=>Qgr.id
theorem rj (lv:List Int)(k n:Int)(nm:List UInt8)(c:List Int){T:List Tr}(h:∀ t ∈ T,Qtr t):Qtr (prt lv k n nm c T):=λar u s=>by
 have a:=rg h 0;have b:=rg h 1;have q2:=rg h 2;unfold prt;split
 ·exact fE _ _ _ _
 split
 ·exact fE _ _ _ _
 split
 ·exact(tO _ _).trans (pg _ _ _ _ _)
 split
 ·exact pg _ _ _ _ _
 split
 ·exact(a ar u s).trans (mq 14 (b ar u) (λx=>fE _ _ _ _) _)
 split
 ·exact(a ar u s).trans (mq 15 (b ar u) (λx=>fE _ _ _ _) _)
 split
 ·exact(a ar u s).trans (mq 14 (b ar u) (q2 ar u) _)
 split
 ·exact((((vq _ _ _).trans (es _ _ _ _)).trans (a ar u _)).trans (es _ _ _ _)).trans (iD _ _)
 split
 ·exact vA lv n a b ar u s
 ·exact(vC T 0 ar u h s).trans (CL k n nm c _)
theorem nT (lv:List Int):∀ (f:Fs),∀ t ∈ emF lv f,Qtr t
 | ⟨GE⟩=>λt b=>by simp[emF] at b
 | ⟨GF ⟨k,n,nm,a,ks,r⟩⟩=>λt b=>by
  simp only[emF,Iu] at b;rcases b with rfl|b
  ·exact rj lv k n nm (kdF ks) (nT lv ks)
  ·exact nT lv r t b
structure Dp where
 ws:List Wo
 cs:List Int
 ns:List (List UInt8)
 ks:List Int
 h:Int
 top:Int
 lg:Bool
def Dp.puts (s:Dp)(op a b:Nat):Dp:=if 32768<=s.ws.length then { s with lg:=true } else { s with ws:=s.ws++[⟨op,a,b⟩] }
def Dp.at1 (s:Dp):Nat:=if 32768<=s.ws.length then 0 else s.ws.length
def Dp.grows (s:Dp)(n:Int):Dp:={ s with h:=s.h+n,top:=max s.top (s.h+n),lg:=s.lg||decide (1024<max s.top (s.h+n)) }
def Dp.kI (s:Dp)(n:Int):Dp:={ s with cs:=if n ∈ s.cs then s.cs else s.cs++[n] }
def Dp.kN (s:Dp)(x:List UInt8):Dp:={ s with ns:=if x ∈ s.ns then s.ns else s.ns++[x] }
def Dp.val (s:Dp)(n:Int)(kd:Nat):Dp:=((s.kI n).puts 1 (s.cs.idxOf n) kd).grows 1
def Dp.lands (s:Dp)(i:Nat):Dp:=if s.lg then s else { s with ws:=s.ws.modify i (λx=>x.to s.ws.length) }
def Dp.cel (s:Dp)(i:Nat)(k:Int):Dp:=if s.ks.getD i 0=0 then { s with ks:=s.ks.set i k } else s
abbrev Td:=Nat->Dp->Dp
abbrev noD:Td:=λ_ s=>s
def fO:List Td->Nat->Dp->Dp
 | [],_,s=>s
 | t::r,ar,s=>fO r ar (t ar s)
def yF (k:Int)(a:List Int)(s:Dp):Dp :=
 if k=13 then s.puts 11 0 (a.getD 0 0).toNat else if k=14 then (s.puts 11 0 (a.getD 0 0).toNat).puts 5 0 0 else if k=15 then s.puts 12 0 0 else s.puts 12 0 1
def AA (k:Int)(t0 t1 t2:Td):Td:=λar s =>
 let a:=t0 ar s
 let c:=t1 ar ((a.puts (if k=18 then 15 else 14) 0 0).grows (-1))
 let e:=((c.puts 13 0 0).grows (-1)).lands a.at1
 (if k=17 then e.val 0 2 else if k=18 then e.val 1 2 else t2 ar e).lands c.at1
def uR (n:Nat)(kd:Int)(t0:Td):Td:=λar s =>
 ((t0 ar ((s.cel n kd).puts 17 n 0)).puts 18 n 0).lands (s.cel n kd).at1
def wS (k:Int)(nm:List UInt8)(T:List Td):Td:=λar s =>
 let a:=fO T ar s
 (if k=22 then a.puts 20 0 0 else if k=23 then (a.kN nm).puts 21 (a.ns.idxOf nm) 0 else if k=24 then a.puts 22 0 0 else a.puts 23 T.length 0).grows (-(T.length:Int))
def jt (h:Nat):List Int->Nat->Dp->Dp
 | [],_,s=>s
 | l::r,i,s=>if s.lg then s else jt h r (i+1) (if l=(h:Int) then s.puts 19 i 0 else s)
def qM (n:Int)(a next:Nat)(e:Dp):Dp :=
 let c:=(((e.puts (if n=2 then 14 else 15) a 0).grows (-1)).puts 25 0 0).val (if n=2 then 1 else 0) 2
 ((((c.puts 13 0 0).grows (-1)).lands next).val (if n=2 then 0 else 1) 2).lands c.at1
def iG (n:Int)(a:Dp):Dp :=
 let b:=if 3<=n then a.val 0 1 else a
 if 5<=n then b.val 0 2 else b
def pF (n:Int)(a:Nat)(e:Dp):Dp :=
 if n=3 then ((((e.puts 14 a 0).grows (-1)).val 1 1).puts 6 0 0).grows (-1) else if n=4 then (e.puts 6 0 0).grows (-1) else (e.puts 26 (n-5).toNat 0).grows (-1)
def pI (n:Int)(a next:Nat)(e:Dp):Dp :=
 let g:=((pF n a e).puts 13 a 0).lands next
 if 5<=n then (g.puts 27 0 0).grows (-1) else g
def lQ (lv:List Int)(n:Int)(t0 t1:Td):Td:=λar s =>
 let b:=iG n (t0 ar s)
 if b.lg then b else
 let e:=t1 (ar+1) (jt (ar+1) lv 0 (b.puts 24 0 0))
 if n=1\/n=2 then qM n b.ws.length b.at1 e else pI n b.ws.length b.at1 e
def oH (lv:List Int)(k n:Int)(nm:List UInt8)(a:List Int)(T:List Td):Td:=λar s =>
 if 22<=k/\k<=25 then wS k nm T ar s else if s.lg then s
 else if k=1 then s.val n 1 else if k=2 then s.val n 2 else if k=3 then ((s.kI n).puts 2 (s.cs.idxOf n) 0).grows 1 else if k=5 then (s.puts 3 n.toNat 0).grows 1
 else if 6<=k/\k<=12 then ((fO T ar s).puts (jy k) 0 0).grows (if k=6\/k=7 then 0 else -1)
 else if 13<=k/\k<=16 then (yF k a (fO T ar s)).grows (-1)
 else if k=20 then ((fO T ar s).puts 16 n.toNat 0).grows (1-(T.length:Int))
 else if k=26 then uR n.toNat (a.getD 0 0) (T.getD 0 noD) ar s
 else if k=21 then lQ lv n (T.getD 0 noD) (T.getD 1 noD) ar s
 else AA k (T.getD 0 noD) (T.getD 1 noD) (T.getD 2 noD) ar s
def deF (lv:List Int):Fs->List Td
 | ⟨GE⟩=>[]
 | ⟨GF ⟨k,n,nm,_,ks,r⟩⟩=>oH lv k n nm (kdF ks) (deF lv ks)::deF lv r
def deE (lv:List Int)(e:Ex):Td:=oH lv e.k e.n e.nm (kdF e.kids) (deF lv e.kids)
theorem qL (lv:List Int):∀ f:Fs,(deF lv f).length=f.len
 | ⟨GE⟩=>rfl
 | ⟨GF ⟨k,n,nm,a,ks,r⟩⟩=>by simp only[deF,Fs.len,Hc,qL lv r]
structure Dp.sz (m:Nat)(s:Dp):Prop where
 c:s.cs.length<=m
 n:s.ns.length<=m
 h1:-(m:Int)<=s.h
 h2:s.h<=(m:Int)
 t1:-(m:Int)<=s.top
 t2:s.top<=(m:Int)
structure Dle (c:Nat)(s t:Dp):Prop where
 sz:∀ m,s.sz m->t.sz (m+c)
 w1:s.ws.length<=32768->t.ws.length<=32768
 w2:s.ws.length<=t.ws.length
 ks:t.ks.length=s.ks.length
 lg:s.lg=true->t.lg=true
theorem Dp.sz.mono {m g:Nat}{s:Dp}(h:s.sz m)(k:m<=g):s.sz g:=by
 obtain⟨a,b,c,d,e,f⟩:=h;constructor<;>omega
theorem Dle.refl (s:Dp):Dle 0 s s:=⟨λm h=>h,id,GG _,rfl,id⟩
theorem Dle.trans {a b:Nat}{x y z:Dp}(h:Dle a x y)(k:Dle b y z):Dle (a+b) x z:=⟨λm q=>(k.sz _ (h.sz m q)).mono (by omega),λq=>k.w1 (h.w1 q),Hr h.w2 k.w2,k.ks.trans h.ks,λq=>k.lg (h.lg q)⟩
theorem Dle.le {a b:Nat}{x y:Dp}(h:Dle a x y)(k:a<=b):Dle b x y:=⟨λm q=>(h.sz m q).mono (by omega),h.w1,h.w2,h.ks,h.lg⟩
theorem dV (s:Dp)(op a b:Nat):Dle 0 s (s.puts op a b):=by
 unfold Dp.puts;split
 ·exact⟨λm h=>⟨h.c,h.n,h.h1,h.h2,h.t1,h.t2⟩,id,GG _,rfl,λ_=>rfl⟩
 ·exact⟨λm h=>⟨h.c,h.n,h.h1,h.h2,h.t1,h.t2⟩,λ_=>by simp;omega,by simp,rfl,id⟩
theorem eu (s:Dp)(n:Int)(c:Nat)(h1:-(c:Int)<=n)(h2:n<=(c:Int)):Dle c s (s.grows n):=by
 refine⟨λm h=>?_,id,GG _,rfl,λh=>by simp[Dp.grows,h]⟩;obtain⟨a,b,d,e,f,g⟩:=h;constructor<;>simp only[Dp.grows]<;>omega
theorem oO (s:Dp)(n:Int):Dle 1 s (s.kI n):=by
 refine⟨λm h=>?_,id,GG _,rfl,id⟩;obtain⟨a,b,d,e,f,g⟩:=h;constructor<;>simp only[Dp.kI]
 ·split<;>(try simp)<;>omega
 all_goals omega
theorem uj (s:Dp)(n:List UInt8):Dle 1 s (s.kN n):=by
 refine⟨λm h=>?_,id,GG _,rfl,id⟩;obtain⟨a,b,d,e,f,g⟩:=h;constructor<;>simp only[Dp.kN]
 ·omega
 ·split<;>(try simp)<;>omega
 all_goals omega
theorem fd (s:Dp)(n:Int)(kd:Nat):Dle 2 s (s.val n kd):=(((oO s n).trans (dV _ 1 _ kd)).trans (eu _ 1 1 (by omega) (by omega))).le (by omega)
theorem eF (s:Dp)(i:Nat):Dle 0 s (s.lands i):=by
 unfold Dp.lands;split
 ·exact Dle.refl s
 ·exact⟨λm h=>⟨h.c,h.n,h.h1,h.h2,h.t1,h.t2⟩,λh=>by simp;omega,by simp,rfl,id⟩
theorem qY (s:Dp)(i:Nat)(k:Int):Dle 0 s (s.cel i k):=by
 unfold Dp.cel;split
 ·exact⟨λm h=>⟨h.c,h.n,h.h1,h.h2,h.t1,h.t2⟩,id,GG _,by simp,id⟩
 ·exact Dle.refl s
theorem jk (h:Nat):∀ (l:List Int) (i:Nat) (s:Dp),Dle 0 s (jt h l i s)
 | [],_,s=>Dle.refl s
 | x::r,i,s=>by
  unfold jt;split
  ·exact Dle.refl s
  ·split
   ·exact(dV s 19 i 0).trans (jk h r (i+1) _)
   ·exact jk h r (i+1) s
def Tle (c:Nat)(t:Td):Prop:=∀ ar s,Dle c s (t ar s)
theorem Cv (n:Int)(a next:Nat)(e:Dp):Dle 6 e (qM n a next e) :=
 ((((((((dV e _ a 0).trans (eu _ (-1) 1 (by omega) (by omega))).trans (dV _ 25 0 0)).trans (fd _ _ 2)).trans (dV _ 13 0 0)).trans (eu _ (-1) 1 (by omega) (by omega))).trans (eF _ _)).trans (fd _ _ 2)).trans (eF _ _)
theorem li (n:Int)(a:Dp):Dle 4 a (iG n a):=by
 unfold iG
 dsimp only
 split<;>split
 ·exact(fd _ _ _).trans (fd _ _ _)
 ·exact((fd _ _ _)).le (by omega)
 ·exact((fd _ _ _)).le (by omega)
 ·exact(Dle.refl _).le (by omega)
theorem nP (n:Int)(a:Nat)(e:Dp):Dle 4 e (pF n a e):=by
 unfold pF;split
 ·exact((((dV e 14 a 0).trans (eu _ (-1) 1 (by omega) (by omega))).trans (fd _ 1 1)).trans (dV _ 6 0 0)).trans (eu _ (-1) 1 (by omega) (by omega))
 ·split
  ·exact((dV e _ _ 0).trans (eu _ (-1) 1 (by omega) (by omega))).le (by omega)
  ·exact((dV e _ _ 0).trans (eu _ (-1) 1 (by omega) (by omega))).le (by omega)
theorem Dd (n:Int)(a next:Nat)(e:Dp):Dle 5 e (pI n a next e):=by
 unfold pI
 dsimp only
 have h:=((nP n a e).trans (dV _ 13 a 0)).trans (eF _ next);split
 ·exact((h.trans (dV _ 27 0 0)).trans (eu _ (-1) 1 (by omega) (by omega))).le (by omega)
 ·exact h.le (by omega)
theorem DC (lv:List Int)(n:Int){t0 t1:Td}{a b:Nat}(e:Tle a t0)(h1:Tle b t1):Tle (a+b+10) (lQ lv n t0 t1):=λar s=>by
 unfold lQ
 dsimp only
 have d:=(e ar s).trans (li n _);split
 ·exact d.le (by omega)
 ·have c:=((d.trans (dV _ 24 0 0)).trans (jk (ar+1) lv 0 _)).trans (h1 (ar+1) _);split
  ·exact(c.trans (Cv n _ _ _)).le (by omega)
  ·exact(c.trans (Dd n _ _ _)).le (by omega)
theorem CQ (k:Int){t0 t1 t2:Td}{a b c:Nat}(e:Tle a t0)(h1:Tle b t1)(h2:Tle c t2):Tle (a+b+c+4) (AA k t0 t1 t2):=λar s=>by
 unfold AA
 dsimp only
 generalize (if k=18 then 15 else 14)=op;have d:=((((((e ar s).trans (dV _ op 0 0)).trans (eu _ (-1) 1 (by omega) (by omega))).trans (h1 ar _)).trans (dV _ 13 0 0)).trans (eu _ (-1) 1 (by omega) (by omega))).trans (eF _ (t0 ar s).at1);split
 ·exact((d.trans (fd _ _ _)).trans (eF _ _)).le (by omega)
 ·split
  ·exact((d.trans (fd _ _ _)).trans (eF _ _)).le (by omega)
  ·exact((d.trans (h2 ar _)).trans (eF _ _)).le (by omega)
theorem zj (n:Nat)(kd:Int){t0:Td}{a:Nat}(b:Tle a t0):Tle a (uR n kd t0):=λar s=>by
 unfold uR;exact((((qY s n kd).trans (dV _ 17 n 0)).trans (b ar _)).trans ((dV _ 18 n 0).trans (eF _ _))).le (by omega)
def Tls:List Td->Fs->Prop
 | [],⟨GE⟩=>True
 | t::T,⟨GF ⟨_,_,_,_,ks,r⟩⟩=>Tle (17*ks.size+16) t/\Tls T r
 | _,_=>False
theorem pi:∀ (T:List Td) (f:Fs),Tls T f->T.length=f.len/\∃c,c+f.len=17*f.size/\Tle c (λar s=>fO T ar s)
 | [],⟨GE⟩,_=>⟨rfl,0,rfl,λar s=>Dle.refl s⟩
 | t::T,⟨GF ⟨k,n,nm,a,ks,r⟩⟩,h=>by
  obtain⟨b,c,e,d⟩:=pi T r h.2;refine⟨by simp only[Hc,Fs.len,b],17*ks.size+16+c,by simp only[Fs.len,Fs.size];omega,λar s=>?_⟩;exact(h.1 ar s).trans (d ar _)
 | [],⟨GF ⟨k,n,nm,a,ks,r⟩⟩,h=>by simp[Tls] at h
 | t::T,⟨GE⟩,h=>by simp[Tls] at h
theorem BQ:∀ (T:List Td) (f:Fs),Tls T f->∃a b c,Tle a (T.getD 0 noD)/\Tle b (T.getD 1 noD)/\Tle c (T.getD 2 noD)/\a+b+c+min f.len 3<=17*f.size
 | [],⟨GE⟩,_=>⟨0,0,0,λ_ s=>Dle.refl s,λ_ s=>Dle.refl s,λ_ s=>Dle.refl s,by simp[Fs.len]⟩
 | [t],⟨GF ⟨k,n,nm,a,ks,⟨GE⟩⟩⟩,h=>⟨_,0,0,h.1,λ_ s=>Dle.refl s,λ_ s=>Dle.refl s,by simp only[Fs.len,Fs.size];omega⟩
 | [t,u],⟨GF ⟨k,n,nm,a,ks,⟨GF ⟨g,n',d,i,e,⟨GE⟩⟩⟩⟩⟩,h=>⟨_,_,0,h.1,h.2.1,λ_ s=>Dle.refl s,by simp only[Fs.len,Fs.size];omega⟩
 | t::u::v::T,⟨GF ⟨k,n,nm,a,ks,⟨GF ⟨g,n',d,i,e,⟨GF ⟨m,n2,j,a2,l,r⟩⟩⟩⟩⟩⟩,h=>⟨_,_,_,h.1,h.2.1,h.2.2.1,by simp only[Fs.len,Fs.size];omega⟩
 | [],⟨GF ⟨k,n,nm,a,ks,r⟩⟩,h=>by simp[Tls] at h
 | t::T,⟨GE⟩,h=>by simp[Tls] at h
 | [t],⟨GF ⟨k,n,nm,a,ks,⟨GF ⟨g,n',d,i,e,r⟩⟩⟩⟩,h=>by simp[Tls] at h
 | t::u::T,⟨GF ⟨k,n,nm,a,ks,⟨GE⟩⟩⟩,h=>by simp[Tls] at h
 | [t,u],⟨GF ⟨k,n,nm,a,ks,⟨GF ⟨g,n',d,i,e,⟨GF ⟨m,n2,j,a2,l,r⟩⟩⟩⟩⟩⟩,h=>by simp[Tls] at h
 | t::u::v::T,⟨GF ⟨k,n,nm,a,ks,⟨GF ⟨g,n',d,i,e,⟨GE⟩⟩⟩⟩⟩,h=>by simp[Tls] at h
theorem vv (k:Int)(a:List Int)(s:Dp):Dle 0 s (yF k a s):=by
 unfold yF;split
 ·exact dV _ _ _ _
 split
 ·exact(dV _ _ _ _).trans (dV _ _ _ _)
 split
 ·exact dV _ _ _ _
 ·exact dV _ _ _ _
theorem rE (lv:List Int)(k n:Int)(nm:List UInt8)(i:List Int)(T:List Td)(f:Fs)(h:Tls T f):Tle (17*f.size+16) (oH lv k n nm i T):=λar s=>by
 obtain⟨l,c,o,j⟩:=pi T f h;obtain⟨a,b,d,g,g1,g2,m⟩:=BQ T f h;have e:=j ar s
 dsimp only at e
 unfold oH;split
 ·unfold wS
  dsimp only
  split
  ·exact((e.trans (dV _ _ _ _)).trans (eu _ _ T.length (by omega) (by omega))).le (by omega)
  split
  ·exact(((e.trans (uj _ nm)).trans (dV _ _ _ _)).trans (eu _ _ T.length (by omega) (by omega))).le (by omega)
  split
  ·exact((e.trans (dV _ _ _ _)).trans (eu _ _ T.length (by omega) (by omega))).le (by omega)
  ·exact((e.trans (dV _ _ _ _)).trans (eu _ _ T.length (by omega) (by omega))).le (by omega)
 split
 ·exact(Dle.refl s).le (by omega)
 split
 ·exact(fd _ _ _).le (by omega)
 split
 ·exact(fd _ _ _).le (by omega)
 split
 ·exact(((oO s n).trans (dV _ _ _ _)).trans (eu _ 1 1 (by omega) (by omega))).le (by omega)
 split
 ·exact((dV s _ _ _).trans (eu _ 1 1 (by omega) (by omega))).le (by omega)
 split
 ·refine((e.trans (dV _ _ _ _)).trans (eu _ _ 1 ?_ ?_)).le (by omega)<;>split<;>omega
 split
 ·exact((e.trans (vv k i _)).trans (eu _ (-1) 1 (by omega) (by omega))).le (by omega)
 split
 ·exact((e.trans (dV _ _ _ _)).trans (eu _ _ (T.length+1) (by omega) (by omega))).le (by omega)
 split
 ·exact(zj n.toNat _ g ar s).le (by omega)
 split
 ·exact(DC lv n g g1 ar s).le (by omega)
 ·exact(CQ k g g1 g2 ar s).le (by omega)
theorem ma (lv:List Int):∀ (f:Fs),Tls (deF lv f) f
 | ⟨GE⟩=>trivial
 | ⟨GF ⟨k,n,nm,a,ks,r⟩⟩=>⟨rE lv k n nm (kdF ks) (deF lv ks) ks (ma lv ks),ma lv r⟩
theorem fe (lv:List Int)(e:Ex):Tle (17*e.kids.size+16) (deE lv e):=rE lv e.k e.n e.nm (kdF e.kids) (deF lv e.kids) e.kids (ma lv e.kids)
def jX (x:Wo):List GN:=[.int .i64 (x.op:Nat),.int .i64 (x.a:Nat),.int .i64 (x.b:Nat)]
def lS:List Wo->List GN
 | []=>[]
 | x::r=>jX x++lS r
theorem sZ:∀ l m:List Wo,lS (l++m)=lS l++lS m
 | [],m=>rfl
 | x::l,m=>by rw[IU,lS,sZ l m,lS,Jp]
theorem qV:∀ (l:List Wo) (i j:Nat) (x:Wo),l[i]?=GF x->j<3->(lS l)[i*3+j]?=(jX x)[j]?
 | [],i,j,x,h,_=>by simp at h
 | y::l,0,j,x,h,a=>by
  simp at h;subst h;rw[lS,Iy (by simp[jX];omega)]
  congr 1
  omega
 | y::l,i+1,j,x,h,a=>by
  have b:l[i]?=GF x:=by simpa using h
  rw[lS,Ik (by simp[jX];omega),<-qV l i j x b a]
  congr 1
  simp[jX];omega
structure DW (w:GI)(o:Nat->Nat)(rb:Nat)(p0 p1 p2 p3 p4:GN)(s:Dp):Prop where
 wl:s.ws.length<=32768
 mem:∃vc vn vk vw,Blk w o 1 rb (.cells #[p0,p1,p2,p3,p4,vc,vn,vk,vw,.int .i64 s.h,.int .i64 s.top,.bool s.lg] 74) /\
  Row w o 2 80 3 vw s.ws.length (lS s.ws)/\Row w o 3 3 1 vc s.cs.length (eiV s.cs)/\Row w o 4 9 1 vn s.ns.length (esV s.ns)/\Row w o 5 3 1 vk s.ks.length (eiV s.ks)
theorem DW.step {I:Nat->Prop}{w w':GI}{o o':Nat->Nat}{rb:Nat}{p0 p1 p2 p3 p4:GN}{s:Dp}(h:DW w o rb p0 p1 p2 p3 p4 s)(x:dQ I w o w' o')(b:∀ k,I17 k->¬I k):DW w' o' rb p0 p1 p2 p3 p4 s:=by
 obtain⟨a,vc,vn,vk,vw,f,e,q2,d,c⟩:=h;exact⟨a,vc,vn,vk,vw,f.step x (b 1 (by decide)),e.step x (b 2 (by decide)),q2.step x (b 3 (by decide)),d.step x (b 4 (by decide)),c.step x (b 5 (by decide))⟩
theorem fl {w:GI}{b:Nat}{o n m l k i g f e d c a:GN}{t:Hp}(h:w.heap[b]?=GF (.cells #[o,n,m,l,k,i,g,f,e,d,c,a] t (0,0))):(w.cell? ⟨b,4,GE⟩=GF k/\w.cell? ⟨b,5,GE⟩=GF i/\w.cell? ⟨b,6,GE⟩=GF g/\w.cell? ⟨b,7,GE⟩=GF f/\w.cell? ⟨b,8,GE⟩=GF e/\w.cell? ⟨b,9,GE⟩=GF d/\w.cell? ⟨b,10,GE⟩=GF c/\w.cell? ⟨b,11,GE⟩=GF a)/\∀ j,w.frozen? ⟨b,j,GE⟩=false:=by
 refine⟨⟨?_,?_,?_,?_,?_,?_,?_,?_⟩,λj=>Io w b j _ t h⟩<;>(rw[Hj w b _ _ t (0,0) h];rfl)
def fD (w:GI)(o:Nat->Nat)(rb:Nat)(p0 p1 p2 p3 p4:GN)(s:Dp)(v:GN)(e:IL)(w':GI):Prop:=e=.returned v/\∃o',DW w' o' rb p0 p1 p2 p3 p4 s/\dQ I17 w o w' o'
theorem Co:(Tryz.prog.info? 80).map (λi=>(i.zero,i.size,i.bytes))=GF (GF (.agg #[.int .i64 0,.int .i64 0,.int .i64 0]),3,24):=by kernel_rfl
theorem ez (w:GI)(o:Nat->Nat)(rb:Nat)(p0 p1 p2 p3 p4:GN)(s:Dp)(op a b:Nat)(M:DW w o rb p0 p1 p2 p3 p4 s) :
  GV GH 35 #[.pointer (GF ⟨rb,0,GE⟩),.int .i64 op,.int .i64 a,.int .i64 b] w (fD w o rb p0 p1 p2 p3 p4 (s.puts op a b) (.int .i64 (s.at1:Nat))):=by
 obtain⟨wl,vc,vn,vk,vw,h,m,q2,u,t⟩:=M;obtain⟨⟨c4,c5,c6,Z,Y,c9,U,S⟩,A⟩:=fl h.1;obtain⟨aw,cw,rfl⟩:=m.form;by_cases e:32768<=s.ws.length
 ·have r:s.puts op a b={ s with lg:=true }:=by unfold Dp.puts;rw[if_pos e]
  have q:s.at1=0:=by unfold Dp.at1;rw[if_pos e]
  rw[r,q];have x:(32768:Int)<=(s.ws.length:Int):=by omega
  have N:=A 11;have T:dQ (λk=>k=1) w o (w.setCell ⟨rb,11,GE⟩ (.bool true)) o:=(dQ.refl _ w o).setCell ⟨rb,11,GE⟩ _ h.2;have v:Hid (DW (w.setCell ⟨rb,11,GE⟩ (.bool true)) o rb p0 p1 p2 p3 p4 { s with lg:=true }/\dQ I17 w o (w.setCell ⟨rb,11,GE⟩ (.bool true)) o) :=
   ⟨⟨wl,vc,vn,vk,_,h.set 11 (.bool true),m.step T (by decide),q2.step T (by decide),u.step T (by decide),t.step T (by decide)⟩,T.mono (fw (by decide))⟩
  clear h m q2 u t T r q A e;go_enter Tryz.func35,Tryz.ntmps35;go_wp2;go_ret;exact⟨rfl,o,v.out⟩
 ·have r:s.puts op a b={ s with ws:=s.ws++[⟨op,a,b⟩] }:=by unfold Dp.puts;rw[if_neg e]
  have q:s.at1=s.ws.length:=by unfold Dp.at1;rw[if_neg e]
  rw[r,q];have x:¬(32768:Int)<=(s.ws.length:Int):=by omega
  obtain⟨J,K,i2,i3,i4⟩:=ek Co;have B:=GP e;have n:=GP h;have l:=GP q2;have j:=GP u;have i:=GP t;clear h q2 u t r q e;go_enter Tryz.func35,Tryz.ntmps35;go_wp2_with (first|(at_builtin;refine eb rfl _ _ 72 rfl 80 J (.agg #[.int .i64 0,.int .i64 0,.int .i64 0]) 3 24 Tryz.underlying72 K i2 i3 i4 rfl (by decide) o 2 _ s.ws.length (lS s.ws) rfl (m.step (dQ.ofBelow (I:=λ_=>False) o (b1 _ _)) id) ⟨w.heap.size,0,GE⟩ 1 1 [.int .i64 op,.int .i64 a,.int .i64 b] rfl rfl ?hn1 ?hn2 (by decide) ?hn4 ?hn5 ?_)|go_in)
  case hn2=>exact⟨rfl,rfl,rfl⟩
  case hn4=>have:=B.out;unfold G5;omega
  case hn5=>have:=B.out;omega
  intro g2 c w2 f H E;have F:∀ {I:Nat->Prop},dQ I w o (w.alloc (.cells #[.int .i64 op,.int .i64 a,.int .i64 b] 80)) o:=λ{I}=>dQ.ofBelow (I:=I) o (b1 _ _);have d:=(F (I:=λk=>k=2)).trans E;have k0:=n.out.step d (by decide);have T:dQ (λk=>k=1) w2 f (w2.setCell ⟨rb,8,GE⟩ (.slice (GF ⟨g2,0,GE⟩) (s.ws.length+1) c)) f:=(dQ.refl _ w2 f).setCell ⟨rb,8,GE⟩ _ k0.2;have G:=H.step T (by decide);have g:(s.ws++[(⟨op,a,b⟩:Wo)]).length=s.ws.length+1:=by simp
  have v:Hid (DW (w2.setCell ⟨rb,8,GE⟩ (.slice (GF ⟨g2,0,GE⟩) (s.ws.length+1) c)) f rb p0 p1 p2 p3 p4 { s with ws:=s.ws++[⟨op,a,b⟩] }/\dQ I17 w o (w2.setCell ⟨rb,8,GE⟩ (.slice (GF ⟨g2,0,GE⟩) (s.ws.length+1) c)) f):=by
   have e:=B.out;refine⟨⟨by simp only[g];omega,vc,vn,vk,_,k0.set 8 _,?_,(l.out.step d (by decide)).step T (by decide),(j.out.step d (by decide)).step T (by decide),(i.out.step d (by decide)).step T (by decide)⟩,(d.mono (fw (by decide))).trans (T.mono (fw (by decide)))⟩;simp only[g,sZ];exact G
  obtain⟨⟨d4,R,Q,P,X,O,z,y⟩,D⟩:=fl k0.1;have W:=D 8;have L:=v.out.1;have p:=k0.set 8 (.slice (GF ⟨g2,0,GE⟩) (s.ws.length+1) c);obtain⟨⟨-,-,-,-,V,-,-,-⟩,-⟩:=fl p.1;clear n l j i F d E k0 T G H m L p g D A d4 R Q P O z y;go_wp2;go_ret;exact⟨by first|rfl|(simp;done)|(congr 1;simp),f,v.out⟩
theorem eK (w:GI)(o:Nat->Nat)(rb:Nat)(p0 p1 p2 p3 p4:GN)(s:Dp)(n:Int)(m:Nat)(W:s.sz m)(hm:m<=1000000000)(hn:-1000000000<=n/\n<=1000000000)(X:DW w o rb p0 p1 p2 p3 p4 s) :
  GV GH 65 #[.pointer (GF ⟨rb,0,GE⟩),.int .i64 n] w (fD w o rb p0 p1 p2 p3 p4 (s.grows n) (.tuple #[])):=by
 obtain⟨wl,vc,vn,vk,vw,g,v,q2,u,t⟩:=X;obtain⟨-,-,z1,z2,z3,z4⟩:=W;obtain⟨x,z⟩:=exq (s.h+n);obtain⟨T,p⟩:=exq (max s.top x);have H:s.grows n={ s with h:=x,top:=T,lg:=s.lg||decide (1024<T) }:=by rw[p,z];rfl
 rw[H];have d:Hid ((if s.top<x then x else s.top)=T):=by show _=_;rw[p];split<;>omega
 have c:Hid (max s.top x=T):=p.symm;have b:Hid (s.h+n=x):=z.symm;have d1:∀ wx:GI,dQ (λ_=>False) wx o wx.drew o:=λwx=>(dQ.refl _ wx o).drew;have J:dQ (λk=>k=1) w o (w.setCell ⟨rb,9,GE⟩ (.int .i64 x)) o:=(dQ.refl _ w o).setCell _ _ g.2;have a:=(J.setCell ⟨rb,10,GE⟩ (.int .i64 T) g.2).drew;have r:=g.set 9 (.int .i64 x);have l:=(r.set 10 (.int .i64 T)).step (d1 _) id;obtain⟨⟨c4,c5,c6,c7,Z,c9,A,aa⟩,I⟩:=fl g.1;obtain⟨⟨k4,U,S,R,Q,k9,V,y⟩,E⟩:=fl r.1;obtain⟨⟨t4,t5,N,M,L,t9,P,O⟩,C⟩:=fl l.1;have Y:=I 9;have D:=E 10;have B:=C 11;have f:Hid (¬1024<T->DW ((w.setCell ⟨rb,9,GE⟩ (.int .i64 x)).setCell ⟨rb,10,GE⟩ (.int .i64 T)).drew o rb p0 p1 p2 p3 p4 { s with h:=x,top:=T,lg:=s.lg||decide (1024<T) }):=λi=>by
  refine⟨wl,vc,vn,vk,vw,?_,v.step a (by decide),q2.step a (by decide),u.step a (by decide),t.step a (by decide)⟩;simp only[decide_eq_false i,Bool.or_false];exact l
 have j:=a.setCell ⟨rb,11,GE⟩ (.bool true) g.2;have e:Hid (1024<T->DW (((w.setCell ⟨rb,9,GE⟩ (.int .i64 x)).setCell ⟨rb,10,GE⟩ (.int .i64 T)).drew.setCell ⟨rb,11,GE⟩ (.bool true)) o rb p0 p1 p2 p3 p4 { s with h:=x,top:=T,lg:=s.lg||decide (1024<T) }):=λi=>by
  refine⟨wl,vc,vn,vk,vw,?_,v.step j (by decide),q2.step j (by decide),u.step j (by decide),t.step j (by decide)⟩;simp only[decide_eq_true i,Bool.or_true];exact l.set 11 _
 have q:=GP (And.intro (a.mono (fw (by decide))) (j.mono (fw (by decide))));clear p z H J a j r l g v q2 u t d1 I E C k4 U S R Q y t4 t5 N M L t9 c4 c5 c6 c7 Z A;go_enter Tryz.func65,Tryz.ntmps65;go_upto_region 1 with fail;rw[b.out];generalize w.setCell ⟨rb,9,GE⟩ (.int .i64 x)=K at *;go_region
 all_goals
  first|rw[d.out] | rw[c.out]
  generalize (K.setCell ⟨rb,10,GE⟩ (.int .i64 T)).drew=wB at *;by_cases i:1024<T
  ·have F:=e.out i;have G:=q.out.2;clear f e q d c b;go_wp2
   go_end0
   exact⟨rfl,o,F,G⟩
  ·have F:=f.out i;have G:=q.out.1;clear f e q d c b;go_wp2
   go_end0
   exact⟨rfl,o,F,G⟩
theorem k_c (w:GI)(o:Nat->Nat)(rb:Nat)(p0 p1 p2 p3 p4:GN)(s:Dp)(n:Int)(hl:s.cs.length<=100000000)(T:DW w o rb p0 p1 p2 p3 p4 s) :
  GV GH 64 #[.pointer (GF ⟨rb,0,GE⟩),.int .i64 n] w (fD w o rb p0 p1 p2 p3 p4 (s.kI n) (.int .i64 (s.cs.idxOf n:Nat))):=by
 have z:=T;obtain⟨wl,vc,vn,vk,vw,D,Q,q2,P,O⟩:=T;obtain⟨⟨c4,c5,c6,c7,c8,c9,K,J⟩,cf⟩:=fl D.1;obtain⟨ii,i1,i2,i3,i4⟩:=ek rH;obtain⟨ao,cap,rfl⟩:=q2.form;have C:Hid (∀ j,j<s.cs.length->∃g,ao=GF ⟨g,0,GE⟩/\w.cell? ⟨g,j,GE⟩=GF (.int .i64 (s.cs.getD j 0))):=λj hj=>by
  obtain⟨g,W,e,-,-,-,-,hc,-⟩:=q2.pos (by omega);injection e with A U e3
  refine⟨g,A,?_⟩;rw[hc j (by omega)];simp[eiV,hj,Hf]
 have h:=GP Q;have f:=GP P;have d:=GP O;have l:=GP D;have Z:=GP z;clear D Q P O z c4 c6 c7 c8 c9 K J cf;go_enter Tryz.func64,Tryz.ntmps64;go_wp2_with fail;go_loopw [5] (λv wr=>∃i:Nat,v=.int .i64 i/\i<=s.cs.length/\Hid (n ∉ s.cs.take i)/\wr=w) (λv _=>s.cs.length-(Hl v).toNat)
 case atStart=>exact⟨0,by go_num,by omega,by show _ ∉ _;simp,rfl⟩
 case round =>
  obtain⟨i,rfl,hi,r,rfl⟩:=hrel;by_cases c:i<s.cs.length
  ·have F:(i:Int)<(s.cs.length:Int):=by omega
   obtain⟨g,rfl,cg⟩:=C.out i c;have a:s.cs.getD i 0=s.cs[i]:=by simp[Hf,c]
   by_cases x:s.cs.getD i 0=n
   ·have b:n ∈ s.cs:=by rw[<-x,a];exact Ix c
    have u:s.cs.idxOf n=i:=by
     have h1:s.cs=s.cs.take i++s.cs.drop i:=(JF i s.cs).symm;rw[h1,Kb,if_neg r.out,IQ c,<-a,x];simp;omega
    have A:s.kI n=s:=by unfold Dp.kI;rw[if_pos b]
    rw[A,u];rw[x] at cg;clear C l h f d x a b u A q2 r;go_wp2;go_ret;exact⟨rfl,o,Z.out,dQ.refl _ _ _⟩
   ·have M:Hid (n ∉ s.cs.take (i+1)):=by
     show _ ∉ _;rw[IW c];intro q;rcases List.mem_append.1 q with q|q
     ·exact r.out q
     ·simp at q;exact x (by rw[a,q])
    generalize s.cs.getD i 0=y at *;clear C l h f d a q2 r;go_wp2;go_roundw
    case rel=>(try ((repeat apply G9);refine⟨?_,rfl⟩));exact⟨i+1,by go_num,by omega,M,by trivial⟩
    case measure=>simp[Hl];omega
  ·have F:¬(i:Int)<(s.cs.length:Int):=by omega
   obtain rfl:i=s.cs.length:=by omega
   have b:n ∉ s.cs:=by have:=r.out;rwa [JQ] at this
   have L:Hid (s.kI n={ s with cs:=s.cs++[n] }/\s.cs.idxOf n=s.cs.length):=⟨by unfold Dp.kI;rw[if_neg b],mC b⟩;have E:s.cs.length+1<=G5:=by unfold G5;omega
   have hn2:(s.cs.length+1)*8<=140737488355328:=by omega
   have R:=q2.step (dQ.ofBelow (I:=λ_=>False) o (b1 wr (.cells #[.int .i64 n] 3))) id;clear C r b;go_wp2_with (first|(at_builtin;refine eb rfl _ _ 35 rfl 3 ii (.int .i64 0) 1 8 Hy i1 i2 i3 i4 rfl (by decide) o 3 (.slice ao s.cs.length cap) s.cs.length (eiV s.cs) rfl R ⟨wr.heap.size,0,GE⟩ 1 1 [.int .i64 n] rfl rfl (fF _ _ _) (kf _ rfl) (by decide) E hn2 ?_)|go_in);intro g1 B w2 m Y X;have s2:dQ (λk=>k=3) wr o w2 m:=(dQ.ofBelow o (b1 wr _)).trans X;have t:=l.out.step s2 (by decide);obtain⟨⟨d4,d5,d6,d7,d8,d9,H,G⟩,V⟩:=fl t.1;have aa:=V 5;have p:dQ (λk=>k=1) w2 m (w2.setCell ⟨rb,5,GE⟩ (.slice (GF ⟨g1,0,GE⟩) (s.cs.length+1) B)) m:=fj _ w2 m ⟨rb,5,GE⟩ _ t.2;have HF:Hid (DW (w2.setCell ⟨rb,5,GE⟩ (.slice (GF ⟨g1,0,GE⟩) (s.cs.length+1) B)) m rb p0 p1 p2 p3 p4 (s.kI n)/\dQ I17 wr o (w2.setCell ⟨rb,5,GE⟩ (.slice (GF ⟨g1,0,GE⟩) (s.cs.length+1) B)) m):=by
    rw[L.out.1];refine⟨⟨wl,_,vn,vk,vw,t.set 5 _,(h.out.step s2 (by decide)).step p (by decide),?_,(f.out.step s2 (by decide)).step p (by decide),(d.out.step s2 (by decide)).step p (by decide)⟩,(s2.mono (fw (by decide))).trans (p.mono (fw (by decide)))⟩
    have:=Y.step p (by decide)
    have e:(s.cs++[n]).length=s.cs.length+1:=by simp
    have U:eiV (s.cs++[n])=eiV s.cs++[.int .i64 n]:=by simp[eiV]
    simp only[e,U];exact this
   have N:=t.set 5 (.slice (GF ⟨g1,0,GE⟩) (s.cs.length+1) B);obtain⟨⟨-,m5,-,-,-,-,-,-⟩,-⟩:=fl N.1;have HI:Hid (s.cs.idxOf n=s.cs.length):=L.out.2;clear s2 p Y X R t N l h f d q2 L d4 d6 d7 d8 d9 H G V Z;go_wp2;go_ret;exact⟨by rw[HI.out];first|rfl|(simp;done)|(congr 1;simp),m,HF.out⟩
theorem s_c (w:GI)(o:Nat->Nat)(rb:Nat)(p0 p1 p2 p3 p4:GN)(s:Dp)(n:List UInt8)(hk:n.length<=G5)(hl:s.ns.length<=100000000)(U:DW w o rb p0 p1 p2 p3 p4 s) :
  GV GH 178 #[.pointer (GF ⟨rb,0,GE⟩),stv n] w (fD w o rb p0 p1 p2 p3 p4 (s.kN n) (.int .i64 (s.ns.idxOf n:Nat))):=by
 have A:=U;obtain⟨wl,vc,vn,vk,vw,E,Q,q2,q,P⟩:=U;obtain⟨⟨c4,c5,c6,c7,c8,c9,L,K⟩,cf⟩:=fl E.1;obtain⟨ii,i1,i2,i3,i4⟩:=ek tR;obtain⟨ao,cap,rfl⟩:=q.form;have D:Hid (∀ j,j<s.ns.length->∃g,ao=GF ⟨g,0,GE⟩/\w.cell? ⟨g,j,GE⟩=GF (stv (s.ns.getD j []))):=λj hj=>by
  obtain⟨g,X,e,-,-,-,-,hc,-⟩:=q.pos (by omega);injection e with B V e3
  refine⟨g,B,?_⟩;rw[hc j (by omega)];simp[esV,hj,Hf]
 have h:=GP Q;have f:=GP q2;have d:=GP P;have l:=GP E;have HM:=GP A;clear E Q q2 P A c4 c5 c7 c8 c9 L K cf;go_enter Tryz.func178,Tryz.ntmps178;go_wp2_with fail;go_loopw [5] (λv wr=>∃i:Nat,v=.int .i64 i/\i<=s.ns.length/\Hid (n ∉ s.ns.take i)/\wr=w) (λv _=>s.ns.length-(Hl v).toNat)
 case atStart=>exact⟨0,by go_num,by omega,by show _ ∉ _;simp,rfl⟩
 case round =>
  obtain⟨i,rfl,hi,u,rfl⟩:=hrel;by_cases c:i<s.ns.length
  ·have G:(i:Int)<(s.ns.length:Int):=by omega
   obtain⟨g,rfl,cg⟩:=D.out i c;have a:s.ns.getD i []=s.ns[i]:=by simp[Hf,c]
   by_cases t:s.ns.getD i []=n
   ·have b:n ∈ s.ns:=by rw[<-t,a];exact Ix c
    have z:s.ns.idxOf n=i:=by
     have h1:s.ns=s.ns.take i++s.ns.drop i:=(JF i s.ns).symm;rw[h1,Kb,if_neg u.out,IQ c,<-a,t];simp;omega
    have B:s.kN n=s:=by unfold Dp.kN;rw[if_pos b]
    rw[B,z];rw[t] at cg;clear D l h f d t a b z B q u;go_wp2;go_ret;exact⟨rfl,o,HM.out,dQ.refl _ _ _⟩
   ·have N:Hid (n ∉ s.ns.take (i+1)):=by
     show _ ∉ _;rw[IW c];intro r;rcases List.mem_append.1 r with r|r
     ·exact u.out r
     ·simp at r;exact t (by rw[a,r])
    generalize s.ns.getD i []=y at *;have S:(y==n)=false:=by simpa using t
    clear D l h f d a q u;go_wp2;go_roundw
    case rel=>(try ((repeat apply G9);refine⟨?_,rfl⟩));exact⟨i+1,by go_num,by omega,N,by trivial⟩
    case measure=>simp[Hl];omega
  ·have G:¬(i:Int)<(s.ns.length:Int):=by omega
   obtain rfl:i=s.ns.length:=by omega
   have b:n ∉ s.ns:=by have:=u.out;rwa [JQ] at this
   have M:Hid (s.kN n={ s with ns:=s.ns++[n] }/\s.ns.idxOf n=s.ns.length):=⟨by unfold Dp.kN;rw[if_neg b],mC b⟩;have F:s.ns.length+1<=G5:=by unfold G5;omega
   have hn2:(s.ns.length+1)*16<=140737488355328:=by omega
   have R:=q.step (dQ.ofBelow (I:=λ_=>False) o (b1 wr (.cells #[stv n] 9))) id;clear D u b;go_wp2_with (first|(at_builtin;refine eb rfl _ _ 40 rfl 9 ii (.string ⟨#[]⟩) 1 16 I7 i1 i2 i3 i4 rfl (by decide) o 4 (.slice ao s.ns.length cap) s.ns.length (esV s.ns) rfl R ⟨wr.heap.size,0,GE⟩ 1 1 [stv n] rfl rfl (fF _ _ _) (kf _ rfl) (by decide) F hn2 ?_)|go_in);intro g1 C w2 m Z Y;have s2:dQ (λk=>k=4) wr o w2 m:=(dQ.ofBelow o (b1 wr _)).trans Y;have x:=l.out.step s2 (by decide);obtain⟨⟨d4,d5,d6,d7,d8,d9,J,H⟩,W⟩:=fl x.1;have aa:=W 6;have p:dQ (λk=>k=1) w2 m (w2.setCell ⟨rb,6,GE⟩ (.slice (GF ⟨g1,0,GE⟩) (s.ns.length+1) C)) m:=fj _ w2 m ⟨rb,6,GE⟩ _ x.2;have HF:Hid (DW (w2.setCell ⟨rb,6,GE⟩ (.slice (GF ⟨g1,0,GE⟩) (s.ns.length+1) C)) m rb p0 p1 p2 p3 p4 (s.kN n)/\dQ I17 wr o (w2.setCell ⟨rb,6,GE⟩ (.slice (GF ⟨g1,0,GE⟩) (s.ns.length+1) C)) m):=by
    rw[M.out.1];refine⟨⟨wl,vc,_,vk,vw,x.set 6 _,(h.out.step s2 (by decide)).step p (by decide),(f.out.step s2 (by decide)).step p (by decide),?_,(d.out.step s2 (by decide)).step p (by decide)⟩,(s2.mono (fw (by decide))).trans (p.mono (fw (by decide)))⟩
    have:=Z.step p (by decide)
    have e:(s.ns++[n]).length=s.ns.length+1:=by simp
    have V:esV (s.ns++[n])=esV s.ns++[stv n]:=by simp[esV]
    simp only[e,V];exact this
   have O:=x.set 6 (.slice (GF ⟨g1,0,GE⟩) (s.ns.length+1) C);obtain⟨⟨-,-,m6,-,-,-,-,-⟩,-⟩:=fl O.1;have HI:Hid (s.ns.idxOf n=s.ns.length):=M.out.2;have T:((s.ns.length+1:Nat):Int)-1=(s.ns.length:Int):=by omega
   clear s2 p Z Y R x O l h f d q M d4 d5 d7 d8 d9 J H W HM;go_wp2;go_ret;exact⟨by rw[HI.out];first|rfl|(simp;done)|(congr 1;simp),m,HF.out⟩
theorem gK (w:GI)(o:Nat->Nat)(rb:Nat)(p0 p1 p2 p3 p4:GN)(s:Dp)(n:Int)(kd m:Nat)(b:s.sz m)(v:m+2<=100000000)(d:DW w o rb p0 p1 p2 p3 p4 s) :
  GV GH 63 #[.pointer (GF ⟨rb,0,GE⟩),.int .i64 n,.int .i64 kd] w (fD w o rb p0 p1 p2 p3 p4 (s.val n kd) (.tuple #[])):=by
 have q:=k_c w o rb p0 p1 p2 p3 p4 s n (by have:=b.c;omega) d;have a:=(dV (s.kI n) 1 (s.cs.idxOf n) kd).sz _ ((oO s n).sz m b);clear d;go_enter Tryz.func63,Tryz.ntmps63;go_wp2_with (first|(go_at_call 64;refine q.mono ?_;rintro e w2 ⟨rfl,h,u,k⟩;have p:=ez w2 h rb p0 p1 p2 p3 p4 (s.kI n) 1 (s.cs.idxOf n) kd u)|(go_at_call 35;refine p.mono ?_;rintro e w3 ⟨rfl,g,t,j⟩;have l:=eK w3 g rb p0 p1 p2 p3 p4 _ 1 _ a (by omega) (by omega) t)|(go_at_call 65;refine l.mono ?_;rintro e w4 ⟨rfl,f,r,i⟩))
 go_end0
 exact⟨rfl,f,r,(k.trans j).trans i⟩
theorem sr:∀ {l:List Wo}{i j:Nat}{x:Wo}{u:GN} (d:i<l.length),(j=1\/j=2)->(jX l[i]).set j u=jX x->(lS l).set (i*3+j) u=lS (l.set i x)
 | y::l,0,j,x,u,_,c,h=>by
  have b:(jX y).set j u=jX x:=h;simp only[lS,Hg,IF,Ib];rw[List.set_append_left _ _ (by simp[jX];omega),b]
 | y::l,i+1,j,x,u,d,c,h=>by
  have a:i<l.length:=by simpa using d
  have b:(jX l[i]).set j u=jX x:=h;simp only[lS,Hh];rw[List.set_append_right _ _ (by simp[jX];omega),<-sr a c b]
  congr 2
  simp[jX];omega
theorem fW (w:GI)(o:Nat->Nat)(rb:Nat)(p0 p1 p2 p3 p4:GN)(s:Dp)(i:Nat)(u:s.lg=false->i<s.ws.length)(E:DW w o rb p0 p1 p2 p3 p4 s) :
  GV GH 114 #[.pointer (GF ⟨rb,0,GE⟩),.int .i64 i] w (fD w o rb p0 p1 p2 p3 p4 (s.lands i) (.tuple #[])):=by
 have c:=E;obtain⟨wl,vc,vn,vk,vw,h,f,q2,t,r⟩:=E;obtain⟨⟨c4,c5,I,H,X,c9,p,n⟩,G⟩:=fl h.1;by_cases b:s.lg=true
 ·have e:s.lands i=s:=by unfold Dp.lands;rw[if_pos b]
  rw[e];rw[b] at n;have Q:=GP c;clear h f q2 t r c e u;go_enter Tryz.func114,Tryz.ntmps114;go_wp2
  go_end0
  exact⟨rfl,o,Q.out,dQ.refl _ _ _⟩
 ·have m:s.lg=false:=by simpa using b
  have d:=u m;have e:s.lands i={ s with ws:=s.ws.set i ((s.ws[i]).to s.ws.length) }:=by unfold Dp.lands;rw[if_neg b,qu d]
  rw[e];rw[m] at n;obtain⟨g,cap,rfl,K,-,-,N,B,v⟩:=f.pos (by omega);have a:∀ j,j<3->w.cell? ⟨g,i*3+j,GE⟩=(jX s.ws[i])[j]?:=λj A=>by
   rw[B (i*3+j) (by omega),qV s.ws i j s.ws[i] (GM d) A]
  have W:=v (i*3+1);have V:=v (i*3+2);have d1:∀ wx:GI,dQ (λ_=>False) wx o wx.drew o:=λwx=>(dQ.refl _ wx o).drew;have q:Hid (∀ j,j=1\/j=2->(jX s.ws[i]).set j (.int .i64 (s.ws.length:Nat))=jX ((s.ws[i]).to s.ws.length)->DW (w.setCell ⟨g,i*3+j,GE⟩ (.int .i64 (s.ws.length:Nat))).drew o rb p0 p1 p2 p3 p4 { s with ws:=s.ws.set i ((s.ws[i]).to s.ws.length) }/\dQ I17 w o (w.setCell ⟨g,i*3+j,GE⟩ (.int .i64 (s.ws.length:Nat))).drew o):=λj A O=>by
   have T:dQ (λk=>k=2) w o (w.setCell ⟨g,i*3+j,GE⟩ (.int .i64 (s.ws.length:Nat))).drew o:=((dQ.refl _ w o).setCell _ _ K).drew;refine⟨⟨by simp;exact wl,vc,vn,vk,_,h.step T (by decide),?_,q2.step T (by decide),t.step T (by decide),r.step T (by decide)⟩,T.mono (fw (by decide))⟩;have J:=(f.store (i*3+j) (.int .i64 (s.ws.length:Nat))).step (d1 _) id;have P:(s.ws.set i ((s.ws[i]).to s.ws.length)).length=s.ws.length:=by simp
   simp only[P];rw[<-sr d A O];exact J
  have M:(i:Int)<(s.ws.length:Int):=by omega
  obtain⟨⟨op,C,y⟩,z⟩:∃x,x=s.ws[i]:=⟨_,rfl⟩;rw[<-z] at a q ⊢;have U:w.cell? ⟨g,i*3,GE⟩=GF (.int .i64 op):=a 0 (by omega);have S:w.cell? ⟨g,i*3+1,GE⟩=GF (.int .i64 C):=a 1 (by omega);have R:w.cell? ⟨g,i*3+2,GE⟩=GF (.int .i64 y):=a 2 (by omega);by_cases D:op=17
  ·subst D;have F:=GP (q.out 2 (.inr rfl) rfl);clear q h f q2 t r c e u B v a d1 z c5 I H c9 p G;go_enter Tryz.func114,Tryz.ntmps114;go_upto_region 2 with fail;go_region
   all_goals
    go_end0
    exact⟨rfl,o,F.out⟩
  ·have L:((op:Int)==17)=false:=by simp;omega
   have l:(⟨op,C,y⟩:Wo).to s.ws.length=⟨op,s.ws.length,y⟩:=by unfold Wo.to;rw[if_neg D]
   have F:=GP (q.out 1 (.inl rfl) (by rw[l];rfl));clear q h f q2 t r c e u B v a d1 z c5 I H c9 p G l;go_enter Tryz.func114,Tryz.ntmps114;go_upto_region 3 with fail;go_region
   all_goals
    go_end0
    exact⟨rfl,o,F.out⟩
structure Rl (K:Nat->Int)(u:Nat)(s:Em)(d:Dp):Prop where
 ok:okQ s
 ul:u<=s.dp
 ws:d.ws=s.ws
 cs:d.cs=s.cs
 ns:d.ns=s.ns
 kl:d.ks.length=s.ks.length
 ks:∀ i,i<s.ks.length->(d.ks.getD i 0=0/\s.ks.getD i 0=1)\/(d.ks.getD i 0=K i/\s.ks.getD i 0=K i)
 h:d.h=(u:Int)
 top:d.top=(s.dp:Int)
 lg:d.lg=false
def Ry (K:Nat->Int)(u:Nat)(s:Em)(d:Dp):Prop:=(okQ s->Rl K u s d)/\(¬okQ s->d.lg=true)
theorem Ry.step {K:Nat->Int}{u v:Nat}{s t:Em}{d e:Dp}(h:Ry K u s d)(q:Qle s t)(k:d.lg=true->e.lg=true)(r:Rl K u s d->Ry K v t e):Ry K v t e:=by
 by_cases o:okQ s
 ·exact r (h.1 o)
 ·exact⟨λo'=>absurd (q.ok o') o,λ_=>k (h.2 o)⟩
theorem Ry.of {K:Nat->Int}{u:Nat}{s:Em}{d:Dp}(h:Rl K u s d):Ry K u s d:=⟨λ_=>h,λn=>absurd h.ok n⟩
theorem eU {K:Nat->Int}{u:Nat}{s:Em}{d:Dp}(op a c b:Nat)(h:Ry K u s d)(f:okQ s->c=a):Ry K u (s.lay op a b) (d.puts op c b):=by
 refine h.step (es s op a b) (dV d op c b).lg (λr=>?_);rw[f r.ok];unfold Dp.puts;rw[r.ws];by_cases e:32768<=s.ws.length
 ·rw[if_pos e];exact⟨λo=>by have:=o.1;simp[Em.lay] at this;omega,λ_=>rfl⟩
 ·rw[if_neg e];refine Ry.of ⟨⟨by simp[Em.lay];omega,r.ok.2⟩,r.ul,?_,r.cs,r.ns,r.kl,r.ks,r.h,r.top,r.lg⟩;simp[Em.lay]
def Em.up (s:Em)(u:Nat):Em:=⟨s.ws,s.cs,s.ns,s.ks,max s.dp (u+1)⟩
theorem CF (s:Em)(op a b u:Nat):s.push op a b u=(s.lay op a b).up u:=rfl
theorem Fi (s:Em)(u:Nat):Qle s (s.up u):=⟨GG _,by simp only[Em.up];omega⟩
theorem F6 {K:Nat->Int}{u:Nat}{s:Em}{d:Dp}(h:Ry K u s d):Ry K (u+1) (s.up u) (d.grows 1):=by
 refine h.step (Fi s u) (eu d 1 1 (by omega) (by omega)).lg (λr=>?_);have a:max d.top (d.h+1)=((max s.dp (u+1):Nat):Int):=by rw[r.top,r.h];omega
 by_cases b:max s.dp (u+1)<=1024
 ·refine Ry.of ⟨⟨r.ok.1,b⟩,by simp only[Em.up];omega,r.ws,r.cs,r.ns,r.kl,r.ks,?_,?_,?_⟩
  ·simp only[Dp.grows];rw[r.h];omega
  ·simp only[Dp.grows];exact a
  ·simp only[Dp.grows,r.lg,a];simp;omega
 ·refine⟨λo=>absurd o.2 b,λ_=>?_⟩;simp only[Dp.grows,a];simp;right;omega
theorem fk {K:Nat->Int}{u:Nat}{s:Em}{d:Dp}(v:Nat)(x:Int)(h:Ry K u s d)(c:v<=u)(b:x=(v:Int)-(u:Int)):Ry K v s (d.grows x):=by
 refine h.step (Qle.refl s) (λh=>by simp[Dp.grows,h]) (λr=>?_);have e:=r.ul;have f:=r.ok.2;have a:max d.top (d.h+x)=(s.dp:Int):=by rw[r.top,r.h];omega
 refine Ry.of ⟨r.ok,by omega,r.ws,r.cs,r.ns,r.kl,r.ks,?_,?_,?_⟩
 ·simp only[Dp.grows];rw[r.h];omega
 ·simp only[Dp.grows];exact a
 ·simp only[Dp.grows,r.lg,a];simp;omega
theorem rI {K:Nat->Int}{u:Nat}{s:Em}{d:Dp}(op a c b:Nat)(h:Ry K u s d)(e:okQ s->c=a):Ry K (u+1) (s.push op a b u) ((d.puts op c b).grows 1):=by
 rw[CF];exact F6 (eU op a c b h e)
theorem DT {K:Nat->Int}{u:Nat}{s:Em}{d:Dp}(n:Int)(h:Ry K u s d):Ry K u (s.kc n) (d.kI n):=by
 refine h.step (tO s n) (oO d n).lg (λr=>?_);exact Ry.of ⟨r.ok,r.ul,r.ws,by simp only[Em.kc,Dp.kI,r.cs],r.ns,r.kl,r.ks,r.h,r.top,r.lg⟩
theorem FW {K:Nat->Int}{u:Nat}{s:Em}{d:Dp}(n:List UInt8)(h:Ry K u s d):Ry K u (s.kn n) (d.kN n):=by
 refine h.step (AM s n) (uj d n).lg (λr=>?_);exact Ry.of ⟨r.ok,r.ul,r.ws,r.cs,by simp only[Em.kn,Dp.kN,r.ns],r.kl,r.ks,r.h,r.top,r.lg⟩
theorem jp {K:Nat->Int}{u:Nat}{s:Em}{d:Dp}(n:Int)(kd:Nat)(h:Ry K u s d):Ry K (u+1) (s.con n kd u) (d.val n kd) :=
 rI 1 _ _ kd (DT n h) (λo=>by rw[(h.1 o).cs])
theorem kO {K:Nat->Int}{u:Nat}{s:Em}{d:Dp}(i a:Nat)(h:Ry K u s d)(b:okQ s->a=i):Ry K u (s.land i) (d.lands a):=by
 refine h.step (iD s i) (eF d a).lg (λr=>?_);rw[b r.ok];unfold Dp.lands;rw[if_neg (by rw[r.lg];decide),r.ws];exact Ry.of ⟨⟨by simp[Em.land];exact r.ok.1,r.ok.2⟩,r.ul,rfl,r.cs,r.ns,r.kl,r.ks,r.h,r.top,r.lg⟩
theorem pv {l:List Int}{i j:Nat}{k x:Int}:(l.set i k).getD j x=if i=j/\i<l.length then k else l.getD j x:=by
 rw[Hf,Hf,List.getElem?_set];by_cases e:i=j
 ·subst e;by_cases a:i<l.length
  ·rw[if_pos rfl,if_pos a,if_pos ⟨rfl,a⟩];rfl
  ·rw[if_pos rfl,if_neg a,if_neg (λh=>a h.2),Hi (by omega)]
 ·rw[if_neg e,if_neg (λh=>e h.1)]
theorem Ef {K:Nat->Int}{u:Nat}{s:Em}{d:Dp}(i:Nat)(k:Int)(h:Ry K u s d)(f:k=K i):Ry K u (s.cel i k) (d.cel i k):=by
 refine h.step (vq s i k) (qY d i k).lg (λr=>?_);subst f;have c:=r.kl;unfold Dp.cel;by_cases b:d.ks.getD i 0=0
 ·rw[if_pos b];refine Ry.of ⟨r.ok,r.ul,r.ws,r.cs,r.ns,by simp[Em.cel];exact r.kl,λj a=>?_,r.h,r.top,r.lg⟩;simp only[Em.cel,List.length_set] at a ⊢;rw[pv,pv];by_cases e:i=j
  ·subst e;rw[if_pos ⟨rfl,by omega⟩,if_pos ⟨rfl,by omega⟩];exact .inr ⟨rfl,rfl⟩
  ·rw[if_neg (λh=>e h.1),if_neg (λh=>e h.1)];exact r.ks j a
 ·rw[if_neg b];refine Ry.of ⟨r.ok,r.ul,r.ws,r.cs,r.ns,by simp[Em.cel];exact r.kl,λj a=>?_,r.h,r.top,r.lg⟩;simp only[Em.cel,List.length_set] at a ⊢;rw[pv];by_cases e:i=j
  ·subst e;rw[if_pos ⟨rfl,a⟩];rcases r.ks i a with h1|h1
   ·exact absurd h1.1 b
   ·exact .inr ⟨h1.1,rfl⟩
  ·rw[if_neg (λh=>e h.1)];exact r.ks j a
theorem ng {K:Nat->Int}{u:Nat}{s t:Em}{d:Dp}(h:Ry K u s d)(q:Qle s t)(a:s.ws.length+1<=t.ws.length)(o:okQ t):d.at1=s.ws.length:=by
 have r:=h.1 (q.ok o);unfold Dp.at1;rw[r.ws,if_neg (by have:=o.1;omega)]
theorem Aa {K:Nat->Int}{u:Nat}{s t:Em}{d:Dp}(h:Ry K u s d)(q:Qle s t)(o:okQ t):d.ws.length=s.ws.length:=by
 rw[(h.1 (q.ok o)).ws]
structure Rp (K:Nat->Int)(b:Nat)(t:Tr)(d:Td):Prop where
 q:Qtr t
 k:∀ ar s,s.lg=true->(d ar s).lg=true
 r:∀ ar u s e,Ry K u s e->Ry K (u+b) (t ar u s) (d ar e)
def Rps (K:Nat->Int):List Tr->List Td->Int->Nat->Prop
 | [],[],_,_=>True
 | t::T,d::D,pk,i=>Rp K (if pk=21/\i=0 then 0 else 1) t d/\Rps K T D pk (i+1)
 | _,_,_,_=>False
theorem yI {K:Nat->Int}(ar u pk:Int)(a:pk≠21):∀ (T:List Tr) (D:List Td) (i j ar u:Nat) (s:Em) (e:Dp),Rps K T D pk i->Ry K (u+j) s e->Ry K (u+j+T.length) (nI T j ar u s) (fO D ar e)
 | [],[],_,_,_,_,_,_,_,h=>h
 | t::T,d::D,i,j,ar,u,s,e,b,h=>by
  have h1:=b.1.r ar (u+j) s e h;rw[if_neg (λh=>a h.1)] at h1;have h2:=yI 0 0 pk a T D (i+1) (j+1) ar u _ _ b.2 h1;simp only[Hc,nI,fO];rw[show u+j+(T.length+1)=u+(j+1)+T.length by omega];exact h2
 | [],d::D,_,_,_,_,_,_,h,_=>by simp[Rps] at h
 | t::T,[],_,_,_,_,_,_,h,_=>by simp[Rps] at h
theorem nJ {K:Nat->Int}{pk:Int}:∀ (T:List Tr) (D:List Td) (i j:Nat),Rps K T D pk i->j<T.length->Rp K (if pk=21/\i+j=0 then 0 else 1) (T.getD j noT) (D.getD j noD)
 | t::T,d::D,i,0,h,_=>h.1
 | t::T,d::D,i,j+1,h,a=>by
  have:=nJ T D (i+1) j h.2 (by simpa using a)
  rw[show i+1+j=i+(j+1) by omega] at this;simpa using this
 | [],_,_,_,_,h=>by simp at h
 | t::T,[],_,_,h,_=>by simp[Rps] at h
theorem vI {K:Nat->Int}{pk:Int}:∀ (T:List Tr) (D:List Td) (i:Nat),Rps K T D pk i->D.length=T.length
 | [],[],_,_=>rfl
 | t::T,d::D,i,h=>by simp only[Hc,vI T D (i+1) h.2]
 | [],d::D,_,h=>by simp[Rps] at h
 | t::T,[],_,h=>by simp[Rps] at h
theorem rn {K:Nat->Int}{u:Nat}(h:Nat):∀ (l:List Int) (i:Nat) (s:Em) (e:Dp),Ry K u s e->Ry K u (iH h l i s) (jt h l i e)
 | [],_,_,_,r=>r
 | x::l,i,s,e,r=>by
  unfold iH jt;refine r.step ?_ ?_ (λq=>?_)
  ·split
   ·exact(es s 19 i 0).trans (hS h l (i+1) _)
   ·exact hS h l (i+1) s
  ·intro b;rw[if_pos b];exact b
  ·by_cases a:x=(h:Int)
   ·rw[if_pos a,if_neg (by rw[q.lg];decide),if_pos a];exact rn h l (i+1) _ _ (eU 19 i i 0 r (λ_=>rfl))
   ·rw[if_neg a,if_neg (by rw[q.lg];decide),if_neg a];exact rn h l (i+1) _ _ r
theorem lh (s:Em)(op a b:Nat):(s.lay op a b).ws.length=s.ws.length+1:=by simp[Em.lay]
theorem Cc (s:Em)(n:Int)(kd u:Nat):(s.con n kd u).ws.length=s.ws.length+1:=by simp[Em.con,Em.push,Em.kc]
theorem EZ {K:Nat->Int}(k:Int){t0 t1 t2:Tr}{n d1 d2:Td}(y:Rp K 1 t0 n)(h1:Rp K 1 t1 d1)(h2:k≠17->k≠18->Rp K 1 t2 d2)(ar u:Nat)(s:Em)(e:Dp)(h:Ry K u s e) :
  Ry K (u+1) ((t0 ar u s).fork (if k=18 then 15 else 14) (t1 ar u) (λx=>if k=17 then x.con 0 2 u else if k=18 then x.con 1 2 u else t2 ar u x)) (AA k n d1 d2 ar e):=by
 unfold Em.fork AA
 dsimp only
 generalize w:(if k=18 then 15 else 14)=op;have i:=y.r ar u s e h;generalize t0 ar u s=A at i ⊢;generalize n ar e=a at i ⊢;have rb:=fk u (-1) (eU op 0 0 0 i (λ_=>rfl)) (by omega) (by omega);have g:=h1.r ar u _ _ rb;have j:=h1.q ar u (A.lay op 0 0);generalize t1 ar u (A.lay op 0 0)=C at g j ⊢;generalize d1 ar ((a.puts op 0 0).grows (-1))=c at g ⊢;have t:=fk u (-1) (eU 13 0 0 0 g (λ_=>rfl)) (by omega) (by omega);have z:=lh A op 0 0;have v:=j.ws;have f:=kO A.ws.length a.at1 t (λo=>ng i (((es A op 0 0).trans j).trans (es C 13 0 0)) (by rw[lh];omega) o);have p:Qle C ((C.lay 13 0 0).land A.ws.length):=(es C 13 0 0).trans (iD _ _);have le:C.ws.length+1<=((C.lay 13 0 0).land A.ws.length).ws.length:=by simp[Em.land,Em.lay]
 generalize (C.lay 13 0 0).land A.ws.length=E at f p le ⊢;generalize ((c.puts 13 0 0).grows (-1)).lands a.at1=m at f ⊢;have l:Ry K (u+1) (if k=17 then E.con 0 2 u else if k=18 then E.con 1 2 u else t2 ar u E) (if k=17 then m.val 0 2 else if k=18 then m.val 1 2 else d2 ar m)/\Qle E (if k=17 then E.con 0 2 u else if k=18 then E.con 1 2 u else t2 ar u E):=by
  by_cases d:k=17
  ·rw[if_pos d,if_pos d];exact⟨jp 0 2 f,fE _ _ _ _⟩
  ·rw[if_neg d,if_neg d];by_cases b:k=18
   ·rw[if_pos b,if_pos b];exact⟨jp 1 2 f,fE _ _ _ _⟩
   ·rw[if_neg b,if_neg b];exact⟨(h2 d b).r ar u _ _ f,(h2 d b).q ar u E⟩
 exact kO _ _ l.1 (λo=>ng g (p.trans l.2) (Hr le l.2.ws) o)
theorem Cy {K:Nat->Int}(n:Nat)(kd:Int)(a:kd=K n){t0:Tr}{f:Td}(d:Rp K 1 t0 f)(ar u:Nat)(s:Em)(e:Dp)(h:Ry K u s e) :
  Ry K (u+1) (((t0 ar u ((s.cel n kd).lay 17 n 0)).lay 18 n 0).land s.ws.length) (uR n kd f ar e):=by
 unfold uR;have b:=Ef n kd h a;have g:=eU 17 n n 0 b (λ_=>rfl);have rb:=d.r ar u _ _ g;have c:=d.q ar u ((s.cel n kd).lay 17 n 0);have k:=lh (s.cel n kd) 17 n 0;have j:=c.ws;refine kO _ _ (eU 18 n n 0 rb (λ_=>rfl)) (λo=>?_);show _=(s.cel n kd).ws.length;exact ng b (((es _ _ _ _).trans c).trans (es _ _ _ _)) (by rw[lh];omega) o
theorem EY {K:Nat->Int}(n:Int)(p:n=1\/n=2)(g i a b:Nat)(u:Nat)(X:Em)(e:Dp)(h:Ry K (u+1) X e)(f:okQ X->a=g/\b=i) :
  Ry K (u+1) (((((((X.lay (if n=2 then 14 else 15) g 0).lay 25 0 0).con (if n=2 then 1 else 0) 2 u).lay 13 0 0).land i).con (if n=2 then 0 else 1) 2 u).land ((((X.lay (if n=2 then 14 else 15) g 0).lay 25 0 0).con (if n=2 then 1 else 0) 2 u).ws.length)) (qM n a b e):=by
 unfold qM
 dsimp only
 generalize (if n=2 then 14 else 15)=op;generalize (if n=2 then (1:Int) else 0)=x;generalize (if n=2 then (0:Int) else 1)=y;have m:=fk u (-1) (eU op g a 0 h (λo=>(f o).1)) (by omega) (by omega);have rb:=jp x 2 (eU 25 0 0 0 m (λ_=>rfl));have d:Qle X (((X.lay op g 0).lay 25 0 0).con x 2 u):=((es _ _ _ _).trans (es _ _ _ _)).trans (fE _ _ _ _);generalize ((X.lay op g 0).lay 25 0 0).con x 2 u=C at rb d ⊢;generalize (((e.puts op a 0).grows (-1)).puts 25 0 0).val x 2=c at rb ⊢;have l:=fk u (-1) (eU 13 0 0 0 rb (λ_=>rfl)) (by omega) (by omega);have k:=kO i b l (λo=>(f ((d.trans (es C 13 0 0)).ok o)).2);have j:=jp y 2 k;refine kO _ _ j (λo=>ng rb (((es C 13 0 0).trans (iD _ _)).trans (fE _ _ _ _)) ?_ o);rw[Cc];simp[Em.land,Em.lay]
theorem Fu {K:Nat->Int}(n:Int)(j:3<=n)(g c u v:Nat)(X:Em)(e:Dp)(h:Ry K (v+1) X e)(d:v=if 5<=n then u+2 else u+1)(i:okQ X->c=g) :
  Ry K v (if n=3 then ((X.lay 14 g 0).con 1 1 (u+1)).lay 6 0 0 else if n=4 then X.lay 6 0 0 else X.lay 26 (n-5).toNat 0) (pF n c e):=by
 unfold pF;by_cases b:n=3
 ·rw[if_pos b,if_pos b];rw[if_neg (by omega)] at d;subst d;have f:=fk (u+1) (-1) (eU 14 g c 0 h i) (by omega) (by omega);exact fk (u+1) (-1) (eU 6 0 0 0 (jp 1 1 f) (λ_=>rfl)) (by omega) (by omega)
 ·rw[if_neg b,if_neg b];by_cases a:n=4
  ·rw[if_pos a,if_pos a];exact fk v (-1) (eU 6 0 0 0 h (λ_=>rfl)) (by omega) (by omega)
  ·rw[if_neg a,if_neg a];exact fk v (-1) (eU 26 _ _ 0 h (λ_=>rfl)) (by omega) (by omega)
theorem wm (n:Int)(g u:Nat)(X:Em):Qle X (if n=3 then ((X.lay 14 g 0).con 1 1 (u+1)).lay 6 0 0 else if n=4 then X.lay 6 0 0 else X.lay 26 (n-5).toNat 0):=by
 split
 ·exact((es _ _ _ _).trans (fE _ _ _ _)).trans (es _ _ _ _)
 split
 ·exact es _ _ _ _
 ·exact es _ _ _ _
theorem EV {K:Nat->Int}(n:Int)(l:3<=n)(g i b f u v:Nat)(X:Em)(e:Dp)(h:Ry K (v+1) X e)(a:v=if 5<=n then u+2 else u+1)(j:okQ X->b=g/\f=i) :
  Ry K (u+1) (if 5<=n then (((if n=3 then ((X.lay 14 g 0).con 1 1 (u+1)).lay 6 0 0 else if n=4 then X.lay 6 0 0 else X.lay 26 (n-5).toNat 0).lay 13 g 0).land i).lay 27 0 0
   else ((if n=3 then ((X.lay 14 g 0).con 1 1 (u+1)).lay 6 0 0 else if n=4 then X.lay 6 0 0 else X.lay 26 (n-5).toNat 0).lay 13 g 0).land i) (pI n b f e):=by
 unfold pI
 dsimp only
 have c:=Fu n l g b u v X e h a (λo=>(j o).1);have d:=wm n g u X;generalize (if n=3 then ((X.lay 14 g 0).con 1 1 (u+1)).lay 6 0 0 else if n=4 then X.lay 6 0 0 else X.lay 26 (n-5).toNat 0)=M at c d ⊢;generalize pF n b e=m at c ⊢;have k:=kO i f (eU 13 g b 0 c (λo=>(j (d.ok o)).1)) (λo=>(j ((d.trans (es M 13 g 0)).ok o)).2);by_cases h5:5<=n
 ·rw[if_pos h5] at a;rw[if_pos h5,if_pos h5];subst a;exact fk (u+1) (-1) (eU 27 0 0 0 k (λ_=>rfl)) (by omega) (by omega)
 ·rw[if_neg h5] at a;rw[if_neg h5,if_neg h5];subst a;exact k
theorem Ft {K:Nat->Int}(n:Int)(u:Nat)(s:Em)(e:Dp)(h:Ry K u s e) :
  Ry K (if 5<=n then u+2 else if 3<=n then u+1 else u) (if 5<=n then (s.con 0 1 u).con 0 2 (u+1) else if 3<=n then s.con 0 1 u else s) (iG n e):=by
 unfold iG
 dsimp only
 by_cases h5:5<=n
 ·rw[if_pos h5,if_pos h5,if_pos h5,if_pos (by omega)];exact jp 0 2 (jp 0 1 h)
 ·rw[if_neg h5,if_neg h5,if_neg h5];by_cases a:3<=n
  ·rw[if_pos a,if_pos a,if_pos a];exact jp 0 1 h
  ·rw[if_neg a,if_neg a,if_neg a];exact h
theorem D5 {K:Nat->Int}(lv:List Int)(n:Int)(H:1<=n/\n<=6){t0 t1:Tr}{z d1:Td}(G:Rp K 0 t0 z)(h1:Rp K 1 t1 d1)(ar u:Nat)(s:Em)(e:Dp)(h:Ry K u s e) :
  Ry K (u+1) (qua lv n t0 t1 ar u s) (lQ lv n z d1 ar e):=by
 have E:∀ X:Em,Qle X (qua lv n (λ_ _ s=>s) t1 ar u X):=λX=>vA lv n (a:=λ_ _ s=>s) (λ_ _=>Qgr.id) h1.q ar u X;have F:qua lv n t0 t1 ar u s=qua lv n (λ_ _ s=>s) t1 ar u (t0 ar u s):=rfl;rw[F];unfold lQ
 dsimp only
 have g:=G.r ar u s e h;rw[Hw] at g;generalize t0 ar u s=A at g ⊢;generalize z ar e=a at g ⊢;have rb:=Ft n u A a g;have j:=E A;unfold qua xV pK bdy Em.fork at j ⊢
 dsimp only at j ⊢
 by_cases hn2:n=1\/n=2
 ·rw[if_neg (show ¬5<=n by omega),if_neg (show ¬3<=n by omega),if_neg (show ¬5<=n by omega),if_neg (show ¬3<=n by omega)] at rb;have k:Ry K (u+1) (((((((t1 (ar+1) u (iH (ar+1) lv 0 (A.lay 24 0 0))).lay (if n=2 then 14 else 15) A.ws.length 0).lay 25 0 0).con (if n=2 then 1 else 0) 2 u).lay 13 0 0).land A.ws.length).con (if n=2 then 0 else 1) 2 u |>.land ((((t1 (ar+1) u (iH (ar+1) lv 0 (A.lay 24 0 0))).lay (if n=2 then 14 else 15) A.ws.length 0).lay 25 0 0).con (if n=2 then 1 else 0) 2 u).ws.length)
    (if (iG n a).lg then iG n a else if n=1\/n=2 then qM n (iG n a).ws.length (iG n a).at1 (d1 (ar+1) (jt (ar+1) lv 0 ((iG n a).puts 24 0 0))) else pI n (iG n a).ws.length (iG n a).at1 (d1 (ar+1) (jt (ar+1) lv 0 ((iG n a).puts 24 0 0)))):=by
   refine rb.step ?_ (λf=>by rw[if_pos f];exact f) (λq=>?_)
   ·rcases hn2 with b|b<;>subst b<;>simpa using j
   ·rw[if_neg (show ¬(iG n a).lg=true by rw[q.lg];decide),if_pos hn2];have m:=rn (ar+1) lv 0 _ _ (eU 24 0 0 0 rb (λ_=>rfl));have d:=(es A 24 0 0).trans (hS (ar+1) lv 0 (A.lay 24 0 0));have lc:A.ws.length+1<=(iH (ar+1) lv 0 (A.lay 24 0 0)).ws.length:=by
     have:=(hS (ar+1) lv 0 (A.lay 24 0 0)).ws
     rw[lh] at this;exact this
    have l:=h1.r (ar+1) u _ _ m;have c:=h1.q (ar+1) u (iH (ar+1) lv 0 (A.lay 24 0 0));exact EY n hn2 _ _ _ _ u _ _ l (λo=>⟨Aa rb (d.trans c) o,ng rb (d.trans c) (Hr lc c.ws) o⟩)
  rcases hn2 with b|b
  ·subst b;simpa using k
  ·subst b;simpa using k
 ·have D:3<=n:=by omega
  have y:¬n=1:=by omega
  have x:¬n=2:=by omega
  simp only[y,x,if_false] at j ⊢;obtain⟨v,i⟩:∃v,v=if 5<=n then u+2 else u+1:=⟨_,rfl⟩;obtain⟨B,w⟩:∃B,B=(if 5<=n then (A.con 0 1 u).con 0 2 (u+1) else if 3<=n then A.con 0 1 u else A):=⟨_,rfl⟩;have p:(if 5<=n then u+2 else if 3<=n then u+1 else u)=v:=by rw[i,if_pos D]
  rw[p,<-w] at rb;have k:Ry K (u+1) (if 5<=n then (((if n=3 then (((t1 (ar+1) v (iH (ar+1) lv 0 (B.lay 24 0 0))).lay 14 B.ws.length 0).con 1 1 (u+1)).lay 6 0 0 else if n=4 then (t1 (ar+1) v (iH (ar+1) lv 0 (B.lay 24 0 0))).lay 6 0 0 else (t1 (ar+1) v (iH (ar+1) lv 0 (B.lay 24 0 0))).lay 26 (n-5).toNat 0).lay 13 B.ws.length 0).land B.ws.length).lay 27 0 0
    else ((if n=3 then (((t1 (ar+1) v (iH (ar+1) lv 0 (B.lay 24 0 0))).lay 14 B.ws.length 0).con 1 1 (u+1)).lay 6 0 0 else if n=4 then (t1 (ar+1) v (iH (ar+1) lv 0 (B.lay 24 0 0))).lay 6 0 0 else (t1 (ar+1) v (iH (ar+1) lv 0 (B.lay 24 0 0))).lay 26 (n-5).toNat 0).lay 13 B.ws.length 0).land B.ws.length)
    (if (iG n a).lg then iG n a else pI n (iG n a).ws.length (iG n a).at1 (d1 (ar+1) (jt (ar+1) lv 0 ((iG n a).puts 24 0 0)))):=by
   have d:=(es B 24 0 0).trans (hS (ar+1) lv 0 (B.lay 24 0 0));have c:=h1.q (ar+1) v (iH (ar+1) lv 0 (B.lay 24 0 0));refine rb.step ?_ (λf=>by rw[if_pos f];exact f) (λq=>?_)
   ·have C:=((((d.trans c).trans (wm n B.ws.length u _)).trans (es _ 13 B.ws.length 0)).trans (iD _ B.ws.length));split
    ·exact C.trans (es _ _ _ _)
    ·exact C
   ·rw[if_neg (show ¬(iG n a).lg=true by rw[q.lg];decide)];have m:=rn (ar+1) lv 0 _ _ (eU 24 0 0 0 rb (λ_=>rfl));have lc:B.ws.length+1<=(iH (ar+1) lv 0 (B.lay 24 0 0)).ws.length:=by
     have:=(hS (ar+1) lv 0 (B.lay 24 0 0)).ws
     rw[lh] at this;exact this
    have l:=h1.r (ar+1) v _ _ m;exact EV n D _ _ _ _ u v _ _ l i (λo=>⟨Aa rb (d.trans c) o,ng rb (d.trans c) (Hr lc c.ws) o⟩)
  have t:n=3\/n=4\/n=5\/n=6:=by omega
  rcases t with b|b|b|b<;>subst b<;>simp at i w<;>subst i<;>subst w<;>simpa using k
def skF (K:Nat->Int):Fs->Int->Nat->Prop
 | ⟨GE⟩,_,_=>True
 | ⟨GF ⟨k,n,nm,a,ks,r⟩⟩,pk,i=>((22<=k/\k<=25) ↔ (pk=21/\i=0))/\(k=26->(kdF ks).getD 0 0=K n.toNat)/\skF K ks k 0/\skF K r pk (i+1)
def skE (K:Nat->Int)(e:Ex):Prop:=¬(22<=e.k/\e.k<=25)/\(e.k=26->(kdF e.kids).getD 0 0=K e.n.toNat)/\skF K e.kids e.k 0
theorem oV:∀ f:Fs,(kdF f).length=f.len
 | ⟨GE⟩=>rfl
 | ⟨GF ⟨k,n,nm,a,ks,r⟩⟩=>by simp only[kdF,Fs.len,Hc,oV r]
theorem qK (lv:List Int):∀ f:Fs,(emF lv f).length=f.len
 | ⟨GE⟩=>rfl
 | ⟨GF ⟨k,n,nm,a,ks,r⟩⟩=>by simp only[emF,Fs.len,Hc,qK lv r]
theorem oS {k n:Int}{nm:List UInt8}{len:Nat}(h:eg k n nm len=true):(k=6\/k=7\/k=24->len=1)/\(8<=k->k<=18->len=2)/\(k=19->len=3)/\(k=20->1<=len/\len<=2)/\(k=21->len=2/\1<=n/\n<=6)/\(k=22\/k=23->len=0)/\(k=26->len=1)/\(k=1\/k=2\/k=3\/(5<=k/\k<=26)):=by
 unfold eg at h;refine⟨λe=>?_,λc b=>?_,λe=>?_,λe=>?_,λe=>?_,λe=>?_,λe=>?_,?_⟩
 ·rcases e with rfl|rfl|rfl<;>simp at h<;>omega
 ·rw[if_neg (by omega),if_neg (by omega),if_neg (by omega),if_neg (by omega),if_pos (by omega)] at h;simp at h;omega
 ·subst e;simp at h;omega
 ·subst e;simp at h;omega
 ·subst e;simp at h;omega
 ·rcases e with rfl|rfl<;>simp at h<;>omega
 ·subst e;simp at h;omega
 ·apply Ji;intro a
  repeat rw[if_neg (by omega)] at h
  cases h
theorem Aw (K:Nat->Int)(lv:List Int)(nc:Nat)(k n:Int)(nm:List UInt8)(t:List Int)(T:List Tr)(D:List Td)(len b:Nat)(hN:eg k n nm len=true)(z:Rps K T D k 0)(hl:T.length=len)(Z:t.length=len)(hb:b=if 22<=k/\k<=25 then 0 else 1)(hc:k=26->t.getD 0 0=K n.toNat)(S:Qtr (prt lv k n nm t T))(x:∀ ar s,s.lg=true->(oH lv k n nm t D ar s).lg=true) :
  Rp K b (prt lv k n nm t T) (oH lv k n nm t D):=by
 refine⟨S,x,λar u s e h=>h.step (S ar u s) (x ar e) (λr=>?_)⟩;subst hb;have aa:=vI T D 0 z;obtain⟨Y,F,N,X,W,R,V,l8⟩:=oS hN;have d:k≠21->Ry K (u+T.length) (nI T 0 ar u s) (fO D ar e):=λx=>by
  have:=yI 0 0 k x T D 0 0 ar u s e z h
  rw[Hw] at this;exact this
 have f:∀ j,j<T.length->k≠21->Rp K 1 (T.getD j noT) (D.getD j noD):=λj hj x=>by
  have:=nJ T D 0 j z hj
  rw[if_neg (λh=>x h.1)] at this;exact this
 have O:¬(e.lg=true):=by rw[r.lg];decide
 by_cases G:22<=k/\k<=25
 ·unfold prt oH;rw[if_pos G,if_pos G,if_neg (by omega),if_neg (by omega),if_neg (by omega),if_neg (by omega),if_neg (by omega),if_neg (by omega),if_neg (by omega),if_neg (by omega),if_neg (by omega),Hw];have c:=d (by omega);generalize nI T 0 ar u s=A at c ⊢;unfold wS opr
  dsimp only
  generalize fO D ar e=a at c ⊢;rw[if_neg (by omega),if_neg (by omega),if_neg (by omega),if_neg (by omega),if_neg (by omega)];by_cases C:k=22
  ·subst C;have h0:=R (.inl rfl);rw[if_neg (by omega),if_neg (by omega),if_pos rfl];exact fk u _ (eU 20 0 0 0 c (λ_=>rfl)) (by omega) (by omega)
  ·by_cases w:k=23
   ·subst w;have h0:=R (.inr rfl);rw[if_pos rfl,if_neg (by omega),if_pos rfl];exact fk u _ (eU 21 _ _ 0 (FW nm c) (λo=>by rw[(c.1 o).ns])) (by omega) (by omega)
   ·rw[if_neg w,if_neg C,if_neg w];by_cases Q:k=24
    ·subst Q;rw[if_neg (by omega),if_pos rfl];exact fk u _ (eU 22 0 0 0 c (λ_=>rfl)) (by omega) (by omega)
    ·have P:k=25:=by omega
     subst P;rw[if_pos rfl,if_neg (by omega)];exact fk u _ (eU 23 t.length D.length 0 c (λ_=>by omega)) (by omega) (by omega)
 ·unfold prt oH;rw[if_neg G,if_neg G,if_neg O];by_cases M:k=1
  ·rw[if_pos M,if_pos M];exact jp n 1 h
  rw[if_neg M,if_neg M];by_cases L:k=2
  ·rw[if_pos L,if_pos L];exact jp n 2 h
  rw[if_neg L,if_neg L];by_cases J:k=3
  ·rw[if_pos J,if_pos J];exact rI 2 _ _ 0 (DT n h) (λo=>by rw[(h.1 o).cs])
  rw[if_neg J,if_neg J];by_cases I:k=5
  ·rw[if_pos I,if_pos I];exact rI 3 _ _ 0 h (λ_=>rfl)
  rw[if_neg I,if_neg I];by_cases U:6<=k/\k<=12
  ·rw[if_neg (by omega),if_neg (by omega),if_neg (by omega),if_neg (by omega),if_neg (by omega),if_pos U];have c:=d (by omega);unfold opr;rw[if_neg (by omega),if_neg (by omega),if_neg (by omega),if_neg (by omega),if_neg (by omega),if_neg (by omega),if_neg (by omega)];by_cases B:k=6\/k=7
   ·have:=Y (by omega)
    rw[if_pos B];exact fk (u+1) _ (eU (jy k) 0 0 0 c (λ_=>rfl)) (by omega) (by omega)
   ·have:=F (by omega) (by omega)
    rw[if_neg B];exact fk (u+1) _ (eU (jy k) 0 0 0 c (λ_=>rfl)) (by omega) (by omega)
  rw[if_neg U];by_cases E:13<=k/\k<=16
  ·rw[if_neg (by omega),if_neg (by omega),if_neg (by omega),if_neg (by omega),if_neg (by omega),if_pos E];have c:=d (by omega)
   have:=F (by omega) (by omega)
   unfold opr yF;by_cases p:k=13
   ·rw[if_pos p,if_pos p];exact fk (u+1) _ (eU 11 0 0 _ c (λ_=>rfl)) (by omega) (by omega)
   rw[if_neg p,if_neg p];by_cases m:k=14
   ·rw[if_pos m,if_pos m];exact fk (u+1) _ (eU 5 0 0 0 (eU 11 0 0 _ c (λ_=>rfl)) (λ_=>rfl)) (by omega) (by omega)
   rw[if_neg m,if_neg m];by_cases l:k=15
   ·rw[if_pos l,if_pos l];exact fk (u+1) _ (eU 12 0 0 0 c (λ_=>rfl)) (by omega) (by omega)
   rw[if_neg l,if_neg l,if_pos (by omega)];exact fk (u+1) _ (eU 12 0 0 1 c (λ_=>rfl)) (by omega) (by omega)
  rw[if_neg E];by_cases q:k=20
  ·rw[if_neg (by omega),if_neg (by omega),if_neg (by omega),if_neg (by omega),if_neg (by omega),if_pos q];have c:=d (by omega)
   have:=X q
   unfold opr;rw[if_neg (by omega),if_neg (by omega),if_neg (by omega),if_neg (by omega),if_pos q];exact fk (u+1) _ (eU 16 _ _ 0 c (λ_=>rfl)) (by omega) (by omega)
  rw[if_neg q];by_cases g:k=26
  ·rw[if_neg (by omega),if_neg (by omega),if_neg (by omega),if_pos g,if_pos g]
   have:=V g
   exact Cy n.toNat _ (hc g) (f 0 (by omega) (by omega)) ar u s e h
  rw[if_neg g];by_cases i:k=21
  ·rw[if_neg (by omega),if_neg (by omega),if_neg (by omega),if_neg g,if_pos i,if_pos i];have h5:=W i;have H:=nJ T D 0 0 z (by omega);have g1:=nJ T D 0 1 z (by omega);rw[if_pos ⟨i,rfl⟩] at H;rw[if_neg (by omega)] at g1;exact D5 lv n h5.2 H g1 ar u s e h
  rw[if_neg i];have v:k=17\/k=18\/k=19:=by omega
  have H:=f 0 (by rcases v with e|e|e<;>first|(have:=F (by omega) (by omega);omega)|(have:=N e;omega)) (by omega);have g1:=f 1 (by rcases v with e|e|e<;>first|(have:=F (by omega) (by omega);omega)|(have:=N e;omega)) (by omega);have y:=EZ k H g1 (λh1 h2=>f 2 (by have:=N (by omega);omega) (by omega)) ar u s e h;rcases v with e|e|e<;>subst e<;>simpa using y
theorem Bo (K:Nat->Int)(lv:List Int)(nc:Nat):∀ (f:Fs) (pk:Int) (i:Nat),skF K f pk i->okF nc f->Rps K (emF lv f) (deF lv f) pk i
 | ⟨GE⟩,_,_,_,_=>trivial
 | ⟨GF ⟨k,n,nm,a,ks,r⟩⟩,pk,i,h,c=>by
  obtain⟨h1,h2,e,d⟩:=h;refine⟨?_,Bo K lv nc r pk (i+1) d c.2.2⟩;refine Aw K lv nc k n nm (kdF ks) (emF lv ks) (deF lv ks) ks.len _ c.1.1 (Bo K lv nc ks k 0 e c.2.1) (qK lv ks) (oV ks) ?_ h2 (rj lv k n nm (kdF ks) (nT lv ks)) (λar s=>(rE lv k n nm (kdF ks) (deF lv ks) ks (ma lv ks) ar s).lg);by_cases b:22<=k/\k<=25
  ·rw[if_pos b,if_pos (h1.1 b)]
  ·rw[if_neg b,if_neg (λh=>b (h1.2 h))]
theorem rp_E (K:Nat->Int)(lv:List Int)(nc:Nat)(e:Ex)(h:skE K e)(a:okE nc e):Rp K 1 (emE lv e) (deE lv e) :=
 Aw K lv nc e.k e.n e.nm (kdF e.kids) (emF lv e.kids) (deF lv e.kids) e.kids.len 1 a.1.1 (Bo K lv nc e.kids e.k 0 h.2.2 a.2) (qK lv e.kids) (oV e.kids) (by rw[if_neg h.1]) h.2.1 (rj lv e.k e.n e.nm (kdF e.kids) (nT lv e.kids)) (λar s=>(fe lv e ar s).lg)
def de0 (lv:List Int):Dp:=⟨[],[],[],Ho lv.length 0,0,0,false⟩
def deA (lv:List Int)(e:Ex):Dp:=(deE lv e 0 (de0 lv)).puts 0 0 0
theorem ry_A (K:Nat->Int)(lv:List Int)(nc:Nat)(e:Ex)(h:skE K e)(b:okE nc e):Ry K 1 (emA lv e) (deA lv e):=by
 have c:Ry K 0 (em0 lv) (de0 lv):=by
  refine Ry.of ⟨⟨by simp[em0],by simp[em0]⟩,Jm _,rfl,rfl,rfl,by simp[de0,em0],λi a=>?_,rfl,rfl,rfl⟩;simp only[em0,List.length_replicate] at a
  left
  simp only[de0,em0];simp[a,Hf,Ia]
 exact eU 0 0 0 0 ((rp_E K lv nc e h b).r 0 0 _ _ c) (λ_=>rfl)
theorem kU {K:Nat->Int}{x:Ex}{r:Fs}{pk:Int}(b:pk≠21)(h:skF K (Fs.ex x r) pk 0):skE K x:=⟨λa=>b (h.1.1 a).1,h.2.1,h.2.2.1⟩
theorem nS {K:Nat->Int}{x y:Ex}{r:Fs}{pk:Int}(b:pk≠21)(h:skF K (Fs.ex x (Fs.ex y r)) pk 0):skE K y:=⟨λa=>b (h.2.2.2.1.1 a).1,h.2.2.2.2.1,h.2.2.2.2.2.1⟩
theorem xy (n:Int)(h:1<=n/\n<=10):jQ n=ss n:=by
 have a:n=1\/n=2\/n=3\/n=4\/n=5\/n=6\/n=7\/n=8\/n=9\/n=10:=by omega
 rcases a with rfl|rfl|rfl|rfl|rfl|rfl|rfl|rfl|rfl|rfl<;>rfl
theorem uN (n:Int)(h:1<=n/\n<=6):fq n=tw n:=by
 have a:n=1\/n=2\/n=3\/n=4\/n=5\/n=6:=by omega
 rcases a with rfl|rfl|rfl|rfl|rfl|rfl<;>rfl
theorem vQ (K:Nat->Int)(nc N:Nat):∀ (e:Ex) (ao:Option Ha) (cap:Nat) (w:GI),e.kids.size<N->okE nc e->skE K e->SnA w e.kids ao ->
  GV GH 113 #[exN e ao cap] w λr w'=>r=.returned (.int .i64 (kdE e))/\GO w.heap.size w w':=by
 induction N with
 | zero=>intro e ao cap w q;omega
 | succ N H =>
  intro e ao cap w q R I S;obtain⟨k,n,nm,a,ks⟩:=e;obtain⟨⟨A,-,-⟩,u⟩:=R;obtain⟨f,-,d⟩:=I;simp only at q A u S f d;rw[dS];simp only;have i:=kX A;by_cases G:k=19
  ·subst G;have j:=i.1 rfl;rw[j];obtain⟨x,y,z,m⟩:=kV j;have C:=S;rw[m] at C u q d;obtain⟨w1,c⟩:=exq (w.alloc (zNv 19 n nm ao 3 cap));obtain⟨g,h⟩:=exq w.heap.size;have l:GO w.heap.size w w1:=by rw[c];exact b1 _ _
   have o:w1.heap[g]?=GF (zNv 19 n nm ao 3 cap):=by rw[c,h];exact GL _ _
   obtain⟨⟨c0,c1,c2,c3⟩,-⟩:=dW o;have v:=GP h;have t:=GP l;obtain⟨b,off,ak,ck,rfl,Q,P,O,M,J⟩:=DL (C.below l);have p:kdE ⟨19,n,nm,a,ks⟩=kdE y:=by simp only[kdE,m,lz];simp[kdN]
   rw[p];have s:=H y ak ck w1 (by simp only[eC] at q;omega) (en (en u).2).1 (nS (by omega) d) J;rw[dS] at s;clear l S C m u q h o p i A f d;go_enter Tryz.func113,Tryz.ntmps113;go_upto_region 1 with fail;rw[<-c,<-v.out];clear c;go_wp2_with fail;refine s.mono ?_;rintro r w2 ⟨rfl,L⟩;go_wp2;go_ret;exact⟨rfl,t.out.trans (L.mono t.out.size)⟩
  by_cases D:k=26
  ·subst D;have j:=i.2.1 rfl;rw[j];obtain⟨x,m⟩:=mI j;have C:=S;rw[m] at C u q d;obtain⟨w1,c⟩:=exq (w.alloc (zNv 26 n nm ao 1 cap));obtain⟨g,h⟩:=exq w.heap.size;have l:GO w.heap.size w w1:=by rw[c];exact b1 _ _
   have o:w1.heap[g]?=GF (zNv 26 n nm ao 1 cap):=by rw[c,h];exact GL _ _
   obtain⟨⟨c0,c1,c2,c3⟩,-⟩:=dW o;have v:=GP h;have t:=GP l;obtain⟨b,off,ak,ck,rfl,Q,P,O,M,J⟩:=we (C.below l);have p:kdE ⟨26,n,nm,a,ks⟩=kdE x:=by simp only[kdE,m,lz];simp[kdN]
   rw[p];have s:=H x ak ck w1 (by simp only[eC] at q;omega) (en u).1 (kU (by omega) d) J;rw[dS] at s;clear l S C m u q h o p i A f d;go_enter Tryz.func113,Tryz.ntmps113;go_upto_region 1 with fail;rw[<-c,<-v.out];clear c;go_wp2_with fail;refine s.mono ?_;rintro r w2 ⟨rfl,L⟩;go_wp2;go_ret;exact⟨rfl,t.out.trans (L.mono t.out.size)⟩
  by_cases F:k=20
  ·subst F;have p:kdE ⟨20,n,nm,a,ks⟩=ss n:=by simp[kdE,kdN]
   rw[p];obtain⟨w1,c⟩:=exq (w.alloc (zNv 20 n nm ao ks.len cap));obtain⟨g,h⟩:=exq w.heap.size;have l:GO w.heap.size w w1:=by rw[c];exact b1 _ _
   have o:w1.heap[g]?=GF (zNv 20 n nm ao ks.len cap):=by rw[c,h];exact GL _ _
   obtain⟨⟨c0,c1,c2,c3⟩,-⟩:=dW o;have v:=GP h;have t:=GP l;have s:=rC n w1;rw[xy n (i.2.2.2.2.1 rfl)] at s;clear l S u q h o p i A f d;go_enter Tryz.func113,Tryz.ntmps113;go_upto_region 1 with fail;rw[<-c,<-v.out];clear c;go_wp2_with fail;refine s.mono ?_;rintro r w2 ⟨rfl,B⟩;subst B;go_wp2;go_ret;exact⟨rfl,t.out⟩
  by_cases E:k=21
  ·subst E;have p:kdE ⟨21,n,nm,a,ks⟩=tw n:=by simp[kdE,kdN]
   rw[p];obtain⟨w1,c⟩:=exq (w.alloc (zNv 21 n nm ao ks.len cap));obtain⟨g,h⟩:=exq w.heap.size;have l:GO w.heap.size w w1:=by rw[c];exact b1 _ _
   have o:w1.heap[g]?=GF (zNv 21 n nm ao ks.len cap):=by rw[c,h];exact GL _ _
   obtain⟨⟨c0,c1,c2,c3⟩,-⟩:=dW o;have v:=GP h;have t:=GP l;have s:=qQ n w1;rw[uN n (i.2.2.2.1 rfl).2] at s;clear l S u q h o p i A f d;go_enter Tryz.func113,Tryz.ntmps113;go_upto_region 1 with fail;rw[<-c,<-v.out];clear c;go_wp2_with fail;refine s.mono ?_;rintro r w2 ⟨rfl,B⟩;subst B;go_wp2;go_ret;exact⟨rfl,t.out⟩
  have T:k=1\/k=2\/k=3\/k=5\/k=6\/k=7\/k=8\/k=9\/k=10\/k=11\/k=12\/k=13\/k=14\/k=15\/k=16\/k=17\/k=18:=by
   have:=gU A
   omega
  obtain⟨w1,c⟩:=exq (w.alloc (zNv k n nm ao ks.len cap));obtain⟨g,h⟩:=exq w.heap.size;have l:GO w.heap.size w w1:=by rw[c];exact b1 _ _
  have o:w1.heap[g]?=GF (zNv k n nm ao ks.len cap):=by rw[c,h];exact GL _ _
  obtain⟨⟨c0,c1,c2,c3⟩,-⟩:=dW o;have v:=GP h;have t:=GP l;clear l S u q h o A i H G D F E f d;rcases T with rfl|rfl|rfl|rfl|rfl|rfl|rfl|rfl|rfl|rfl|rfl|rfl|rfl|rfl|rfl|rfl|rfl 
  all_goals
   go_enter Tryz.func113,Tryz.ntmps113;go_upto_region 1 with fail;rw[<-c,<-v.out];clear c;go_wp2;go_ret;exact⟨rfl,t.out⟩
def DX (w:GI)(o:Nat->Nat)(p4:GN)(lv:List Int):Prop :=
 ∃ao cap,p4=.slice ao lv.length cap/\(lv=[]\/∃b off,ao=GF ⟨b,off,GE⟩/\o b=0/\b<w.heap.size/\∀ j x,lv[j]?=GF x->w.cell? ⟨b,off+j,GE⟩=GF (.int .i64 x))
theorem DX.step {I:Nat->Prop}{w w':GI}{o o':Nat->Nat}{p4:GN}{lv:List Int}(h:DX w o p4 lv)(x:dQ I w o w' o')(g:¬I 0):DX w' o' p4 lv:=by
 obtain⟨ao,cap,i,c⟩:=h;refine⟨ao,cap,i,?_⟩;rcases c with c|⟨b,off,k,e,d,e4⟩
 ·exact .inl c
 ·exact .inr ⟨b,off,k,(x.lab b d).trans e,GQ d x.size,λj y f=>(GW (a:=⟨b,off+j,GE⟩) (x.block b d (by rw[e];exact g))).trans (e4 j y f)⟩
def iz (K:Nat->Int)(nc N:Nat):Prop:=∀ (e:Ex) (ao:Option Ha) (cap ar:Nat) (w:GI) (o:Nat->Nat) (rb:Nat) (p0 p1 p2 p3 p4:GN) (lv:List Int) (s:Dp) (m:Nat),
 e.kids.size<N->okE nc e->skE K e->lv.length=nc->nc<=256->ar+e.kids.size<=1000000->e.kids.size<=100000->SnO w o e.kids ao->s.ks.length=nc->s.sz m->m+(17*e.kids.size+16)<=100000000->DX w o p4 lv->DW w o rb p0 p1 p2 p3 p4 s ->
 GV GH 34 #[pt0 rb,exN e ao cap,.int .i64 ar] w (fD w o rb p0 p1 p2 p3 p4 (deE lv e ar s) (.tuple #[]))
theorem gp {w:GI}{o:Nat->Nat}{rb:Nat}{p0 p1 p2 p3 p4:GN}{s:Dp}{lv:List Int}{ks:Fs}{ao:Option Ha}(c:Array GN)(h:DW w o rb p0 p1 p2 p3 p4 s)(X:DX w o p4 lv)(S:SnO w o ks ao) :
  ∃w1 a g,w1=w.alloc (.cells c 34)/\Hid (g=w.heap.size)/\Blk w1 a 0 g (.cells c 34)/\DW w1 a rb p0 p1 p2 p3 p4 s/\DX w1 a p4 lv/\SnO w1 a ks ao/\dQ I17 w o w1 a :=
 have s0:∀ {I:Nat->Prop},dQ I w o (w.alloc (.cells c 34)) (dR w o 0):=λ{I}=>gS o (b1 _ _)
 ⟨_,dR w o 0,w.heap.size,rfl,rfl,⟨GL _ _,dY (GG _)⟩,h.step (s0 (I:=λ_=>False)) noF,X.step (s0 (I:=λ_=>False)) id,S.stepO (s0 (I:=λ_=>False)) id,s0⟩
theorem gm {w1:GI}{e:Nat->Nat}{g:Nat}{d c b a:GN}(h:Blk w1 e 0 g (.cells #[d,c,b,a] 34)):Hid (∀ w' o',dQ I17 w1 e w' o'->w'.cell? ⟨g,0,GE⟩=GF d/\w'.cell? ⟨g,1,GE⟩=GF c/\w'.cell? ⟨g,2,GE⟩=GF b/\w'.cell? ⟨g,3,GE⟩=GF a) :=
 λw' o' S=>(dW (h.step S dZ).1).1
theorem DW.cl {w:GI}{o:Nat->Nat}{rb:Nat}{p0 p1 p2 p3 p4:GN}{s:Dp}(h:DW w o rb p0 p1 p2 p3 p4 s):w.cell? ⟨rb,11,GE⟩=GF (.bool s.lg)/\w.cell? ⟨rb,4,GE⟩=GF p4:=by
 obtain⟨wl,vc,vn,vk,vw,b,-⟩:=h;obtain⟨⟨c4,c5,g,f,e,c9,c,a⟩,d⟩:=fl b.1;exact⟨a,c4⟩
theorem Ar {lv:List Int}{e:Ex}{ar:Nat}{s:Dp}(h:¬(22<=e.k/\e.k<=25))(a:s.lg=true):deE lv e ar s=s:=by
 unfold deE oH;rw[if_neg h,if_pos a]
theorem tp {K:Nat->Int}{pk:Int}{lv:List Int}{ar:Nat}{s:Dp}(b:pk≠21)(c:s.lg=true):∀ (f:Fs) (i:Nat),skF K f pk i->fO (deF lv f) ar s=s
 | ⟨GE⟩,i,h=>rfl
 | ⟨GF ⟨k,n,nm,a,ks,r⟩⟩,i,h=>by
  have e:deF lv ⟨GF ⟨k,n,nm,a,ks,r⟩⟩=deE lv ⟨k,n,nm,a,ks⟩::deF lv r:=rfl;rw[e,fO,Ar (λd=>b (h.1.1 d).1) c,tp b c r (i+1) h.2.2.2]
theorem rk (K:Nat->Int)(nc N:Nat)(HP:iz K nc N)(k n:Int)(nm:List UInt8)(a:Int)(ks:Fs)(ao:Option Ha)(cap ar:Nat)(w:GI)(o:Nat->Nat)(rb:Nat)(p0 p1 p2 p3 p4:GN)(lv:List Int)(s:Dp)(m:Nat)
  (hN:ks.size<=N) (ho:okF nc ks) (G:k≠21) (e:skF K ks k 0) (R:lv.length=nc) (Q:nc<=256) (af:ar+ks.size<=1000000) (ae:ks.size<=100000) (S:SnO w o ks ao) (T:s.ks.length=nc) (hz:s.sz m) (hm:m+17*ks.size<=100000000) (X:DX w o p4 lv) (h:DW w o rb p0 p1 p2 p3 p4 s) :
  GV GH 66 #[pt0 rb,exN ⟨k,n,nm,a,ks⟩ ao cap,.int .i64 ar] w (fD w o rb p0 p1 p2 p3 p4 (fO (deF lv ks) ar s) (.tuple #[])):=by
 obtain⟨w1,P,g,A,HG,B1,E1,X1,Y,S0⟩:=gp #[.int .i64 k,.int .i64 n,stv nm,.slice ao ks.len cap] h X S;have H:=gm B1;have B:=iT ks;obtain⟨W,V⟩:=exq (fO (deF lv ks) ar s);have f:Hid (W=fO (deF lv ks) ar s):=V;rw[<-V];clear V B1 h X S;rw[dS];obtain⟨c0,c1,c2,c3⟩:=H.out _ _ (dQ.refl I17 w1 P);obtain⟨L,-⟩:=E1.cl;simp only;go_enter Tryz.func66,Tryz.ntmps66;go_upto_region 1 with fail;rw[<-A,<-HG.out];clear A;go_wp2_with fail;go_loopw [6] (λM wr=>∃(d r:Fs) (s':Dp) (o':Nat->Nat),Hid (ks=d.app r)/\M=.int .i64 (d.len:Nat)/\DW wr o' rb p0 p1 p2 p3 p4 s'/\dQ I17 w1 P wr o'/\Dle (17*d.size) s s'/\Hid (W=fO (deF lv r) ar s')/\Hid (skF K r k d.len)) (λM _=>ks.len-(Hl M).toNat)
 case atStart=>exact⟨.nil,ks,s,P,rfl,by show _=GX .i64 ((0:Nat):Int);rfl,E1,dQ.refl _ _ _,Dle.refl s,f,e⟩
 case round =>
  clear f E1 c0 c1 c2 c3 L e;obtain⟨d,r,s',o',j,rfl,J,u,g2,f,p⟩:=hrel;obtain⟨c0,c1,c2,c3⟩:=H.out _ _ u;obtain⟨L,-⟩:=J.cl;have c:ks.len=d.len+r.len:=by rw[j.out,Fs.len_app]
  have e:ks.size=d.size+r.size:=by rw[j.out,Fs.size_app]
  have E:=iT d;cases r using Fs.on with
  | nil =>
   have U:¬(d.len:Int)<(ks.len:Int):=by simp only[Fs.len] at c;omega
   have t:Hid (W=s'):=f.out;clear f j c e E B H g2;go_wp2
   go_end0
   exact⟨rfl,o',by rw[t.out];exact J,S0.trans u⟩
  | cons kk kn km ka v l =>
   have U:(d.len:Int)<(ks.len:Int):=by simp only[Fs.len] at c;omega
   by_cases i:s'.lg=true
   ·have t:Hid (W=s'):=by show _=_;rw[f.out];exact tp G i _ _ p.out
    rw[i] at L;clear f j c e E B H g2 p;go_wp2
    go_end0
    exact⟨rfl,o',by rw[t.out];exact J,S0.trans u⟩
   ·have D:s'.lg=false:=by simpa using i
    rw[D] at L;obtain⟨y,hy⟩:∃y:Ex,y=⟨kk,kn,km,ka,v⟩:=⟨_,rfl⟩;have F:Fs.cons kk kn km ka v l=Fs.ex y l:=by rw[hy];rfl
    rw[F] at j f p c e;have C:(Fs.ex y l).len=l.len+1:=rfl;rw[C] at c;rw[eC] at e;have O:okE nc y:=by
     rw[j.out] at ho;exact(en (rt ho)).1
    have q:=Y.stepO u dZ;rw[j.out] at q;obtain⟨b,off,ak,ck,rfl,NN,Sy,NK⟩:=ia (x:=d) q d.len rfl;obtain⟨x0,x1,x2,x3⟩:=NN;have HC:=HP y ak ck ar wr o' rb p0 p1 p2 p3 p4 lv s' (m+17*d.size) (by omega) O ⟨λhs=>G (p.out.1.1 hs).1,p.out.2.1,p.out.2.2.1⟩ R Q (by omega) (by omega) Sy (g2.ks.trans T) (g2.sz m hz) (by omega) (X1.step u dZ) J;have gy:=fe lv y ar s';have Z:Hid (W=fO (deF lv l) ar (deE lv y ar s')):=f.out;have aa:Hid (skF K l k (d.len+1)):=p.out.2.2.2;have ac:Hid (ks=(d.snoc y).app l):=by show _=_;rw[j.out,rc]
    have I:Hid ((d.snoc y).len=d.len+1):=Fs.len_snoc d y;have ad:Hid ((d.snoc y).size=d.size+(y.kids.size+1)):=by show _=_;unfold Fs.snoc;rw[Fs.size_app];rfl
    rw[dS] at HC;have ab:=GP c;clear hy F C q NK Sy f j p J e c D i H;go_wp2_with (first|(go_at_call 34;refine HC.mono ?_;rintro z w5 ⟨rfl,o5,E5,S5⟩));go_roundw
    case rel=>(try ((repeat apply G9);refine⟨?_,rfl⟩));exact⟨d.snoc y,l,_,o5,ac,by rw[I.out];go_num,E5,u.trans S5,by rw[ad.out];exact(g2.trans gy).le (by omega),Z,by rw[I.out];exact aa⟩
    case measure=>have c:=ab.out;simp[Hl];omega
end Go.Proofs.YtkhgahljbpmfaaaGreatDoor

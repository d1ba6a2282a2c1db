import Derived.Test.YtbjdkekhnajafaaGreatDoorDocF
set_option maxRecDepth 100000
set_option maxHeartbeats 8000000
namespace Go.Proofs.YtbjdkekhnajafaaGreatDoor
open Go.ChangeShapes Go.WideShapes Go.ChangeAt Go.RowKit
set_option linter.unusedVariables false
set_option linter.unusedSimpArgs false
theorem cJ {cells:List Int}{k n:Int}{nm:List UInt8}{a:Int}{f:Fs}{ar wi:Nat}{s:Rg}(m g:Int)(hd:aD k n nm f.len=true)(hs:s.1+1<=4096)(hw:wi<=4)(h5:k=5->n<(ar:Int))(h21:k≠21)(h26:k≠26)(hf:∀ kd:List Int,kd.length=f.len->aZ k n kd=(List.replicate f.len m,g))(h0:g≠0)(h4:g≠4) :
  cM cells ⟨k,n,nm,a,f⟩ ar wi s=anD (cD cells f (some (s.1+1,s.2)) m ar wi) g :=
 sZ (yJ (e:=⟨k,n,nm,a,f⟩) m g (ic (e:=⟨k,n,nm,a,f⟩) hd hs hw h5 (fun h=>absurd h h26)) h21 h26 hf h0) h4
theorem Bs {cells:List Int}{n:Int}{nm:List UInt8}{a:Int}{f:Fs}{ar wi:Nat}{s:Rg}(h:(ar:Int)<=n):cM cells ⟨5,n,nm,a,f⟩ ar wi s=none :=
 ij (fR (fun hg=>hg (.inr (.inr (.inr (by simp[nuP];omega))))))
theorem kS {cells:List Int}{k n:Int}{nm:List UInt8}{a:Int}{f:Fs}{ar wi:Nat}{s:Rg}(hk:22<=k/\k<=25):cM cells ⟨k,n,nm,a,f⟩ ar wi s=none:=by
 unfold cM;cases hr:rgE cells ⟨k,n,nm,a,f⟩ ar wi s with
 | none=>rfl
 | some z =>
  obtain⟨s',kz⟩:=z;obtain⟨-,s1,kd,-,-,-,-,h5,-⟩:=dw hr;simp only at h5 ⊢;rw[if_pos];rw[h5];have hc:k=22\/k=23\/k=24\/k=25:=by omega
  rcases hc with rfl|rfl|rfl|rfl<;>rfl
theorem nL {cells:List Int}{k n:Int}{nm:List UInt8}{a:Int}{x y:Ex}{ar wi:Nat}{s:Rg}(hk:k=13\/k=14)(hd:aD k n nm 2=true)(hs:s.1+1<=4096)(hw:wi<=4) :
  cM cells ⟨k,n,nm,a,Fs.ex x (Fs.ex y .nil)⟩ ar wi s=(match cM cells x ar wi (s.1+1,s.2) with|none=>none|some (s1,k0)=>anD (bG cells (some s1) k0 y ar wi) 2):=by
 have hg:=ic (cells:=cells) (ar:=ar) (e:=⟨k,n,nm,a,Fs.ex x (Fs.ex y .nil)⟩) (s:=s) hd hs hw (fun h=>absurd h (by simp only;omega)) (fun h=>absurd h (by simp only;omega));unfold cM;rw[wm hk hg];cases rgE cells x ar wi (s.1+1,s.2) with
 | none=>rfl
 | some z =>
  obtain⟨s1,k1⟩:=z;simp only;by_cases h4:k1=4
  ·rw[if_pos h4,if_pos h4]
  ·rw[if_neg h4,if_neg h4];simp only;cases bG cells (some s1) k1 y ar wi with
   | none=>rfl
   | some s2=>rfl
theorem qL {cells:List Int}{n:Int}{nm:List UInt8}{a:Int}{x y z:Ex}{ar wi:Nat}{s:Rg}(hd:aD 19 n nm 3=true)(hs:s.1+1<=4096)(hw:wi<=4) :
  cM cells ⟨19,n,nm,a,Fs.ex x (Fs.ex y (Fs.ex z .nil))⟩ ar wi s=(match bG cells (some (s.1+1,s.2)) 2 x ar wi with|none=>none|some s0=>match cM cells y ar wi s0 with|none=>none|some (s1,k0)=>anD (bG cells (some s1) k0 z ar wi) k0):=by
 have hg:=ic (cells:=cells) (ar:=ar) (e:=⟨19,n,nm,a,Fs.ex x (Fs.ex y (Fs.ex z .nil))⟩) (s:=s) hd hs hw (fun h=>absurd h (by simp only;omega)) (fun h=>absurd h (by simp only;omega));unfold cM;rw[vU hg];cases bG cells (some (s.1+1,s.2)) 2 x ar wi with
 | none=>rfl
 | some s0 =>
  simp only;cases rgE cells y ar wi s0 with
  | none=>rfl
  | some u =>
   obtain⟨s1,k1⟩:=u;simp only;by_cases h4:k1=4
   ·rw[if_pos h4,if_pos h4]
   ·rw[if_neg h4,if_neg h4];simp only;cases bG cells (some s1) k1 z ar wi with
    | none=>rfl
    | some s2=>simp only[anD];rw[if_neg h4]
theorem uN {cells:List Int}{n:Int}{nm:List UInt8}{a:Int}{t x:Ex}{ar wi:Nat}{s:Rg}(hd:aD 21 n nm 2=true)(hs:s.1+1<=4096)(hw:wi<=4) :
  cM cells ⟨21,n,nm,a,Fs.ex t (Fs.ex x .nil)⟩ ar wi s=anD (bG cells (bG cells (some (s.1+1,s.2)) 4 t ar (wi+1)) (cG n) x (ar+1) (wi+1)) (cm n):=by
 have hg:=ic (cells:=cells) (ar:=ar) (e:=⟨21,n,nm,a,Fs.ex t (Fs.ex x .nil)⟩) (s:=s) hd hs hw (fun h=>absurd h (by simp only;omega)) (fun h=>absurd h (by simp only;omega));have hn:1<=n/\n<=6:=by simp[aD] at hd;omega
 exact sZ (wF hg hn) (by unfold cm;split<;>omega)
theorem ym {cells:List Int}{n:Int}{nm:List UInt8}{a:Int}{x:Ex}{ar wi:Nat}{s:Rg}(hd:aD 26 n nm 1=true)(hs:s.1+1<=4096)(hw:wi<=4) :
  cM cells ⟨26,n,nm,a,Fs.ex x .nil⟩ ar wi s=ir cells n x ar wi (s.1+1,s.2):=by
 unfold ir;by_cases h6:0<=n/\n<(cells.length:Int)
 ·have hg:=ic (cells:=cells) (ar:=ar) (e:=⟨26,n,nm,a,Fs.ex x .nil⟩) (s:=s) hd hs hw (fun h=>absurd h (by simp only;omega)) (fun _=>h6);rw[if_pos h6];unfold cM;rw[AC hg];cases rgE cells x ar wi (s.1+1,s.2) with
  | none=>rfl
  | some z =>
   obtain⟨s1,k1⟩:=z;simp only;by_cases h4:k1=4
   ·rw[if_pos h4,if_pos h4]
   ·rw[if_neg h4,if_neg h4];simp only;cases cT cells n (Fs.ex x .nil) ar s1 with
    | none=>rfl
    | some s2=>simp only[anD];rw[if_neg h4]
 ·rw[if_neg h6];exact ij (fR (fun hg=>hg (.inr (.inr (.inr (by simp[nuP];omega))))))
def fk (cells:List Int)(st:Dg)(e:Ex)(ar wi:Nat):Option (Rg × Int):=match st with|none=>none|some s=>cM cells e ar wi s
theorem ma {N:Nat}(IH:i7 N)(e:Ex)(ao:Option Addr)(cap wb kb:Nat)(bv:Value)(cells:List Int)(ar wi:Nat)(st:Dg)(w:World)(hN:e.kids.size<N)(hf:cu e)(hwi:wi<=4)(har:ar<=wi)(hne:wb≠kb)(h:WD w wb kb bv cells.length st)(hn:Inw w (Nf2 wb kb) bv cells)(S:SlN w (Nf2 wb kb) e.kids ao) :
  Calls Tryz.prog 54 #[.pointer (some ⟨wb,0,none⟩),exN e ao cap,.int .i64 (ar:Nat),.int .i64 (wi:Nat)] w (aT w wb kb bv cells.length (fk cells st e ar wi)):=by
 cases st with
 | none=>exact p7 e ao cap wb kb bv cells.length ar wi w h
 | some s=>exact IH e ao cap wb kb bv cells ar wi s w hN hf hwi har hne h hn S
theorem lH {cells:List Int}{st:Dg}{e:Ex}{ar wi:Nat}{s:Rg}{k:Int}(h:fk cells st e ar wi=some (s,k)):k≠4:=by
 unfold fk at h;cases st with
 | none=>cases h
 | some s0 =>
  simp only[cM] at h;cases hr:rgE cells e ar wi s0 with
  | none=>rw[hr] at h;cases h
  | some z =>
   obtain⟨s',kz⟩:=z;rw[hr] at h;simp only at h;split at h
   ·cases h
   ·injection h with h
    injection h with h1 h2
    omega
theorem ro {N:Nat}(IH:i7 N):i7 (N+1):=by
 intro e ao cap wb kb bv cells ar wi s w hN hf hwi har hne h hn S;obtain⟨k0,n,nm,a,f⟩:=e;simp only at hN S;obtain⟨Z,hZ⟩:∃Z,Z=cM cells ⟨k0,n,nm,a,f⟩ ar wi s:=⟨_,rfl⟩
 rw[<-hZ];have HZ:Hid (Z=cM cells ⟨k0,n,nm,a,f⟩ ar wi s):=hZ;clear hZ;have hlen:=hf.len;simp only at hlen;have B0:Below w.heap.size w (w.alloc (.cells #[.int .i64 k0,.int .i64 n,stv nm,.slice ao f.len cap] 34)):=(Below.refl _ w).alloc (Nat.le_refl _) _;have E0:(w.alloc (.cells #[.int .i64 k0,.int .i64 n,stv nm,.slice ao f.len cap] 34)).heap[w.heap.size]?=some (.cells #[.int .i64 k0,.int .i64 n,stv nm,.slice ao f.len cap] 34):=heap_alloc_new w _;have W0:=h.below B0;have S0:=S.belowP B0;have N0:=hn.below B0;have hwb:=h.lt;have hkb:=h.ltk;clear h S hn;rw[ah];go_enter Tryz.func54,Tryz.ntmps54;go_upto_region 1 with fail;generalize w.alloc (.cells #[.int .i64 k0,.int .i64 n,stv nm,.slice ao f.len cap] 34)=w0 at *;have KK:Kp wb kb w w0:=Kp.ofBelow B0;obtain⟨bx,hbx⟩:∃bx,bx=w.heap.size:=⟨_,rfl⟩
 rw[<-hbx] at E0 ⊢;have hb1:bx≠wb:=by omega
 have hb2:bx≠kb:=by omega
 have hkb0:=W0.ltk;obtain⟨W0,hs,KT0⟩:=W0;obtain⟨q0,q1,q2,q3,qf⟩:=aI W0;have F1:=(gK W0 (.int .i64 ((s.1:Int)+1))).1;have K1:=KK.set ⟨wb,1,none⟩ (.int .i64 ((s.1:Int)+1)) (.inr (.inl rfl));have E1:=(heap_setCell_other w0 ⟨wb,1,none⟩ bx (.int .i64 ((s.1:Int)+1)) hb1).trans E0;have N1:=N0.set ⟨wb,1,none⟩ (.int .i64 ((s.1:Int)+1)) rfl;have S1:=S0.set ⟨wb,1,none⟩ (.int .i64 ((s.1:Int)+1)) rfl;have KT1:=KT0.set ⟨wb,1,none⟩ (.int .i64 ((s.1:Int)+1)) rfl hne;have hk1:kb<(w0.setCell ⟨wb,1,none⟩ (.int .i64 ((s.1:Int)+1))).heap.size:=by simpa using hkb0
 clear hbx hwb hkb B0 E0 KK N0 S0 KT0 W0;go_upto_region 2 with fail;generalize w0.setCell ⟨wb,1,none⟩ (.int .i64 ((s.1:Int)+1))=w1 at *;clear q0 q1 q2 q3 qf hkb0;obtain⟨q0,q1,q2,q3,qf⟩:=aI F1;obtain⟨p0,p1,p2,p3,pf⟩:=aI E1;have c1:=y5 ⟨k0,n,nm,a,f⟩ ao cap w1 hf.nm;rw[ah] at c1;simp only at c1;have BAD:∀ {w2:World}{g:Int},Z=none->Below w1.heap.size w1 w2->Hid (aT w wb kb bv cells.length Z (.returned (.int .i64 g)) (w2.setCell ⟨wb,3,none⟩ (.bool false))):=by
  intro w2 g hz b2;rw[hz];exact⟨⟨g,rfl,fun s k h=>by cases h⟩,⟨by simpa using Nat.lt_of_lt_of_le hk1 b2.size,_,_,(gK ((b2.block _ (lt_of_block F1)).trans F1) (.bool false)).2⟩,(K1.trans (Kp.ofBelow b2)).set _ _ (.inr (.inl rfl))⟩
 by_cases hs1:4096<s.1+1
 ·have HR:=BAD (g:=0) (by rw[HZ.out];exact ij (fR (fun hg=>hg (.inl hs1)))) (Below.refl _ w1);have hI:(4096:Int)<(s.1:Int)+1:=by omega
  clear BAD HZ c1 p0 p1 p2 p3 N1 S1 E1 KT1 K1;go_wp2;exact bodyPost_ret (v:=.int .i64 0) (by simp[results,Tryz.results54,go_sem]) rfl HR.out
 have hI:¬(4096:Int)<(s.1:Int)+1:=by omega
 go_wp2_with fail;refine c1.mono ?_;rintro x w2 ⟨rfl,b2⟩;have F2:=(b2.block _ (lt_of_block F1)).trans F1;have E2:=(b2.block _ (lt_of_block E1)).trans E1;have N2:=N1.below b2;have S2:=S1.belowP b2;have hkt:=KT1;obtain⟨arr,hkx,-⟩:=hkt;have KT2:=KT1.mono (b2.block _ (lt_of_block hkx)) (fun i _ hl=>b2.block i hl) b2.size;have K2:=K1.trans (Kp.ofBelow b2);cases hd:aD k0 n nm f.len with
 | false =>
  have HR:=BAD (g:=0) (by rw[HZ.out];exact ij (pc (e:=⟨k0,n,nm,a,f⟩) hd)) b2;clear c1 BAD HZ q0 q1 q2 q3 qf p0 p1 p2 p3 pf hkx;obtain⟨q0,q1,q2,q3,qf⟩:=aI F2;obtain⟨p0,p1,p2,p3,pf⟩:=aI E2;clear F1 E1 N1 S1 KT1 K1 K2 KT2 N2 S2 F2 E2;go_wp2;exact bodyPost_ret (v:=.int .i64 0) (by simp[results,Tryz.results54,go_sem]) rfl HR.out
 | true =>
 have hs2:s.1+1<=4096:=by omega
 have W2:WD w2 wb kb bv cells.length (some (s.1+1,s.2)):=⟨F2,hs2,KT2⟩
 have BADS:=fun (g:Int) (hz:Z=none)=>BAD (g:=g) hz b2;clear c1 BAD q0 q1 q2 q3 qf p0 p1 p2 p3 pf hkx F1 E1 N1 S1 KT1 K1 KT2 b2 hs hk1 hs1 hI;have hkk:=dI hd;obtain⟨p0,p1,p2,p3,pf⟩:=aI E2;obtain⟨q0,q1,q2,q3,qf⟩:=aI F2;clear F2;go_upto_region 5 with fail;rcases hkk with rfl|rfl|rfl|rfl|rfl|rfl|rfl|rfl|rfl|rfl|rfl|rfl|rfl|rfl|rfl|rfl|rfl|rfl|rfl|rfl|rfl|rfl|rfl|rfl|rfl
 ·have hl:f.len=0:=by simp[aD] at hd;omega
  have HR:Hid (aT w wb kb bv cells.length Z (.returned (.int .i64 1)) w2):=by
   show aT w wb kb bv cells.length Z (.returned (.int .i64 1)) w2;rw[HZ.out,cJ 1 1 hd hs2 hwi (fun h=>absurd h (by decide)) (by decide) (by decide) (fun kd hk=>by rw[hl];rfl) (by decide) (by decide)];exact cO (st:=some (s.1+1,s.2)) (by rw[pQ hl];rfl) W2 K2
  clear HZ BADS W2 N2 S2 K2 E2 hd;go_wp2;exact bodyPost_ret (v:=.int .i64 1) (by simp[results,Tryz.results54,go_sem]) rfl HR.out
 ·have hl:f.len=0:=by simp[aD] at hd;omega
  have HR:Hid (aT w wb kb bv cells.length Z (.returned (.int .i64 2)) w2):=by
   show aT w wb kb bv cells.length Z (.returned (.int .i64 2)) w2;rw[HZ.out,cJ 1 2 hd hs2 hwi (fun h=>absurd h (by decide)) (by decide) (by decide) (fun kd hk=>by rw[hl];rfl) (by decide) (by decide)];exact cO (st:=some (s.1+1,s.2)) (by rw[pQ hl];rfl) W2 K2
  clear HZ BADS W2 N2 S2 K2 E2 hd;go_wp2;exact bodyPost_ret (v:=.int .i64 2) (by simp[results,Tryz.results54,go_sem]) rfl HR.out
 ·have hl:f.len=0:=by simp[aD] at hd;omega
  have HR:Hid (aT w wb kb bv cells.length Z (.returned (.int .i64 3)) w2):=by
   show aT w wb kb bv cells.length Z (.returned (.int .i64 3)) w2;rw[HZ.out,cJ 1 3 hd hs2 hwi (fun h=>absurd h (by decide)) (by decide) (by decide) (fun kd hk=>by rw[hl];rfl) (by decide) (by decide)];exact cO (st:=some (s.1+1,s.2)) (by rw[pQ hl];rfl) W2 K2
  clear HZ BADS W2 N2 S2 K2 E2 hd;go_wp2;exact bodyPost_ret (v:=.int .i64 3) (by simp[results,Tryz.results54,go_sem]) rfl HR.out
 ·by_cases hv:(ar:Int)<=n
  ·have HR:=BADS 3 (by rw[HZ.out];exact Bs hv);clear HZ BADS W2 N2 S2 K2 E2 hd;go_wp2;exact bodyPost_ret (v:=.int .i64 3) (by simp[results,Tryz.results54,go_sem]) rfl HR.out
  have hl:f.len=0:=by simp[aD] at hd;omega
  have HR:Hid (aT w wb kb bv cells.length Z (.returned (.int .i64 3)) w2):=by
   show aT w wb kb bv cells.length Z (.returned (.int .i64 3)) w2;rw[HZ.out,cJ 1 3 hd hs2 hwi (fun _=>by omega) (by decide) (by decide) (fun kd hk=>by rw[hl];rfl) (by decide) (by decide)];exact cO (st:=some (s.1+1,s.2)) (by rw[pQ hl];rfl) W2 K2
  clear HZ BADS W2 N2 S2 K2 E2 hd;go_wp2;exact bodyPost_ret (v:=.int .i64 3) (by simp[results,Tryz.results54,go_sem]) rfl HR.out
 ·have hl:f.len=1:=by simp[aD] at hd;omega
  have HZ2:Hid (Z=anD (cD cells f (some (s.1+1,s.2)) 1 ar wi) 1):=HZ.out.trans (cJ 1 1 hd hs2 hwi (fun h=>absurd h (by decide)) (by decide) (by decide) (fun kd hk=>by rw[hl];rfl) (by decide) (by decide));have c1:=fun k=>fT IH ⟨k,n,nm,a,f⟩ ao cap wb kb bv cells ar wi 1 1 (some (s.1+1,s.2)) w2 (by simp only;omega) ⟨hf.nm,hf.len,hf.sh⟩ hwi har hne (by decide) W2 N2 S2;simp only[ah] at c1;clear HZ BADS hd hl;go_wp2_with fail;refine(c1 _).mono ?_;rintro z w3 ⟨rfl,W3,K3⟩;have HR:Hid (aT w wb kb bv cells.length Z (.returned (.int .i64 1)) w3):=cO HZ2.out W3 (K2.trans K3);clear c1 W3 K3 HZ2 p0 p1 p2 p3 pf q0 q1 q2 q3 qf W2 N2 S2 K2 E2;go_wp2;exact bodyPost_ret (v:=.int .i64 1) (by simp[results,Tryz.results54,go_sem]) rfl HR.out
 ·have hl:f.len=1:=by simp[aD] at hd;omega
  have HZ2:Hid (Z=anD (cD cells f (some (s.1+1,s.2)) 2 ar wi) 2):=HZ.out.trans (cJ 2 2 hd hs2 hwi (fun h=>absurd h (by decide)) (by decide) (by decide) (fun kd hk=>by rw[hl];rfl) (by decide) (by decide));have c1:=fun k=>fT IH ⟨k,n,nm,a,f⟩ ao cap wb kb bv cells ar wi 2 2 (some (s.1+1,s.2)) w2 (by simp only;omega) ⟨hf.nm,hf.len,hf.sh⟩ hwi har hne (by decide) W2 N2 S2;simp only[ah] at c1;clear HZ BADS hd hl;go_wp2_with fail;refine(c1 _).mono ?_;rintro z w3 ⟨rfl,W3,K3⟩;have HR:Hid (aT w wb kb bv cells.length Z (.returned (.int .i64 2)) w3):=cO HZ2.out W3 (K2.trans K3);clear c1 W3 K3 HZ2 p0 p1 p2 p3 pf q0 q1 q2 q3 qf W2 N2 S2 K2 E2;go_wp2;exact bodyPost_ret (v:=.int .i64 2) (by simp[results,Tryz.results54,go_sem]) rfl HR.out
 ·have hl:f.len=2:=by simp[aD] at hd;omega
  have HZ2:Hid (Z=anD (cD cells f (some (s.1+1,s.2)) 1 ar wi) 1):=HZ.out.trans (cJ 1 1 hd hs2 hwi (fun h=>absurd h (by decide)) (by decide) (by decide) (fun kd hk=>by rw[hl];rfl) (by decide) (by decide));have c1:=fun k=>fT IH ⟨k,n,nm,a,f⟩ ao cap wb kb bv cells ar wi 1 1 (some (s.1+1,s.2)) w2 (by simp only;omega) ⟨hf.nm,hf.len,hf.sh⟩ hwi har hne (by decide) W2 N2 S2;simp only[ah] at c1;clear HZ BADS hd hl;go_wp2_with fail;refine(c1 _).mono ?_;rintro z w3 ⟨rfl,W3,K3⟩;have HR:Hid (aT w wb kb bv cells.length Z (.returned (.int .i64 1)) w3):=cO HZ2.out W3 (K2.trans K3);clear c1 W3 K3 HZ2 p0 p1 p2 p3 pf q0 q1 q2 q3 qf W2 N2 S2 K2 E2;go_wp2;exact bodyPost_ret (v:=.int .i64 1) (by simp[results,Tryz.results54,go_sem]) rfl HR.out
 ·have hl:f.len=2:=by simp[aD] at hd;omega
  have HZ2:Hid (Z=anD (cD cells f (some (s.1+1,s.2)) 1 ar wi) 1):=HZ.out.trans (cJ 1 1 hd hs2 hwi (fun h=>absurd h (by decide)) (by decide) (by decide) (fun kd hk=>by rw[hl];rfl) (by decide) (by decide));have c1:=fun k=>fT IH ⟨k,n,nm,a,f⟩ ao cap wb kb bv cells ar wi 1 1 (some (s.1+1,s.2)) w2 (by simp only;omega) ⟨hf.nm,hf.len,hf.sh⟩ hwi har hne (by decide) W2 N2 S2;simp only[ah] at c1;clear HZ BADS hd hl;go_wp2_with fail;refine(c1 _).mono ?_;rintro z w3 ⟨rfl,W3,K3⟩;have HR:Hid (aT w wb kb bv cells.length Z (.returned (.int .i64 1)) w3):=cO HZ2.out W3 (K2.trans K3);clear c1 W3 K3 HZ2 p0 p1 p2 p3 pf q0 q1 q2 q3 qf W2 N2 S2 K2 E2;go_wp2;exact bodyPost_ret (v:=.int .i64 1) (by simp[results,Tryz.results54,go_sem]) rfl HR.out
 ·have hl:f.len=2:=by simp[aD] at hd;omega
  have HZ2:Hid (Z=anD (cD cells f (some (s.1+1,s.2)) 1 ar wi) 1):=HZ.out.trans (cJ 1 1 hd hs2 hwi (fun h=>absurd h (by decide)) (by decide) (by decide) (fun kd hk=>by rw[hl];rfl) (by decide) (by decide));have c1:=fun k=>fT IH ⟨k,n,nm,a,f⟩ ao cap wb kb bv cells ar wi 1 1 (some (s.1+1,s.2)) w2 (by simp only;omega) ⟨hf.nm,hf.len,hf.sh⟩ hwi har hne (by decide) W2 N2 S2;simp only[ah] at c1;clear HZ BADS hd hl;go_wp2_with fail;refine(c1 _).mono ?_;rintro z w3 ⟨rfl,W3,K3⟩;have HR:Hid (aT w wb kb bv cells.length Z (.returned (.int .i64 1)) w3):=cO HZ2.out W3 (K2.trans K3);clear c1 W3 K3 HZ2 p0 p1 p2 p3 pf q0 q1 q2 q3 qf W2 N2 S2 K2 E2;go_wp2;exact bodyPost_ret (v:=.int .i64 1) (by simp[results,Tryz.results54,go_sem]) rfl HR.out
 ·have hl:f.len=2:=by simp[aD] at hd;omega
  have HZ2:Hid (Z=anD (cD cells f (some (s.1+1,s.2)) 1 ar wi) 1):=HZ.out.trans (cJ 1 1 hd hs2 hwi (fun h=>absurd h (by decide)) (by decide) (by decide) (fun kd hk=>by rw[hl];rfl) (by decide) (by decide));have c1:=fun k=>fT IH ⟨k,n,nm,a,f⟩ ao cap wb kb bv cells ar wi 1 1 (some (s.1+1,s.2)) w2 (by simp only;omega) ⟨hf.nm,hf.len,hf.sh⟩ hwi har hne (by decide) W2 N2 S2;simp only[ah] at c1;clear HZ BADS hd hl;go_wp2_with fail;refine(c1 _).mono ?_;rintro z w3 ⟨rfl,W3,K3⟩;have HR:Hid (aT w wb kb bv cells.length Z (.returned (.int .i64 1)) w3):=cO HZ2.out W3 (K2.trans K3);clear c1 W3 K3 HZ2 p0 p1 p2 p3 pf q0 q1 q2 q3 qf W2 N2 S2 K2 E2;go_wp2;exact bodyPost_ret (v:=.int .i64 1) (by simp[results,Tryz.results54,go_sem]) rfl HR.out
 ·have hl:f.len=2:=by simp[aD] at hd;omega
  have HZ2:Hid (Z=anD (cD cells f (some (s.1+1,s.2)) 1 ar wi) 1):=HZ.out.trans (cJ 1 1 hd hs2 hwi (fun h=>absurd h (by decide)) (by decide) (by decide) (fun kd hk=>by rw[hl];rfl) (by decide) (by decide));have c1:=fun k=>fT IH ⟨k,n,nm,a,f⟩ ao cap wb kb bv cells ar wi 1 1 (some (s.1+1,s.2)) w2 (by simp only;omega) ⟨hf.nm,hf.len,hf.sh⟩ hwi har hne (by decide) W2 N2 S2;simp only[ah] at c1;clear HZ BADS hd hl;go_wp2_with fail;refine(c1 _).mono ?_;rintro z w3 ⟨rfl,W3,K3⟩;have HR:Hid (aT w wb kb bv cells.length Z (.returned (.int .i64 1)) w3):=cO HZ2.out W3 (K2.trans K3);clear c1 W3 K3 HZ2 p0 p1 p2 p3 pf q0 q1 q2 q3 qf W2 N2 S2 K2 E2;go_wp2;exact bodyPost_ret (v:=.int .i64 1) (by simp[results,Tryz.results54,go_sem]) rfl HR.out
 ·have hl:f.len=2:=by simp[aD] at hd;omega
  obtain⟨x,y,rfl⟩:=fQ hl;have HZ2:Hid (Z=(match cM cells x ar wi (s.1+1,s.2) with|none=>none|some (s1,k0)=>anD (bG cells (some s1) k0 y ar wi) 2)):=HZ.out.trans (nL (by decide) hd hs2 hwi);have hfx:cu x:=cu.kid (e:=⟨13,n,nm,a,Fs.ex x (Fs.ex y .nil)⟩) (d:=.nil) ⟨hf.nm,hf.len,hf.sh⟩ rfl;have hfy:cu y:=cu.kid (e:=⟨13,n,nm,a,Fs.ex x (Fs.ex y .nil)⟩) (d:=Fs.ex x .nil) ⟨hf.nm,hf.len,hf.sh⟩ rfl;have hsz:x.kids.size+(y.kids.size+0+1)+1<N+1:=hN;rw[hl] at p3 E2;obtain⟨gb0,off0,ak,ck,hao,x0,x1,x2,x3,SK⟩:=SlN.kidP (x:=.nil) (r:=Fs.ex y .nil) (y:=x) S2 0 rfl;subst hao;simp only[Nat.zero_mul,Nat.add_zero] at x0 x1 x2 x3;have c1:=ma IH x ak ck wb kb bv cells ar wi (some (s.1+1,s.2)) w2 (by omega) hfx hwi har hne W2 N2 SK;rw[ah] at c1;simp only[hl];clear HZ BADS hd;go_wp2_with fail;refine c1.mono ?_;rintro z w3 ⟨⟨k',rfl,hk'⟩,W3,K3⟩;have E3:=(K3.block _ (lt_of_block E2) hb1 hb2).trans E2;have S3:=S2.kp K3;have N3:=N2.kp K3;have KK3:=K2.trans K3;clear c1 p0 p1 p2 p3 pf q0 q1 q2 q3 qf x0 x1 x2 x3 SK S2 W2 N2 E2 K2 K3;obtain⟨p0,p1,p2,p3,pf⟩:=aI E3;have HZ3:Hid (Z=anD (bG cells ((fk cells (some (s.1+1,s.2)) x ar wi).map (·.1)) k' y ar wi) 2):=by
   show Z=_;rw[HZ2.out];simp only[fk];cases hc:cM cells x ar wi (s.1+1,s.2) with
   | none=>rfl
   | some u=>obtain⟨s1,k1⟩:=u;rw[hk' s1 k1 (by simp only[fk];exact hc)];rfl
  have hm:(fk cells (some (s.1+1,s.2)) x ar wi).map (·.1)≠none->k'≠4:=by
   intro h;cases hc:fk cells (some (s.1+1,s.2)) x ar wi with
   | none=>rw[hc] at h;exact absurd rfl h
   | some u=>obtain⟨s1,k1⟩:=u;rw[hk' s1 k1 hc];exact lH hc
  clear HZ2 hk';generalize (fk cells (some (s.1+1,s.2)) x ar wi).map (·.1)=st1 at *;obtain⟨gb1,off1,ak,ck,hao,x0,x1,x2,x3,SK⟩:=SlN.kidP (x:=Fs.ex x .nil) (r:=.nil) (y:=y) S3 1 rfl;injection hao with hao
  injection hao with h1 h2
  subst h1;subst h2;simp only[Nat.one_mul] at x0 x1 x2 x3;have c2:=iL IH y ak ck wb kb bv cells ar wi k' st1 w3 (fun _=>by omega) hfy hwi har hne hm W3 N3 SK;rw[ah] at c2;go_wp2_with fail;refine c2.mono ?_;rintro z w4 ⟨rfl,W4,K4⟩;have HR:Hid (aT w wb kb bv cells.length Z (.returned (.int .i64 2)) w4):=cO HZ3.out W4 (KK3.trans K4);clear c2 W4 K4 HZ3 p0 p1 p2 p3 pf x0 x1 x2 x3 SK S3 W3 N3 E3 KK3;go_wp2;exact bodyPost_ret (v:=.int .i64 2) (by simp[results,Tryz.results54,go_sem]) rfl HR.out
 ·have hl:f.len=2:=by simp[aD] at hd;omega
  obtain⟨x,y,rfl⟩:=fQ hl;have HZ2:Hid (Z=(match cM cells x ar wi (s.1+1,s.2) with|none=>none|some (s1,k0)=>anD (bG cells (some s1) k0 y ar wi) 2)):=HZ.out.trans (nL (by decide) hd hs2 hwi);have hfx:cu x:=cu.kid (e:=⟨13,n,nm,a,Fs.ex x (Fs.ex y .nil)⟩) (d:=.nil) ⟨hf.nm,hf.len,hf.sh⟩ rfl;have hfy:cu y:=cu.kid (e:=⟨13,n,nm,a,Fs.ex x (Fs.ex y .nil)⟩) (d:=Fs.ex x .nil) ⟨hf.nm,hf.len,hf.sh⟩ rfl;have hsz:x.kids.size+(y.kids.size+0+1)+1<N+1:=hN;rw[hl] at p3 E2;obtain⟨gb0,off0,ak,ck,hao,x0,x1,x2,x3,SK⟩:=SlN.kidP (x:=.nil) (r:=Fs.ex y .nil) (y:=x) S2 0 rfl;subst hao;simp only[Nat.zero_mul,Nat.add_zero] at x0 x1 x2 x3;have c1:=ma IH x ak ck wb kb bv cells ar wi (some (s.1+1,s.2)) w2 (by omega) hfx hwi har hne W2 N2 SK;rw[ah] at c1;simp only[hl];clear HZ BADS hd;go_wp2_with fail;refine c1.mono ?_;rintro z w3 ⟨⟨k',rfl,hk'⟩,W3,K3⟩;have E3:=(K3.block _ (lt_of_block E2) hb1 hb2).trans E2;have S3:=S2.kp K3;have N3:=N2.kp K3;have KK3:=K2.trans K3;clear c1 p0 p1 p2 p3 pf q0 q1 q2 q3 qf x0 x1 x2 x3 SK S2 W2 N2 E2 K2 K3;obtain⟨p0,p1,p2,p3,pf⟩:=aI E3;have HZ3:Hid (Z=anD (bG cells ((fk cells (some (s.1+1,s.2)) x ar wi).map (·.1)) k' y ar wi) 2):=by
   show Z=_;rw[HZ2.out];simp only[fk];cases hc:cM cells x ar wi (s.1+1,s.2) with
   | none=>rfl
   | some u=>obtain⟨s1,k1⟩:=u;rw[hk' s1 k1 (by simp only[fk];exact hc)];rfl
  have hm:(fk cells (some (s.1+1,s.2)) x ar wi).map (·.1)≠none->k'≠4:=by
   intro h;cases hc:fk cells (some (s.1+1,s.2)) x ar wi with
   | none=>rw[hc] at h;exact absurd rfl h
   | some u=>obtain⟨s1,k1⟩:=u;rw[hk' s1 k1 hc];exact lH hc
  clear HZ2 hk';generalize (fk cells (some (s.1+1,s.2)) x ar wi).map (·.1)=st1 at *;obtain⟨gb1,off1,ak,ck,hao,x0,x1,x2,x3,SK⟩:=SlN.kidP (x:=Fs.ex x .nil) (r:=.nil) (y:=y) S3 1 rfl;injection hao with hao
  injection hao with h1 h2
  subst h1;subst h2;simp only[Nat.one_mul] at x0 x1 x2 x3;have c2:=iL IH y ak ck wb kb bv cells ar wi k' st1 w3 (fun _=>by omega) hfy hwi har hne hm W3 N3 SK;rw[ah] at c2;go_wp2_with fail;refine c2.mono ?_;rintro z w4 ⟨rfl,W4,K4⟩;have HR:Hid (aT w wb kb bv cells.length Z (.returned (.int .i64 2)) w4):=cO HZ3.out W4 (KK3.trans K4);clear c2 W4 K4 HZ3 p0 p1 p2 p3 pf x0 x1 x2 x3 SK S3 W3 N3 E3 KK3;go_wp2;exact bodyPost_ret (v:=.int .i64 2) (by simp[results,Tryz.results54,go_sem]) rfl HR.out
 ·have hl:f.len=2:=by simp[aD] at hd;omega
  have HZ2:Hid (Z=anD (cD cells f (some (s.1+1,s.2)) 1 ar wi) 2):=HZ.out.trans (cJ 1 2 hd hs2 hwi (fun h=>absurd h (by decide)) (by decide) (by decide) (fun kd hk=>by rw[hl];rfl) (by decide) (by decide));have c1:=fun k=>fT IH ⟨k,n,nm,a,f⟩ ao cap wb kb bv cells ar wi 1 2 (some (s.1+1,s.2)) w2 (by simp only;omega) ⟨hf.nm,hf.len,hf.sh⟩ hwi har hne (by decide) W2 N2 S2;simp only[ah] at c1;clear HZ BADS hd hl;go_wp2_with fail;refine(c1 _).mono ?_;rintro z w3 ⟨rfl,W3,K3⟩;have HR:Hid (aT w wb kb bv cells.length Z (.returned (.int .i64 2)) w3):=cO HZ2.out W3 (K2.trans K3);clear c1 W3 K3 HZ2 p0 p1 p2 p3 pf q0 q1 q2 q3 qf W2 N2 S2 K2 E2;go_wp2;exact bodyPost_ret (v:=.int .i64 2) (by simp[results,Tryz.results54,go_sem]) rfl HR.out
 ·have hl:f.len=2:=by simp[aD] at hd;omega
  have HZ2:Hid (Z=anD (cD cells f (some (s.1+1,s.2)) 1 ar wi) 2):=HZ.out.trans (cJ 1 2 hd hs2 hwi (fun h=>absurd h (by decide)) (by decide) (by decide) (fun kd hk=>by rw[hl];rfl) (by decide) (by decide));have c1:=fun k=>fT IH ⟨k,n,nm,a,f⟩ ao cap wb kb bv cells ar wi 1 2 (some (s.1+1,s.2)) w2 (by simp only;omega) ⟨hf.nm,hf.len,hf.sh⟩ hwi har hne (by decide) W2 N2 S2;simp only[ah] at c1;clear HZ BADS hd hl;go_wp2_with fail;refine(c1 _).mono ?_;rintro z w3 ⟨rfl,W3,K3⟩;have HR:Hid (aT w wb kb bv cells.length Z (.returned (.int .i64 2)) w3):=cO HZ2.out W3 (K2.trans K3);clear c1 W3 K3 HZ2 p0 p1 p2 p3 pf q0 q1 q2 q3 qf W2 N2 S2 K2 E2;go_wp2;exact bodyPost_ret (v:=.int .i64 2) (by simp[results,Tryz.results54,go_sem]) rfl HR.out
 ·have hl:f.len=2:=by simp[aD] at hd;omega
  have HZ2:Hid (Z=anD (cD cells f (some (s.1+1,s.2)) 2 ar wi) 2):=HZ.out.trans (cJ 2 2 hd hs2 hwi (fun h=>absurd h (by decide)) (by decide) (by decide) (fun kd hk=>by rw[hl];rfl) (by decide) (by decide));have c1:=fun k=>fT IH ⟨k,n,nm,a,f⟩ ao cap wb kb bv cells ar wi 2 2 (some (s.1+1,s.2)) w2 (by simp only;omega) ⟨hf.nm,hf.len,hf.sh⟩ hwi har hne (by decide) W2 N2 S2;simp only[ah] at c1;clear HZ BADS hd hl;go_wp2_with fail;refine(c1 _).mono ?_;rintro z w3 ⟨rfl,W3,K3⟩;have HR:Hid (aT w wb kb bv cells.length Z (.returned (.int .i64 2)) w3):=cO HZ2.out W3 (K2.trans K3);clear c1 W3 K3 HZ2 p0 p1 p2 p3 pf q0 q1 q2 q3 qf W2 N2 S2 K2 E2;go_wp2;exact bodyPost_ret (v:=.int .i64 2) (by simp[results,Tryz.results54,go_sem]) rfl HR.out
 ·have hl:f.len=2:=by simp[aD] at hd;omega
  have HZ2:Hid (Z=anD (cD cells f (some (s.1+1,s.2)) 2 ar wi) 2):=HZ.out.trans (cJ 2 2 hd hs2 hwi (fun h=>absurd h (by decide)) (by decide) (by decide) (fun kd hk=>by rw[hl];rfl) (by decide) (by decide));have c1:=fun k=>fT IH ⟨k,n,nm,a,f⟩ ao cap wb kb bv cells ar wi 2 2 (some (s.1+1,s.2)) w2 (by simp only;omega) ⟨hf.nm,hf.len,hf.sh⟩ hwi har hne (by decide) W2 N2 S2;simp only[ah] at c1;clear HZ BADS hd hl;go_wp2_with fail;refine(c1 _).mono ?_;rintro z w3 ⟨rfl,W3,K3⟩;have HR:Hid (aT w wb kb bv cells.length Z (.returned (.int .i64 2)) w3):=cO HZ2.out W3 (K2.trans K3);clear c1 W3 K3 HZ2 p0 p1 p2 p3 pf q0 q1 q2 q3 qf W2 N2 S2 K2 E2;go_wp2;exact bodyPost_ret (v:=.int .i64 2) (by simp[results,Tryz.results54,go_sem]) rfl HR.out
 ·have hl:f.len=3:=by simp[aD] at hd;omega
  obtain⟨x,y,u,rfl⟩:=zL hl;have HZ2:Hid (Z=(match bG cells (some (s.1+1,s.2)) 2 x ar wi with|none=>none|some s0=>match cM cells y ar wi s0 with|none=>none|some (s1,k0)=>anD (bG cells (some s1) k0 u ar wi) k0)):=HZ.out.trans (qL hd hs2 hwi);have hfx:cu x:=cu.kid (e:=⟨13,n,nm,a,Fs.ex x (Fs.ex y (Fs.ex u .nil))⟩) (d:=.nil) ⟨hf.nm,hf.len,hf.sh⟩ rfl;have hfy:cu y:=cu.kid (e:=⟨13,n,nm,a,Fs.ex x (Fs.ex y (Fs.ex u .nil))⟩) (d:=Fs.ex x .nil) ⟨hf.nm,hf.len,hf.sh⟩ rfl;have hfu:cu u:=cu.kid (e:=⟨13,n,nm,a,Fs.ex x (Fs.ex y (Fs.ex u .nil))⟩) (d:=Fs.ex x (Fs.ex y .nil)) ⟨hf.nm,hf.len,hf.sh⟩ rfl;have hsz:x.kids.size+(y.kids.size+(u.kids.size+0+1)+1)+1<N+1:=hN;rw[hl] at p3 E2;obtain⟨gb0,off0,ak,ck,hao,x0,x1,x2,x3,SK⟩:=SlN.kidP (x:=.nil) (r:=Fs.ex y (Fs.ex u .nil)) (y:=x) S2 0 rfl;subst hao;simp only[Nat.zero_mul,Nat.add_zero] at x0 x1 x2 x3;have c1:=iL IH x ak ck wb kb bv cells ar wi 2 (some (s.1+1,s.2)) w2 (fun _=>by omega) hfx hwi har hne (fun _=>by decide) W2 N2 SK;rw[ah] at c1;simp only[hl];clear HZ BADS hd;go_wp2_with fail;refine c1.mono ?_;rintro z w3 ⟨rfl,W3,K3⟩;have E3:=(K3.block _ (lt_of_block E2) hb1 hb2).trans E2;have S3:=S2.kp K3;have N3:=N2.kp K3;have KK3:=K2.trans K3;clear c1 p0 p1 p2 p3 pf q0 q1 q2 q3 qf x0 x1 x2 x3 SK S2 W2 N2 E2 K2 K3;obtain⟨p0,p1,p2,p3,pf⟩:=aI E3;generalize bG cells (some (s.1+1,s.2)) 2 x ar wi=st0 at *;obtain⟨gb1,off1,ak,ck,hao,x0,x1,x2,x3,SK⟩:=SlN.kidP (x:=Fs.ex x .nil) (r:=Fs.ex u .nil) (y:=y) S3 1 rfl;injection hao with hao
  injection hao with h1 h2
  subst h1;subst h2;simp only[Nat.one_mul] at x0 x1 x2 x3;have c2:=ma IH y ak ck wb kb bv cells ar wi st0 w3 (by omega) hfy hwi har hne W3 N3 SK;rw[ah] at c2;go_wp2_with fail;refine c2.mono ?_;rintro z w4 ⟨⟨k',rfl,hk'⟩,W4,K4⟩;have E4:=(K4.block _ (lt_of_block E3) hb1 hb2).trans E3;have S4:=S3.kp K4;have N4:=N3.kp K4;have KK4:=KK3.trans K4;clear c2 p0 p1 p2 p3 pf x0 x1 x2 x3 SK S3 W3 N3 E3 KK3 K4;obtain⟨p0,p1,p2,p3,pf⟩:=aI E4;have HZ3:Hid (Z=anD (bG cells ((fk cells st0 y ar wi).map (·.1)) k' u ar wi) k'):=by
   show Z=_;rw[HZ2.out];cases st0 with
   | none=>rfl
   | some s0 =>
    simp only[fk];cases hc:cM cells y ar wi s0 with
    | none=>rfl
    | some v=>obtain⟨s1,k1⟩:=v;rw[hk' s1 k1 (by simp only[fk];exact hc)];rfl
  have hm:(fk cells st0 y ar wi).map (·.1)≠none->k'≠4:=by
   intro h;cases hc:fk cells st0 y ar wi with
   | none=>rw[hc] at h;exact absurd rfl h
   | some v=>obtain⟨s1,k1⟩:=v;rw[hk' s1 k1 hc];exact lH hc
  clear HZ2 hk';generalize (fk cells st0 y ar wi).map (·.1)=st1 at *;obtain⟨gb2,off2,ak,ck,hao,x0,x1,x2,x3,SK⟩:=SlN.kidP (x:=Fs.ex x (Fs.ex y .nil)) (r:=.nil) (y:=u) S4 2 rfl;injection hao with hao
  injection hao with h1 h2
  subst h1;subst h2;have c3:=iL IH u ak ck wb kb bv cells ar wi k' st1 w4 (fun _=>by omega) hfu hwi har hne hm W4 N4 SK;rw[ah] at c3;go_wp2_with fail;refine c3.mono ?_;rintro z w5 ⟨rfl,W5,K5⟩;have HR:Hid (aT w wb kb bv cells.length Z (.returned (.int .i64 k')) w5):=cO HZ3.out W5 (KK4.trans K5);clear c3 W5 K5 HZ3 p0 p1 p2 p3 pf x0 x1 x2 x3 SK S4 W4 N4 E4 KK4;go_wp2;exact bodyPost_ret (v:=.int .i64 k') (by simp[results,Tryz.results54,go_sem]) rfl HR.out
 ·have hl:f.len=1\/f.len=2:=by simp[aD] at hd;omega
  have HZ2:Hid (Z=anD (cD cells f (some (s.1+1,s.2)) 3 ar wi) (fS n)):=HZ.out.trans (cJ 3 (fS n) hd hs2 hwi (fun h=>absurd h (by decide)) (by decide) (by decide) (fun kd hk=>by
   have hn10:(1<=n/\n<=3/\f.len=2)\/(4<=n/\n<=10/\f.len=1):=by simp[aD] at hd;omega
   rcases hn10 with ⟨h1,h2,h3⟩|⟨h1,h2,h3⟩
   ·rw[h3]
    have:n=1\/n=2\/n=3:=by omega
    rcases this with rfl|rfl|rfl<;>rfl
   ·rw[h3]
    have:n=4\/n=5\/n=6\/n=7\/n=8\/n=9\/n=10:=by omega
    rcases this with rfl|rfl|rfl|rfl|rfl|rfl|rfl<;>rfl) (by unfold fS;split;decide;split<;>decide) (by unfold fS;split;decide;split<;>decide))
  have bdT:Below w2.heap.size w2 w2.drew:=⟨rfl,rfl,rfl,Nat.le_refl _,fun _ _=>rfl⟩
  have c1:=fT IH ⟨20,n,nm,a,f⟩ ao cap wb kb bv cells ar wi 3 (fS n) (some (s.1+1,s.2)) w2.drew (by simp only;omega) ⟨hf.nm,hf.len,hf.sh⟩ hwi har hne (by decide) (W2.below bdT) (N2.below bdT) (S2.belowP bdT);rw[ah] at c1;simp only at c1;have hgq:=fun wy=>oB n wy;generalize fS n=gv at *;have hbl:=lt_of_block E2;clear HZ BADS hd W2 N2 S2 hl;go_wp2_with fail;go_region_held3 (fun wx=>wx.cell? ⟨bx,0,none⟩=some (.int .i64 20)/\wx.cell? ⟨bx,1,none⟩=some (.int .i64 n)/\wx.cell? ⟨bx,2,none⟩=some (stv nm)/\wx.cell? ⟨bx,3,none⟩=some (.slice ao f.len cap))
   (first|exact KA|go_keep)
   (first
    | (go_at_call 107;refine(hgq _).mono ?_;rintro z w3 ⟨rfl,rfl⟩)
    | (go_at_call 105;refine c1.mono ?_;rintro z w3 ⟨rfl,W3,K3⟩;have KA:w3.cell? ⟨bx,0,none⟩=some (.int .i64 20)/\w3.cell? ⟨bx,1,none⟩=some (.int .i64 n)/\w3.cell? ⟨bx,2,none⟩=some (stv nm)/\w3.cell? ⟨bx,3,none⟩=some (.slice ao f.len cap):=⟨(K3.cell hbl hb1 hb2 _).trans p0,(K3.cell hbl hb1 hb2 _).trans p1,(K3.cell hbl hb1 hb2 _).trans p2,(K3.cell hbl hb1 hb2 _).trans p3⟩))
  all_goals (
   have HR:Hid (aT w wb kb bv cells.length Z (.returned (.int .i64 gv)) w3):=cO HZ2.out W3 (K2.trans (Kp.bel bdT K3));clear KA W3 K3 c1 hgq p0 p1 p2 p3 pf q0 q1 q2 q3 qf E2 K2 HZ2;go_wp2;exact bodyPost_ret (v:=.int .i64 gv) (by simp[results,Tryz.results54,go_sem]) rfl HR.out)
 ·have hl:f.len=2:=by simp[aD] at hd;omega
  obtain⟨x,y,rfl⟩:=fQ hl;have HZ2:Hid (Z=_):=HZ.out.trans (uN hd hs2 hwi);have c1:=fun k=>zW IH ⟨k,n,nm,a,Fs.ex x (Fs.ex y .nil)⟩ x y ao cap wb kb bv cells ar wi (s.1+1,s.2) w2 rfl (by simp only;omega) ⟨hf.nm,hf.len,hf.sh⟩ hwi har hne W2 N2 S2;simp only[ah] at c1;clear HZ BADS hd hl;simp only[<-HZ2.out] at c1;go_wp2_with fail;refine(c1 _).mono ?_;rintro z w3 ⟨⟨k',rfl,hk'⟩,W3,K3⟩;have HR:Hid (aT w wb kb bv cells.length Z (.returned (.int .i64 k')) w3):=⟨⟨k',rfl,hk'⟩,W3,K2.trans K3⟩
  clear c1 W3 K3 hk' HZ2 p0 p1 p2 p3 pf q0 q1 q2 q3 qf W2 N2 S2 K2 E2;go_wp2;exact bodyPost_ret (v:=.int .i64 k') (by simp[results,Tryz.results54,go_sem]) rfl HR.out
 ·have HR:=BADS 0 (by rw[HZ.out];exact kS (by decide));clear HZ BADS W2 N2 S2 K2 E2 hd;go_wp2;exact bodyPost_ret (v:=.int .i64 0) (by simp[results,Tryz.results54,go_sem]) rfl HR.out
 ·have HR:=BADS 0 (by rw[HZ.out];exact kS (by decide));clear HZ BADS W2 N2 S2 K2 E2 hd;go_wp2;exact bodyPost_ret (v:=.int .i64 0) (by simp[results,Tryz.results54,go_sem]) rfl HR.out
 ·have HR:=BADS 0 (by rw[HZ.out];exact kS (by decide));clear HZ BADS W2 N2 S2 K2 E2 hd;go_wp2;exact bodyPost_ret (v:=.int .i64 0) (by simp[results,Tryz.results54,go_sem]) rfl HR.out
 ·have HR:=BADS 0 (by rw[HZ.out];exact kS (by decide));clear HZ BADS W2 N2 S2 K2 E2 hd;go_wp2;exact bodyPost_ret (v:=.int .i64 0) (by simp[results,Tryz.results54,go_sem]) rfl HR.out
 ·have hl:f.len=1:=by simp[aD] at hd;omega
  obtain⟨x,rfl⟩:=sr hl;have HZ2:Hid (Z=ir cells n x ar wi (s.1+1,s.2)):=HZ.out.trans (ym hd hs2 hwi);have hfx:cu x:=cu.kid (e:=⟨26,n,nm,a,Fs.ex x .nil⟩) (d:=.nil) ⟨hf.nm,hf.len,hf.sh⟩ rfl;have hsz:x.kids.size+0+1<N+1:=hN;have c1:=Cu IH 26 n nm a x ao cap wb kb bv cells ar wi (s.1+1,s.2) w2 (by omega) hfx hwi har hne W2 N2 S2;rw[<-HZ2.out] at c1;simp only[hl] at p3 E2 ⊢;clear HZ BADS hd;go_wp2_with fail;refine c1.mono ?_;rintro z w3 ⟨⟨k',rfl,hk'⟩,W3,K3⟩;have HR:Hid (aT w wb kb bv cells.length Z (.returned (.int .i64 k')) w3):=⟨⟨k',rfl,hk'⟩,W3,K2.trans K3⟩
  clear c1 W3 K3 hk' HZ2 p0 p1 p2 p3 pf q0 q1 q2 q3 qf W2 N2 S2 K2 E2;go_wp2;exact bodyPost_ret (v:=.int .i64 k') (by simp[results,Tryz.results54,go_sem]) rfl HR.out
theorem py:∀ N,i7 N -- 54
 | 0=>fun e ao cap wb kb bv cells ar wi s w h=>absurd h (Nat.not_lt_zero _)
 | N+1=>ro (py N)
theorem vJ:(Tryz.prog.info? 32).map (fun i=>(i.zero,i.size,i.bytes))=some (some (.slice none 0 0),1,24):=by kernel_rfl
theorem uQ (n:Nat):(madeCells (Value.slice none 0 0).cells (n*1)).size=n/\∀ i,i<n->(madeCells (Value.slice none 0 0).cells (n*1))[i]?=some (.slice none 0 0):=by
 constructor
 ·simp[madeCells,Value.cells]
 ·intro i hi;simp[madeCells,Value.cells,hi,Nat.mod_one]
theorem yr (e:Ex)(ao:Option Addr)(cap:Nat)(cv:Value)(cells:List Int)(w:World)(hf:cu e)(hc:InA w cv cells)(hcl:cells.length<=1000000000)(S:SnA w e.kids ao) :
  Calls Tryz.prog 28 #[plV e ao cap cv] w fun x w'=>x=.returned (.int .i64 (bO cells e))/\Below w.heap.size w w':=by
 obtain⟨W,hZ⟩:∃W,W=bO cells e:=⟨_,rfl⟩
 rw[<-hZ];have HW:Hid (W=bO cells e):=hZ;clear hZ;obtain⟨ii,hii,hzi0,hzi1,hzi2⟩:=aH vJ;obtain⟨ac,cc,hcv,hcx⟩:=hc;have hc:InA w cv cells:=⟨ac,cc,hcv,hcx⟩
 subst hcv;clear hcx;have B0:Below w.heap.size w (w.alloc (.cells #[.int .i64 e.k,.int .i64 e.n,stv e.nm,.slice ao e.kids.len cap,.slice ac cells.length cc] 37)):=(Below.refl _ w).alloc (Nat.le_refl _) _;have E0:(w.alloc (.cells #[.int .i64 e.k,.int .i64 e.n,stv e.nm,.slice ao e.kids.len cap,.slice ac cells.length cc] 37)).heap[w.heap.size]?=some (.cells #[.int .i64 e.k,.int .i64 e.n,stv e.nm,.slice ao e.kids.len cap,.slice ac cells.length cc] 37):=heap_alloc_new w _;have S0:=SnA.below S B0;have I0:=hc.below B0;clear S hc;rw[bZ];go_enter Tryz.func28,Tryz.ntmps28;go_upto_region 1 with fail;generalize w.alloc (.cells #[.int .i64 e.k,.int .i64 e.n,stv e.nm,.slice ao e.kids.len cap,.slice ac cells.length cc] 37)=w0 at *;obtain⟨n0,hn0⟩:∃n0,n0=w.heap.size:=⟨_,rfl⟩
 rw[<-hn0] at E0 B0 ⊢;have HN:Hid (n0=w.heap.size):=hn0;clear hn0;obtain⟨p0,p1,p2,p3,p4,pf⟩:=ai E0;by_cases h256:256<cells.length
 ·have hI:(256:Int)<(cells.length:Int):=by omega
  have HZ:Hid (W=0):=by show W=_;rw[HW.out,nD h256]
  clear HW S0 I0 E0;go_wp2;go_ret;rw[HZ.out];exact⟨rfl,by rw[<-HN.out];exact B0⟩
 have hI:¬(256:Int)<(cells.length:Int):=by omega
 obtain⟨ac',cc',he,hcell⟩:=I0;have I0:InA w0 (.slice ac cells.length cc) cells:=⟨ac',cc',he,hcell⟩
 injection he with he1 he2 he3
 subst he1;subst he3;clear he2;go_wp2;go_loopw [3] (fun v wr=>∃k:Nat,k<=cells.length/\v=.int .i64 (k:Nat)/\Hid (∀ j c,j<k->cells[j]?=some c->nlB c=false)/\wr=w0) (fun v _=>cells.length-(intOf v).toNat)
 case atStart=>exact⟨0,by omega,by go_num,fun j c hj=>absurd hj (Nat.not_lt_zero _),rfl⟩
 case round =>
  obtain⟨k,hk,rfl,hno,rfl⟩:=hrel;by_cases hlt:k<cells.length
  ·have hx1:cells[k]?=some cells[k]:=List.getElem?_eq_getElem hlt;rcases hcell with rfl|⟨g1,o1,rfl,-,hg1,hc1⟩
   ·simp at hlt
   have x1:=hc1 k _ hx1;generalize cells[k]=x at x1 hx1;have hkI:(k:Int)<(cells.length:Int):=by omega
   have HX:Hid (cells[k]?=some x):=hx1;clear hx1 hc1;have BADZ:nlB x=true->Hid (W=0):=by
    intro hb;show W=0;rw[HW.out,pg (List.any_eq_true.2 ⟨x,List.mem_of_getElem? HX.out,hb⟩)]
   by_cases h0:x<0
   ·have HZ:=BADZ (by simp[nlB];omega);clear HW hno HX BADZ I0 S0 E0;go_wp2;go_ret;rw[HZ.out];exact⟨rfl,by rw[<-HN.out];exact B0⟩
   by_cases h4:4<x
   ·have HZ:=BADZ (by simp[nlB];omega);clear HW hno HX BADZ I0 S0 E0;go_wp2;go_ret;rw[HZ.out];exact⟨rfl,by rw[<-HN.out];exact B0⟩
   have hn2:Hid (∀ j c,j<k+1->cells[j]?=some c->nlB c=false):=by
    intro j c hj hc;rcases Nat.lt_succ_iff_lt_or_eq.1 hj with h3|rfl
    ·exact hno.out j c h3 hc
    ·rw[HX.out] at hc;injection hc with hc
     rw[<-hc];simp[nlB];omega
   clear HW hno HX BADZ I0 S0 E0;go_wp2;go_roundw
   case rel=>exact⟨k+1,by omega,by go_num,hn2,trivial⟩
   case measure=>simp[intOf];omega
  ·have hkI:¬(k:Int)<(cells.length:Int):=by omega
   have hnl:cells.any nlB=false:=by
    rw[List.any_eq_false];intro c hc;obtain⟨j,hj,h2⟩:=List.mem_iff_getElem.1 hc
    have:=hno.out j c (by omega) (by rw[List.getElem?_eq_getElem hj,h2])
    simp[this]
   have HW2:Hid (W=(match cM cells e 0 0 (0,fun _=>none) with|none=>0|some (_,k)=>k)):=by show W=_;rw[HW.out,np (by omega) (pA hnl)];rfl
   clear HW hno hcell hnl;have mk:∀ w:World,(Instr.makeSlice 102 (.int .i64 (cells.length:Nat)) (.int .i64 (cells.length:Nat))).run Tryz.prog w=.ok (.slice (some ⟨w.heap.size,0,none⟩) cells.length cells.length) (w.alloc (.cells (madeCells (Value.slice none 0 0).cells (cells.length*1)) 32)):=fun w=>by
    have:=run_make (P:=Tryz.prog) w 102 32 ii _ Tryz.underlying102 hii hzi0 .i64 .i64 cells.length cells.length (by omega) (Int.le_refl _) (by rw[hzi2];omega) (by omega)
    rw[hzi1] at this;simpa only[Int.toNat_natCast] using this
   obtain⟨hXs,hXe⟩:=uQ cells.length;generalize madeCells (Value.slice none 0 0).cells (cells.length*1)=X at *;have HXE:Hid (X.size=cells.length/\∀ i,i<cells.length->X[i]?=some (.slice none 0 0)):=⟨hXs,hXe⟩
   clear hXs hXe;have hn4:=lt_of_block E0;have hmk:=mk wr.drew;obtain⟨w2,hw2⟩:∃w2,w2=((wr.alloc (.cells X 32)).alloc (.cells #[.slice ac cells.length cc,.int .i64 0,.slice (some ⟨wr.heap.size,0,none⟩) cells.length cells.length,.bool true] 104)).drew:=⟨_,rfl⟩
   have b2:Below wr.heap.size wr w2:=by rw[hw2];exact(((Below.refl _ wr).alloc (Nat.le_refl _) _).alloc (by simp) _).trans ⟨rfl,rfl,rfl,Nat.le_refl _,fun _ _=>rfl⟩
   have X2:w2.heap[wr.heap.size]?=some (.cells X 32 (0,0)):=by
    rw[hw2];exact(Below.heap_alloc _ _ _ (by simp)).trans (heap_alloc_new wr _)
   have V2:w2.heap[wr.heap.size+1]?=some (.cells #[.slice ac cells.length cc,.int .i64 0,.slice (some ⟨wr.heap.size,0,none⟩) cells.length cells.length,.bool true] 104 (0,0)):=by
    rw[hw2]
    have:=heap_alloc_new (wr.alloc (.cells X 32)) (.cells #[.slice ac cells.length cc,.int .i64 0,.slice (some ⟨wr.heap.size,0,none⟩) cells.length cells.length,.bool true] 104)
    have h2:(wr.alloc (.cells X 32)).heap.size=wr.heap.size+1:=by simp
    rw[h2] at this;exact this
   have WD2:WD w2 (wr.heap.size+1) wr.heap.size (.slice ac cells.length cc) cells.length (some (0,fun _=>none)):=⟨V2,Nat.zero_le _,X,X2,HXE.out.1,fun i hi=>.inl ⟨rfl,HXE.out.2 i hi⟩⟩
   have c4:=py (e.kids.size+1) e ao cap (wr.heap.size+1) wr.heap.size (.slice ac cells.length cc) cells 0 0 (0,fun _=>none) w2 (by omega) hf (by omega) (by omega) (by omega) WD2 (I0.mono (fun i _ hl=>b2.block i hl) b2.size (fun i _ hl=>⟨by omega,by omega⟩)) (S0.mono (fun i _ hl=>b2.block i hl) b2.size (fun i _ hl=>⟨by omega,by omega⟩));rw[ah] at c4;have E2:=(b2.block _ hn4).trans E0;have hs2:=lt_of_block V2;have hnw:Hid (n0<wr.heap.size):=hn4;clear E0 S0 I0 X2 V2 WD2;go_wp2_with fail;go_region_held3 (fun wx=>wx.cell? ⟨n0,4,none⟩=some (.slice ac cells.length cc)) (go_keep) (fail);rw[<-hw2];clear hw2 mk hmk p0 p1 p2 p3 p4 pf HXE;obtain⟨p0,p1,p2,p3,p4,pf⟩:=ai E2;generalize cM cells e 0 0 (0,fun _=>none)=rr at *;go_wp2_with fail;refine c4.mono ?_;rintro z w3 ⟨⟨k',rfl,hk'⟩,W3,K3⟩;have B3:Below n0 w w3:=(B0.trans (b2.mono (Nat.le_of_lt hnw.out))).trans (K3.below (by have:=hnw.out;omega) (Nat.le_of_lt hnw.out) (by have:=hnw.out;omega));clear c4 p0 p1 p2 p3 p4 pf E2 K3 b2;cases rr with
   | none =>
    have HZ:Hid (W=0):=HW2.out;obtain⟨-,p,kv,V3⟩:=W3;obtain⟨q0,q1,q2,q3,qf⟩:=aI V3;clear HW2 hk' V3;go_wp2;go_ret;rw[HZ.out];exact⟨rfl,by rw[<-HN.out];exact B3⟩
   | some zz =>
    obtain⟨s2,k2⟩:=zz;obtain rfl:=hk' s2 k2 rfl;have HZ:Hid (W=k'):=HW2.out;obtain⟨V3,-,-⟩:=W3;obtain⟨q0,q1,q2,q3,qf⟩:=aI V3;clear HW2 hk' V3;go_wp2;go_ret;rw[HZ.out];exact⟨rfl,by rw[<-HN.out];exact B3⟩
theorem uh (e:Ex)(ao:Option Addr)(cap:Nat)(cv:Value)(cells:List Int)(w:World)(hf:cu e)(hc:InA w cv cells)(hcl:cells.length<=1000000000)(S:SnA w e.kids ao) :
  Calls Tryz.prog 39 #[plV e ao cap cv] w fun x w'=>x=.returned (.bool (decide (bO cells e≠0)))/\Below w.heap.size w w':=by
 obtain⟨ac,cc,hcv,hcx⟩:=hc;have hc:InA w cv cells:=⟨ac,cc,hcv,hcx⟩
 subst hcv;clear hcx;have B0:Below w.heap.size w (w.alloc (.cells #[.int .i64 e.k,.int .i64 e.n,stv e.nm,.slice ao e.kids.len cap,.slice ac cells.length cc] 37)):=(Below.refl _ w).alloc (Nat.le_refl _) _;have c1:=yr e ao cap _ cells _ hf (hc.below B0) hcl (SnA.below S B0);generalize bO cells e=W at *;rw[bZ] at c1 ⊢;go_enter Tryz.func39,Tryz.ntmps39;go_wp2_with fail;refine c1.mono ?_;rintro z w1 ⟨rfl,b1⟩;have B1:Below w.heap.size w w1:=B0.trans (b1.mono B0.size);clear c1 b1;by_cases h0:W=0
 ·have hb:(W != 0)=false:=by simpa using h0
  have hd:decide (W≠0)=false:=by simp[h0]
  have HD:Hid (decide (W≠0)=_):=hd;clear hd h0;go_wp2;go_ret;exact⟨by rw[HD.out];simp[hb],B1⟩
 ·have hb:(W != 0)=true:=by simpa using h0
  have hd:decide (W≠0)=true:=by simp[h0]
  have HD:Hid (decide (W≠0)=_):=hd;clear hd h0;go_wp2;go_ret;exact⟨by rw[HD.out];simp[hb],B1⟩
end Go.Proofs.YtbjdkekhnajafaaGreatDoor

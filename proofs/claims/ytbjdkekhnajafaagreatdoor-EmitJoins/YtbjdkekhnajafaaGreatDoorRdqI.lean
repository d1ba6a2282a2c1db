import Derived.Test.YtbjdkekhnajafaaGreatDoorPrgH
set_option maxRecDepth 100000
set_option maxHeartbeats 8000000
namespace Go.Proofs.YtbjdkekhnajafaaGreatDoor
set_option linter.unusedVariables false
set_option linter.unusedSimpArgs false
theorem kindP_inv {cells:List Int}{e:Ex}(h:kindP cells e≠0):cells.length<=256/\(∀ c,c ∈ cells->0<=c/\c<=4)/\∃s,rgE cells e 0 0 (0,fun _=>none)=some (s,kindP cells e)/\kindP cells e≠4:=by
 have h0:=h;unfold kindP at h ⊢;split at h
 ·exact absurd rfl h
 ·rename_i h1
  rw[if_neg h1];have h2:rgF cells (one e) 0 0 0 0 (0,fun _=>none)=_:=rg_ex cells e .nil 0 0 0 0 (0,fun _=>none);have hsp:spotP 0 0 0 0=(0,0):=rfl;rw[hsp] at h2;simp only at h2;refine⟨by omega,?_,?_⟩
  ·intro c hc;have h3:¬(cells.any (fun c=>decide (c<0)||decide (4<c))=true):=fun h=>h1 (.inr h);simp only[List.any_eq_true,not_exists,not_and,Bool.or_eq_true,decide_eq_true_eq] at h3
   have:=h3 c hc
   omega
  ·cases hx:rgE cells e 0 0 (0,fun _=>none) with
   | none=>rw[h2,hx] at h;exact absurd rfl h
   | some z =>
    obtain⟨s,k⟩:=z;rw[h2,hx] at h ⊢;simp only[rgF] at h ⊢;by_cases h4:k=4
    ·rw[if_pos h4] at h;exact absurd rfl h
    ·rw[if_neg h4];exact⟨s,rfl,h4⟩
theorem kindP_knd {cells:List Int}{e:Ex}(h1:cells.length<=256)(h2:∀ c,c ∈ cells->0<=c/\c<=4):kindP cells e=(match kndD cells e 0 0 (0,fun _=>none) with|none=>0|some (_,k)=>k):=by
 unfold kindP;have h3:¬(256<cells.length\/cells.any (fun c=>decide (c<0)||decide (4<c))=true):=by
  rintro (h|h)
  ·omega
  ·simp only[List.any_eq_true,Bool.or_eq_true,decide_eq_true_eq] at h;obtain⟨c,hc,h⟩:=h
   have:=h2 c hc
   omega
 rw[if_neg h3];have h4:rgF cells (one e) 0 0 0 0 (0,fun _=>none)=_:=rg_ex cells e .nil 0 0 0 0 (0,fun _=>none);have hsp:spotP 0 0 0 0=(0,0):=rfl;rw[h4,hsp];unfold kndD;simp only;cases rgE cells e 0 0 (0,fun _=>none) with
 | none=>rfl
 | some z =>
  obtain⟨s,k⟩:=z;simp only[rgF];split<;>rfl
theorem kindP_big {cells:List Int}{e:Ex}(h:256<cells.length):kindP cells e=0:=by unfold kindP;rw[if_pos (.inl h)]
open Go.ChangeShapes Go.WideShapes Go.ChangeAt Go.RowKit Go.Maps
def plV (e:Ex)(ao:Option Addr)(cap:Nat)(cv:Value):Value:=.agg #[.int .i64 e.k,.int .i64 e.n,stv e.nm,.slice ao e.kids.len cap,cv]
theorem plV_out (e:Ex)(ao:Option Addr)(cap:Nat)(cv:Value):plV e ao cap cv=.agg #[.int .i64 e.k,.int .i64 e.n,stv e.nm,.slice ao e.kids.len cap,cv]:=rfl
theorem any_nl (cells:List Int):cells.any (fun c=>decide (c<0)||decide (4<c))=cells.any nlB:=rfl
theorem nl_false {cells:List Int}(h:cells.any nlB=false):∀ c,c ∈ cells->0<=c/\c<=4:=by
 intro c hc;rw[List.any_eq_false] at h
 have:=h c hc
 simp[nlB] at this;omega
theorem kindP_nl {cells:List Int}{e:Ex}(h:cells.any nlB=true):kindP cells e=0:=by
 unfold kindP;rw[if_pos (.inr (by rw[any_nl];exact h))]
theorem kindP_rg {cells:List Int}{e:Ex}(h1:cells.length<=256)(h2:cells.any nlB=false):kindP cells e=(match rgE cells e 0 0 (0,fun _=>none) with|none=>0|some (_,k)=>if k=4 then 0 else k):=by
 rw[kindP_knd h1 (nl_false h2)];unfold kndD;cases rgE cells e 0 0 (0,fun _=>none) with
 | none=>rfl
 | some z =>
  obtain⟨s,k⟩:=z;simp only;by_cases h4:k=4
  ·rw[if_pos h4,if_pos h4]
  ·rw[if_neg h4,if_neg h4]
theorem read_c (e:Ex)(ao:Option Addr)(cap:Nat)(cv:Value)(cells:List Int)(w:World)(hf:FitN e)(hW:Wd w)(hc:InA w cv cells)(hcl:cells.length<=1000000000)(S:SnA w e.kids ao) :
  Calls Tryz.prog 84 #[plV e ao cap cv] w fun x w'=>(∃v,x=.returned (.tuple #[v,.bool (decide (kindP cells e≠0))]))/\Below w.heap.size w w':=by
 obtain⟨W,hZ⟩:∃W,W=decide (kindP cells e≠0):=⟨_,rfl⟩
 rw[<-hZ];have HW:Hid (W=decide (kindP cells e≠0)):=hZ;clear hZ;obtain⟨ac,cc,hcv,hcx⟩:=hc;have hc:InA w cv cells:=⟨ac,cc,hcv,hcx⟩
 subst hcv;clear hcx;have hG:=hW.lt;have B0:Below w.heap.size w (w.alloc (.cells #[.int .i64 e.k,.int .i64 e.n,stv e.nm,.slice ao e.kids.len cap,.slice ac cells.length cc] 37)):=(Below.refl _ w).alloc (Nat.le_refl _) _;have E0:(w.alloc (.cells #[.int .i64 e.k,.int .i64 e.n,stv e.nm,.slice ao e.kids.len cap,.slice ac cells.length cc] 37)).heap[w.heap.size]?=some (.cells #[.int .i64 e.k,.int .i64 e.n,stv e.nm,.slice ao e.kids.len cap,.slice ac cells.length cc] 37):=heap_alloc_new w _;have S0:SlN (w.alloc (.cells #[.int .i64 e.k,.int .i64 e.n,stv e.nm,.slice ao e.kids.len cap,.slice ac cells.length cc] 37)) (Lt0 w.heap.size) e.kids ao:=S.mono (fun i _ hl=>B0.block i hl) B0.size (fun k _ hl=>hl);have N0:Inw (w.alloc (.cells #[.int .i64 e.k,.int .i64 e.n,stv e.nm,.slice ao e.kids.len cap,.slice ac cells.length cc] 37)) (Lt0 w.heap.size) (.slice ac cells.length cc) cells:=hc.mono (fun i _ hl=>B0.block i hl) B0.size (fun k _ hl=>hl);have I0:=hc.below B0;have W0:=hW.below B0;clear S hc hW;rw[plV_out];go_enter Tryz.func84,Tryz.ntmps84;go_upto_region 1 with fail;generalize w.alloc (.cells #[.int .i64 e.k,.int .i64 e.n,stv e.nm,.slice ao e.kids.len cap,.slice ac cells.length cc] 37)=w0 at *;obtain⟨n0,hn0⟩:∃n0,n0=w.heap.size:=⟨_,rfl⟩
 rw[<-hn0] at E0 S0 N0 hG B0 ⊢;have HN:Hid (n0=w.heap.size):=hn0;clear hn0;obtain⟨p0,p1,p2,p3,p4,pf⟩:=box5 E0;by_cases h256:256<cells.length
 ·have hI:(256:Int)<(cells.length:Int):=by omega
  have HZ:Hid (W=false):=by show W=_;rw[HW.out,kindP_big h256];rfl
  clear HW S0 N0 I0 W0 E0;go_wp2;refine bodyPost_ret (v:=.tuple #[.nilIface,.bool false]) (by simp[results,Tryz.results84,go_sem]) rfl ⟨⟨_,by rw[HZ.out]⟩,?_⟩;rw[<-HN.out];exact B0
 have hI:¬(256:Int)<(cells.length:Int):=by omega
 have c1:=containsfunc_c w0 _ cells I0 hcl;go_wp2_with fail;refine c1.mono ?_;rintro z w1 ⟨rfl,rfl⟩;cases hnl:cells.any nlB with
 | true =>
  have HZ:Hid (W=false):=by show W=_;rw[HW.out,kindP_nl hnl];rfl
  clear HW S0 N0 I0 W0 E0 c1;go_wp2;refine bodyPost_ret (v:=.tuple #[.nilIface,.bool false]) (by simp[results,Tryz.results84,go_sem]) rfl ⟨⟨_,by rw[HZ.out]⟩,?_⟩;rw[<-HN.out];exact B0
 | false =>
 have HW2:Hid (W=decide ((match rgE cells e 0 0 (0,fun _=>none) with|none=>0|some (_,k)=>if k=4 then 0 else k)≠0)):=by show W=_;rw[HW.out,kindP_rg (by omega) hnl]
 clear HW c1;have hmm:=@run_makeMap Tryz.prog;obtain⟨w2,hw2⟩:∃w2,w2=(w1.alloc (.map #[] 0)).alloc (.cells #[.slice ac cells.length cc,.map (some w1.heap.size),.int .i64 0] 197):=⟨_,rfl⟩
 have b2:Below w1.heap.size w1 w2:=by rw[hw2];exact((Below.refl _ w1).alloc (Nat.le_refl _) _).alloc (by simp) _
 have M2:MpN w2 (Lt0 n0) w1.heap.size 0 (fun _=>none):=by
  rw[hw2];exact(MpN.made w1 (Lt0 n0)).mono (Below.heap_alloc _ _ _ (by simp)) (fun k _ hl=>Below.heap_alloc _ _ _ hl) (by simp)
 have X2:w2.heap[w1.heap.size+1]?=some (.cells #[.slice ac cells.length cc,.map (some w1.heap.size),.int .i64 0] 197 (0,0)):=by
  rw[hw2]
  have:=heap_alloc_new (w1.alloc (.map #[] 0)) (.cells #[.slice ac cells.length cc,.map (some w1.heap.size),.int .i64 0] 197)
  simpa using this
 have R2:RD w2 n0 (w1.heap.size+1) w1.heap.size (.slice ac cells.length cc) 0 (0,fun _=>none):=⟨X2,⟨0,Nat.le_refl _,M2⟩,by show 0<=4096;omega,fun i y h=>by cases h⟩
 have hlt:=lt_of_block E0;have c4:=partp_ok (e.kids.size+1) e ao cap n0 (w1.heap.size+1) w1.heap.size (.slice ac cells.length cc) cells 0 0 (0,fun _=>none) 0 w2 (by omega) hf (by omega) (by omega) (by omega) (by omega) (by omega) (by omega) hG (W0.below b2) R2 (N0.below b2) (S0.belowP b2);rw[exN_out] at c4;have E2:=(b2.block _ hlt).trans E0;have hmx:n0<=w1.heap.size:=by omega
 have hsz2:w1.heap.size+2<=w2.heap.size:=by have:=lt_of_block X2;omega
 clear E0 S0 N0 I0 W0 M2 X2 R2;go_upto_region 4 with fail;rw[<-hw2];clear hw2 hmm p0 p1 p2 p3 p4 pf;obtain⟨p0,p1,p2,p3,p4,pf⟩:=box5 E2;have hpos:Hid (∀ s k,rgE cells e 0 0 (0,fun _=>none)=some (s,k)->k≠0):=fun s k h=>rgE_pos h;generalize rgE cells e 0 0 (0,fun _=>none)=rr at *;go_wp2_with fail;refine c4.mono ?_;rintro z w3 ⟨⟨v,rfl,hv⟩,-,K3⟩;have B3:Below n0 w w3:=(B0.trans (b2.mono hmx)).trans (K3.below (by omega) hmx (by omega));clear c4 p0 p1 p2 p3 p4 pf E2 K3 b2;cases rr with
 | none =>
  have HZ:Hid (W=false):=by show W=_;rw[HW2.out];rfl
  clear HW2 hv;simp only[Option.isSome_none];go_wp2;refine bodyPost_ret (v:=.tuple #[.nilIface,.bool false]) (by simp[results,Tryz.results84,go_sem]) rfl ⟨⟨_,by rw[HZ.out]⟩,?_⟩;rw[<-HN.out];exact B3
 | some zz =>
  obtain⟨s2,k⟩:=zz;obtain⟨ty,vx,rfl,he⟩:=hv s2 k rfl;have c5:=fun w=>kindof_c k w;simp only[Option.isSome_some];clear hv;go_wp2_with fail;refine(c5 _).mono ?_;rintro z w4 ⟨rfl,b4⟩;have B4:Below n0 w w4:=B3.trans (b4.mono (by have h1:=B3.size;have h2:=HN.out;omega));by_cases h4:k=4
  ·have hb4:(k==4)=true:=by simpa using h4
   have HZ:Hid (W=false):=by show W=_;rw[HW2.out];simp[h4]
   clear HW2 h4 c5;go_wp2;refine bodyPost_ret (v:=.tuple #[.nilIface,.bool false]) (by simp[results,Tryz.results84,go_sem]) rfl ⟨⟨_,by rw[HZ.out]⟩,?_⟩;rw[<-HN.out];exact B4
  ·have hb4:(k==4)=false:=by simpa using h4
   have HZ:Hid (W=true):=by show W=_;rw[HW2.out];simp[h4,hpos.out s2 k rfl]
   clear HW2 h4 c5;go_wp2;refine bodyPost_ret (v:=.tuple #[.iface ty vx,.bool true]) (by simp[results,Tryz.results84,go_sem]) rfl ⟨⟨_,by rw[HZ.out]⟩,?_⟩;rw[<-HN.out];exact B4
theorem rightp_c (e:Ex)(ao:Option Addr)(cap:Nat)(cv:Value)(cells:List Int)(w:World)(hf:FitN e)(hW:Wd w)(hc:InA w cv cells)(hcl:cells.length<=1000000000)(S:SnA w e.kids ao) :
  Calls Tryz.prog 44 #[plV e ao cap cv] w fun x w'=>x=.returned (.bool (decide (kindP cells e≠0)))/\Below w.heap.size w w':=by
 obtain⟨ac,cc,hcv,hcx⟩:=hc;have hc:InA w cv cells:=⟨ac,cc,hcv,hcx⟩
 subst hcv;clear hcx;have B0:Below w.heap.size w (w.alloc (.cells #[.int .i64 e.k,.int .i64 e.n,stv e.nm,.slice ao e.kids.len cap,.slice ac cells.length cc] 37)):=(Below.refl _ w).alloc (Nat.le_refl _) _;have c1:=read_c e ao cap _ cells _ hf (hW.below B0) (hc.below B0) hcl (SnA.below S B0);generalize decide (kindP cells e≠0)=W at *;rw[plV_out] at c1 ⊢;go_enter Tryz.func44,Tryz.ntmps44;go_wp2_with fail;refine c1.mono ?_;rintro z w1 ⟨⟨v,rfl⟩,b1⟩;have B1:Below w.heap.size w w1:=B0.trans (b1.mono B0.size);clear c1 b1;go_wp2;go_ret;exact⟨rfl,B1⟩
open Go.ChangeShapes Go.WideShapes Go.ChangeAt Go.RowKit
def PostOf (w:World)(e:Ex)(x:Ending)(w':World):Prop :=
 if (typA e).2.1=0 then ∃ay cy,x=.returned (.tuple #[plV (ofE e []) ay cy (.slice none 0 0),.int .i64 0])/\SlN w' (Nw w.heap.size) (ofE e []).kids ay/\Below w.heap.size w w'
 else x=.returned (.tuple #[.agg #[.int .i64 0,.int .i64 0,.string ⟨#[]⟩,.slice none 0 0,.slice none 0 0],.int .i64 140])/\Below w.heap.size w w'
theorem of14_c (e:Ex)(ao:Option Addr)(cap:Nat)(w:World)(hf:e.fit)(hsz:e.kids.size<=1000000)(S:SlT w e.kids ao) :
  Calls Tryz.prog 22 #[exV e ao cap] w (PostOf w e):=by
 obtain⟨w0,hw0⟩:∃w0,w0=(w.alloc (.cells #[.int .i64 e.k,.int .i64 e.n,stv e.nm,.slice ao e.kids.len cap,.int .i64 e.a] 25)).alloc (.cells #[.int .i64 0,.int .i64 0,.string ⟨#[]⟩,.slice none 0 0,.slice none 0 0] 37):=⟨_,rfl⟩
 have B0:Below w.heap.size w w0:=by rw[hw0];exact((Below.refl _ w).alloc (Nat.le_refl _) _).alloc (by simp) _
 have E0:w0.heap[w.heap.size]?=some (.cells #[.int .i64 e.k,.int .i64 e.n,stv e.nm,.slice ao e.kids.len cap,.int .i64 e.a] 25 (0,0)):=by
  rw[hw0];exact(Below.heap_alloc _ _ _ (by simp)).trans (heap_alloc_new w _)
 have Z0:w0.heap[w.heap.size+1]?=some (.cells #[.int .i64 0,.int .i64 0,.string ⟨#[]⟩,.slice none 0 0,.slice none 0 0] 37 (0,0)):=by
  rw[hw0]
  have:=heap_alloc_new (w.alloc (.cells #[.int .i64 e.k,.int .i64 e.n,stv e.nm,.slice ao e.kids.len cap,.int .i64 e.a] 25)) (.cells #[.int .i64 0,.int .i64 0,.string ⟨#[]⟩,.slice none 0 0,.slice none 0 0] 37)
  simpa using this
 have S0:=SlT.below S B0;have c1:=rcheck_q e ao cap w0 hf S0;rw[exV_out] at c1 ⊢;go_enter Tryz.func22,Tryz.ntmps22;go_upto_region 1 with fail;rw[<-hw0];clear hw0;obtain⟨n0,hn0⟩:∃n0,n0=w.heap.size:=⟨_,rfl⟩
 rw[<-hn0] at E0 Z0 B0;try rw[<-hn0]
 have HB:Hid (n0=w.heap.size):=hn0;clear hn0;obtain⟨p0,p1,p2,p3,p4,pf⟩:=box5 E0;have HT:Hid (∀ (x:Ending) (w':World),(if (typA e).2.1=0 then ∃ay cy,x=.returned (.tuple #[plV (ofE e []) ay cy (.slice none 0 0),.int .i64 0])/\SlN w' (Nw w.heap.size) (ofE e []).kids ay/\Below w.heap.size w w' else x=.returned (.tuple #[.agg #[.int .i64 0,.int .i64 0,.string ⟨#[]⟩,.slice none 0 0,.slice none 0 0],.int .i64 140])/\Below w.heap.size w w')->PostOf w e x w'):=fun x w' h=>h;generalize typA e=T at *;obtain⟨tk,te,tp⟩:=T;simp only at HT;go_wp2_with fail;refine c1.mono ?_;rintro x w1 ⟨rfl,b1⟩;have hzl:=lt_of_block Z0;have E1:=(b1.block _ (lt_of_block E0)).trans E0;have Z1:=(b1.block _ hzl).trans Z0;have B1:Below n0 w w1:=B0.trans (b1.mono (by omega));have S1:=SlT.below S0 b1;clear c1 b1 E0 Z0 p0 p1 p2 p3 p4 pf S0 B0;obtain⟨p0,p1,p2,p3,p4,pf⟩:=box5 E1;obtain⟨z0,z1,z2,z3,z4,zf⟩:=box5 Z1;simp only[tupT];by_cases hte:te=0
 ·have hb:((te:Int) != 0)=false:=by simp[hte]
  have c2:=node_ok (e.kids.size+1) e ao cap [] (.slice none 0 0) w1 (by omega) hf.len hf.sh (by simp;omega) (Nms.nil w1) S1;rw[exV_out] at c2;have HT2:Hid (∀ (x:Ending) (w':World),(∃ay cy,x=.returned (.tuple #[plV (ofE e []) ay cy (.slice none 0 0),.int .i64 0])/\SlN w' (Nw w.heap.size) (ofE e []).kids ay/\Below w.heap.size w w')->PostOf w e x w'):=fun x w' h=>HT.out x w' (by rw[if_pos hte];exact h);generalize ofE e []=y at *;clear HT S1 hte z0 z1 z2 z3 z4 zf;go_wp2_with fail;refine c2.mono ?_;rintro x w2 ⟨ay,cy,rfl,S2,b2⟩;have Z2:=(b2.block _ (lt_of_block Z1)).trans Z1;have B2:Below n0 w w2:=B1.trans (b2.mono (by have:=lt_of_block Z1;omega));have hz1:=lt_of_block Z1;have HU:Hid (∃wz,wz=(((((w2.setCell ⟨n0+1,0,none⟩ (.int .i64 y.k)).setCell ⟨n0+1,1,none⟩ (.int .i64 y.n)).setCell ⟨n0+1,2,none⟩ (stv y.nm)).setCell ⟨n0+1,3,none⟩ (.slice ay y.kids.len cy)).setCell ⟨n0+1,4,none⟩ (.slice none 0 0))/\wz.cell? ⟨n0+1,0,none⟩=some (.int .i64 y.k)/\wz.cell? ⟨n0+1,1,none⟩=some (.int .i64 y.n)/\wz.cell? ⟨n0+1,2,none⟩=some (stv y.nm)/\wz.cell? ⟨n0+1,3,none⟩=some (.slice ay y.kids.len cy)/\wz.cell? ⟨n0+1,4,none⟩=some (.slice none 0 0)/\PostOf w e (.returned (.tuple #[.agg #[.int .i64 y.k,.int .i64 y.n,stv y.nm,.slice ay y.kids.len cy,.slice none 0 0],.int .i64 0])) wz):=by
   obtain⟨u0,u1,u2,u3,u4,-⟩:=box5 (set5k (.int .i64 y.k) (.int .i64 y.n) (stv y.nm) (.slice ay y.kids.len cy) (.slice none 0 0) Z2);refine⟨_,rfl,u0,u1,u2,u3,u4,HT2.out _ _ ⟨ay,cy,rfl,?_,?_⟩⟩
   ·exact S2.mono (fun k hp _=>heap_set5 w2 (n0+1) k _ _ _ _ _ (by have hp:w1.heap.size<=k:=hp;omega)) (by simp) (fun k hp _=>by have hp:w1.heap.size<=k:=hp;have:=HB.out;show w.heap.size<=k;omega)
   ·rw[<-HB.out];exact(((((B2.setCell (p:=⟨n0+1,0,none⟩) (Nat.le_succ _) _).setCell (p:=⟨n0+1,1,none⟩) (Nat.le_succ _) _).setCell (p:=⟨n0+1,2,none⟩) (Nat.le_succ _) _).setCell (p:=⟨n0+1,3,none⟩) (Nat.le_succ _) _).setCell (p:=⟨n0+1,4,none⟩) (Nat.le_succ _) _)
  obtain⟨z0,z1,z2,z3,z4,zf⟩:=box5 Z2;clear c2 S2 b2 Z2 B2 Z1 E1 B1 p0 p1 p2 p3 p4 pf HT2 hz1;rw[exN_out];go_wp2;obtain⟨wz,hwz,v0,v1,v2,v3,v4,PZ⟩:=HU.out;rw[<-hwz];exact bodyPost_ret (v:=.tuple #[.agg #[.int .i64 y.k,.int .i64 y.n,stv y.nm,.slice ay y.kids.len cy,.slice none 0 0],.int .i64 0]) (by simp[results,Tryz.results22,go_sem,v0,v1,v2,v3,v4]) rfl PZ
 ·have hb:((te:Int) != 0)=true:=by simp;omega
  have HU:Hid (∃wz,wz=(((((w1.setCell ⟨n0+1,0,none⟩ (.int .i64 0)).setCell ⟨n0+1,1,none⟩ (.int .i64 0)).setCell ⟨n0+1,2,none⟩ (.string ⟨#[]⟩)).setCell ⟨n0+1,3,none⟩ (.slice none 0 0)).setCell ⟨n0+1,4,none⟩ (.slice none 0 0))/\wz.cell? ⟨n0+1,0,none⟩=some (.int .i64 0)/\wz.cell? ⟨n0+1,1,none⟩=some (.int .i64 0)/\wz.cell? ⟨n0+1,2,none⟩=some (.string ⟨#[]⟩)/\wz.cell? ⟨n0+1,3,none⟩=some (.slice none 0 0)/\wz.cell? ⟨n0+1,4,none⟩=some (.slice none 0 0)/\PostOf w e (.returned (.tuple #[.agg #[.int .i64 0,.int .i64 0,.string ⟨#[]⟩,.slice none 0 0,.slice none 0 0],.int .i64 140])) wz):=by
   obtain⟨u0,u1,u2,u3,u4,-⟩:=box5 (set5k (.int .i64 0) (.int .i64 0) (.string ⟨#[]⟩) (.slice none 0 0) (.slice none 0 0) Z1);refine⟨_,rfl,u0,u1,u2,u3,u4,HT.out _ _ ?_⟩;rw[if_neg hte,<-HB.out];exact⟨rfl,(((((B1.setCell (p:=⟨n0+1,0,none⟩) (Nat.le_succ _) _).setCell (p:=⟨n0+1,1,none⟩) (Nat.le_succ _) _).setCell (p:=⟨n0+1,2,none⟩) (Nat.le_succ _) _).setCell (p:=⟨n0+1,3,none⟩) (Nat.le_succ _) _).setCell (p:=⟨n0+1,4,none⟩) (Nat.le_succ _) _)⟩
  clear HT hte E1 Z1 B1 S1;go_wp2;obtain⟨wz,hwz,v0,v1,v2,v3,v4,PZ⟩:=HU.out;rw[<-hwz];exact bodyPost_ret (v:=.tuple #[.agg #[.int .i64 0,.int .i64 0,.string ⟨#[]⟩,.slice none 0 0,.slice none 0 0],.int .i64 140]) (by simp[results,Tryz.results22,go_sem,v0,v1,v2,v3,v4]) rfl PZ
def Qd {α:Type}(f:List Tk->Rs α)(st:Sq)(X:α)(st':Sq):Prop:=st'=onw f st/\∀ ts y t,st=.inr ts->f ts=.ok y t->X=y
def Nou {α:Type}(f:List Tk->Rs α)(st:Sq):Prop:=∀ ts,st=.inr ts->f ts≠.out
theorem Nou.fst {α β:Type}{f:List Tk->Rs α}{g:α->List Tk->Rs β}{st:Sq}(h:Nou (fun ts=>(f ts).bind g) st):Nou f st:=fun ts hs e=>h ts hs (by show (f ts).bind g=_;rw[e];rfl)
theorem Nou.snd {α β:Type}{f:List Tk->Rs α}{g:α->List Tk->Rs β}{st st':Sq}{x:α}(h:Nou (fun ts=>(f ts).bind g) st)(q:Qd f st x st'):Nou (g x) st':=by
 obtain⟨rfl,q⟩:=q
 match st with
 | .inl ea=>intro ts hs;cases hs
 | .inr t0 =>
  intro ts hs e;cases hf:f t0 using Rs.on with
  | out=>exact h t0 rfl (by show (f t0).bind g=_;rw[hf];rfl)
  | bad e2 a=>simp[onw,hf,stp] at hs
  | ok y t =>
   have e1:=q t0 y t rfl hf;subst e1;have e2:t=ts:=by simpa [onw,hf,stp] using hs
   subst e2;exact h t0 rfl (by show (f t0).bind g=_;rw[hf];exact e)
theorem Qd.bind {α β:Type}{f:List Tk->Rs α}{g:α->List Tk->Rs β}{st st1 st':Sq}{x:α}{X:β}(p:Qd f st x st1)(q:Qd (g x) st1 X st'):Qd (fun ts=>(f ts).bind g) st X st':=by
 obtain⟨rfl,p⟩:=p;obtain⟨rfl,q⟩:=q
 match st with
 | .inl ea=>exact⟨rfl,fun ts y t hs=>by cases hs⟩
 | .inr t0 =>
  cases hf:f t0 using Rs.on with
  | out =>
   refine⟨by simp[onw,hf,stp,Rs.bind],fun ts y t hs hb=>?_⟩;cases hs;have hb:(f t0).bind g=_:=hb;rw[hf] at hb;cases hb
  | bad e a =>
   refine⟨by simp[onw,hf,stp,Rs.bind],fun ts y t hs hb=>?_⟩;cases hs;have hb:(f t0).bind g=_:=hb;rw[hf] at hb;cases hb
  | ok y t =>
   have e1:=p t0 y t rfl hf;subst e1;refine⟨by simp[onw,hf,stp,Rs.bind],fun ts z t2 hs hb=>?_⟩;cases hs;have hb:(f t0).bind g=_:=hb;rw[hf] at hb;exact q t z t2 (by simp[onw,hf,stp]) hb
theorem Qd.ret {α:Type}(X:α)(st:Sq):Qd (fun t=>.ok X t) st X st:=by
 match st with
 | .inl ea=>exact⟨rfl,fun ts y t hs=>by cases hs⟩
 | .inr t0=>exact⟨rfl,fun ts y t hs hb=>(Rs.ok_inj hb).1⟩
theorem Qd.any {α:Type}[Inhabited α](f:List Tk->Rs α)(st:Sq):∃X,Qd f st X (onw f st):=by
 match st with
 | .inl ea=>exact⟨default,rfl,fun ts y t hs=>by cases hs⟩
 | .inr t0 =>
  cases hf:f t0 using Rs.on with
  | out=>exact⟨default,rfl,fun ts y t hs hb=>by cases hs;rw[hf] at hb;cases hb⟩
  | bad e a=>exact⟨default,rfl,fun ts y t hs hb=>by cases hs;rw[hf] at hb;cases hb⟩
  | ok y t=>exact⟨y,rfl,fun ts z t2 hs hb=>by cases hs;rw[hf] at hb;exact(Rs.ok_inj hb).1⟩
theorem Qd.congr {α:Type}{f g:List Tk->Rs α}{st st':Sq}{X:α}(h:Qd f st X st')(e:∀ ts,st=.inr ts->f ts=g ts):Qd g st X st':=by
 obtain⟨rfl,h⟩:=h
 match st with
 | .inl ea=>exact⟨rfl,fun ts y t hs=>by cases hs⟩
 | .inr t0=>exact⟨by simp only[onw];rw[e t0 rfl],fun ts y t hs hb=>by rw[<-e ts hs] at hb;exact h ts y t hs hb⟩
theorem Nou.congr {α:Type}{f g:List Tk->Rs α}{st:Sq}(h:Nou f st)(e:∀ ts,st=.inr ts->f ts=g ts):Nou g st:=fun ts hs=>by rw[<-e ts hs];exact h ts hs
def PostQ (rb:Nat)(all:List Tk)(o q:Nat)(w:World)(st:Sq)(f:List Tk->Rs Ex)(e:Ending)(w':World):Prop :=
 ∃X ao cap st',e=.returned (exV X ao cap)/\Sl w' (Nw w.heap.size) X.kids ao/\QS w' rb all o q st'/\Keep rb w w'/\Qd f st X st'
def RecQ (rec:Rdr):Prop :=
 ∀ (w:World) (rb:Nat) (all:List Tk) (row o q:Nat) (st:Sq),(∀ x,x ∈ all->TokI x)->1<=row->row<=7->QS w rb all o q st->Nou (rec row o q) st->Calls Tryz.prog 34 #[.pointer (some ⟨rb,0,none⟩),.int .i64 (row:Nat)] w (PostQ rb all o q w st (rec row o q))
theorem QS.alloc {w:World}{rb o q:Nat}{all:List Tk}{st:Sq}(h:QS w rb all o q st)(ob:Obj):QS (w.alloc ob) rb all o q st:=h.below ((Below.refl _ w).alloc (Nat.le_refl _) ob)
theorem Rq.setP {w:World}{rb i:Nat}{o q:Int}{er pl:Nat}{all:List Tk}(h:Rq w rb i o q er pl all)(p:Addr)(v:Value)(hp:rb<p.block):Rq (w.setCell p v) rb i o q er pl all:=by
 obtain⟨g,cap,h1,h2,h4,h5⟩:=h;exact⟨g,cap,(heap_setCell_other w p rb v (by omega)).trans h1,h2,fun j u hu=>(World.cell?_of_block (a:=⟨g,j,none⟩) (heap_setCell_other w p g v (by omega))).trans (h4 j u hu),h5⟩
theorem QS.setP {w:World}{rb o q:Nat}{all:List Tk}{st:Sq}(h:QS w rb all o q st)(p:Addr)(v:Value)(hp:rb<p.block):QS (w.setCell p v) rb all o q st:=by
 match st,h with
 | .inl (er,a),⟨i,o',q',h1,h2⟩=>exact⟨i,o',q',h1.setP p v hp,h2⟩
 | .inr ts,⟨i,pl,h1,h2⟩=>exact⟨i,pl,h1.setP p v hp,h2⟩
theorem QS.set5 {w:World}{rb o q:Nat}{all:List Tk}{st:Sq}(h:QS w rb all o q st){b:Nat}(hb:rb<b)(b0 b1 b2 b3 b4:Value):QS (((((w.setCell ⟨b,0,none⟩ b0).setCell ⟨b,1,none⟩ b1).setCell ⟨b,2,none⟩ b2).setCell ⟨b,3,none⟩ b3).setCell ⟨b,4,none⟩ b4) rb all o q st:=((((h.setP ⟨b,0,none⟩ b0 hb).setP ⟨b,1,none⟩ b1 hb).setP ⟨b,2,none⟩ b2 hb).setP ⟨b,3,none⟩ b3 hb).setP ⟨b,4,none⟩ b4 hb
theorem opens_s {w:World}{rb o q:Nat}{all:List Tk}{x:Tk}{r:List Tk}(s:List UInt8)(hs:s≠[])(hx:x.t=s)(h:QS w rb all o q (.inr (x::r))) :
  Calls Tryz.prog 129 #[.pointer (some ⟨rb,0,none⟩)] w fun e w'=>e=.returned (.tuple #[])/\QS w' rb all (o+1) q (onw (enterT s o) (.inr (x::r)))/\Keep rb w w':=by
 by_cases h64:o=64
 ·subst h64;have e1:onw (enterT s 64) (.inr (x::r))=.inl (121,x.a):=by simp[onw,enterT,hx,stp]
  rw[e1];exact open_no h
 ·have e1:onw (enterT s o) (.inr (x::r))=.inr r:=by simp[onw,enterT,hx,stp,h64]
  rw[e1];exact open_ok (by have:=h.le.1;omega) (by rw[hx];exact hs) h
theorem enter_q {o:Nat}{x:Tk}{r:List Tk}(s:List UInt8):Qd (enterT s o) (.inr (x::r)) x.a (onw (enterT s o) (.inr (x::r))):=by
 refine⟨rfl,fun ts y t hs hb=>?_⟩;cases hs;unfold enterT at hb;by_cases hx:x.t=s
 ·by_cases h64:o=64
  ·simp[hx,h64] at hb
  ·simp[hx,h64] at hb;exact hb.1
 ·simp[hx] at hb
def Ctx {β:Type}(F:List Tk->Rs β)(st0:Sq)(G:List Tk->Rs β)(st:Sq):Prop:=Nou G st/\∀ X st',Qd G st X st'->Qd F st0 X st'
theorem Ctx.start {β:Type}{F:List Tk->Rs β}{st:Sq}(h:Nou F st):Ctx F st F st:=⟨h,fun _ _ q=>q⟩
theorem Ctx.nou {α β:Type}{F:List Tk->Rs β}{st0 st:Sq}{f:List Tk->Rs α}{g:α->List Tk->Rs β}(h:Ctx F st0 (fun ts=>(f ts).bind g) st):Nou f st:=h.1.fst
theorem Ctx.step {α β:Type}{F:List Tk->Rs β}{st0 st st1:Sq}{f:List Tk->Rs α}{g:α->List Tk->Rs β}{x:α}(h:Ctx F st0 (fun ts=>(f ts).bind g) st)(q:Qd f st x st1):Ctx F st0 (g x) st1:=⟨h.1.snd q,fun X st' q2=>h.2 X st' (q.bind q2)⟩
theorem Ctx.fin {β:Type}{F:List Tk->Rs β}{st0 st:Sq}{X:β}(h:Ctx F st0 (fun t=>.ok X t) st):Qd F st0 X st:=h.2 X st (Qd.ret X st)
def PostV (rb:Nat)(all:List Tk)(o q:Nat)(w:World)(st:Sq)(f:List Tk->Rs Nat)(e:Ending)(w':World):Prop :=
 ∃X st',e=.returned (.tuple #[])/\QS w' rb all o q st'/\Keep rb w w'/\Qd f st X st'
theorem postV {rb:Nat}{all:List Tk}{o q:Nat}{w:World}{st:Sq}(f:List Tk->Rs Nat){e:Ending}{w':World}(h:e=.returned (.tuple #[])/\QS w' rb all o q (onw f st)/\Keep rb w w'):PostV rb all o q w st f e w':=by
 obtain⟨X,hX⟩:=Qd.any f st;exact⟨X,_,h.1,h.2.1,h.2.2,hX⟩
theorem take_v {w:World}{rb o q:Nat}{all:List Tk}{st:Sq}(TI:∀ x,x ∈ all->TokI x)(s:List UInt8)(hs:s≠[]/\nameB s=false)(h:QS w rb all o q st) :
  Calls Tryz.prog 247 #[.pointer (some ⟨rb,0,none⟩),stv s] w (PostV rb all o q w st (passT s)):=(take_s TI s hs.1 hs.2 h).mono fun _ _ hh=>postV _ hh
theorem close_v {w:World}{rb o q:Nat}{all:List Tk}{st:Sq}(TI:∀ x,x ∈ all->TokI x)(s:List UInt8)(hs:s≠[]/\nameB s=false)(h:QS w rb all (o+1) q st) :
  Calls Tryz.prog 201 #[.pointer (some ⟨rb,0,none⟩),stv s] w (PostV rb all o q w st (passT s)):=(close_s TI s hs.1 hs.2 h).mono fun _ _ hh=>postV _ hh
theorem bracket_v {w:World}{rb o q:Nat}{all:List Tk}{st:Sq}(TI:∀ x,x ∈ all->TokI x)(s:List UInt8)(hs:s≠[]/\nameB s=false)(h:QS w rb all o q st) :
  Calls Tryz.prog 200 #[.pointer (some ⟨rb,0,none⟩),stv s] w (PostV rb all (o+1) q w st (enterT s o)):=(bracket_s TI s hs.1 hs.2 h).mono fun _ _ hh=>by
 obtain⟨X,hX⟩:=Qd.any (enterT s o) st;exact⟨X,_,hh.1,hh.2.1,hh.2.2,hX⟩
theorem choice_q {rec:Rdr}(R:RecQ rec){w:World}{rb o q:Nat}{all:List Tk}{x:Tk}{r:List Tk}(TI:∀ x,x ∈ all->TokI x)(hx:x.t=[105,102])(h:QS w rb all o q (.inr (x::r)))(hn:Nou (choiceR rec o q) (.inr (x::r))) :
  Calls Tryz.prog 202 #[.pointer (some ⟨rb,0,none⟩),.int .i64 (x.a:Nat)] w (PostQ rb all o q w (.inr (x::r)) (choiceR rec o q)):=by
 have C0:=Ctx.start hn;have q0:=enter_q (o:=o) (x:=x) (r:=r) [105,102];have hrb:=h.lt;have K0:Keep rb w (w.alloc exZ):=(Keep.refl rb w).alloc _;have Z0:(w.alloc exZ).heap[w.heap.size]?=some exZ:=heap_alloc_new w _;have h0:=h.alloc exZ;have c1:=opens_s [105,102] (by decide) hx h0;have C1:=C0.step q0;generalize onw (enterT [105,102] o) (.inr (x::r))=st1 at *;clear C0 q0 hn;go_enter Tryz.func202,Tryz.ntmps202;go_wp2_with fail;refine c1.mono ?_;rintro e w1 ⟨rfl,h1,k1⟩;clear c1;have Z1:=k1.blk Z0 (by have:=K0.size;omega);have K1:=K0.trans k1;clear K0 Z0;have c2:=R _ rb all 1 (o+1) (q) st1 TI (by omega) (by omega) h1 C1.nou;go_wp2_with fail;refine c2.mono ?_;rintro e w2 ⟨x2,ao2,cap2,st2,rfl,S2,h2,k2,Q2⟩;have C2:=C1.step Q2;clear c2 Q2 C1;have S2a:=S2.low (show (w.heap.size+1)<=_ from (by have:=lt_of_block Z1;omega));clear S2;have Z2:=k2.blk Z1 (by have:=K1.size;omega);have K2:=K1.trans k2;clear K1 Z1;have h2a:=h2.alloc (.cells #[.int .i64 x2.k,.int .i64 x2.n,stv x2.nm,.slice ao2 x2.kids.len cap2,.int .i64 x2.a] 25);have K2a:=K2.alloc (.cells #[.int .i64 x2.k,.int .i64 x2.n,stv x2.nm,.slice ao2 x2.kids.len cap2,.int .i64 x2.a] 25);have Z2a:=(Below.heap_alloc w2 (.cells #[.int .i64 x2.k,.int .i64 x2.n,stv x2.nm,.slice ao2 x2.kids.len cap2,.int .i64 x2.a] 25) _ (lt_of_block Z2)).trans Z2;have Y2_a:(World.alloc w2 (.cells #[.int .i64 x2.k,.int .i64 x2.n,stv x2.nm,.slice ao2 x2.kids.len cap2,.int .i64 x2.a] 25)).heap[w2.heap.size]?=some (.cells #[.int .i64 x2.k,.int .i64 x2.n,stv x2.nm,.slice ao2 x2.kids.len cap2,.int .i64 x2.a] 25):=heap_alloc_new w2 _;have S2a_2b:=S2a.allocN (.cells #[.int .i64 x2.k,.int .i64 x2.n,stv x2.nm,.slice ao2 x2.kids.len cap2,.int .i64 x2.a] 25);have hb2:rb<w2.heap.size:=by have:=K2.size;omega
 clear h2 K2 Z2 S2a;rw[exV_out];have c3:=take_v TI [116,104,101,110] ⟨by decide,by decide⟩ h2a;go_wp2_with fail;refine c3.mono ?_;rintro e w3 ⟨x3,st3,rfl,h3,k3,Q3⟩;have C3:=C2.step Q3;clear c3 Q3 C2;have Z3:=k3.blk Z2a (by have:=K2a.size;omega);have K3:=K2a.trans k3;have Y2_3:=k3.blk Y2_a (by omega);have S2a_3:=S2a_2b.keepN k3 (by omega);clear K2a Z2a Y2_a S2a_2b;have c4:=R _ rb all 1 (o+1) (q) st3 TI (by omega) (by omega) h3 C3.nou;go_wp2_with fail;refine c4.mono ?_;rintro e w4 ⟨x4,ao4,cap4,st4,rfl,S4,h4,k4,Q4⟩;have C4:=C3.step Q4;clear c4 Q4 C3;have S4a:=S4.low (show (w.heap.size+1)<=_ from (by have:=lt_of_block Z3;omega));clear S4;have Z4:=k4.blk Z3 (by have:=K3.size;omega);have K4:=K3.trans k4;have Y2_4:=k4.blk Y2_3 (by omega);have S2a_4:=S2a_3.keepN k4 (by omega);clear K3 Z3 Y2_3 S2a_3;have h4a:=h4.alloc (.cells #[.int .i64 x4.k,.int .i64 x4.n,stv x4.nm,.slice ao4 x4.kids.len cap4,.int .i64 x4.a] 25);have K4a:=K4.alloc (.cells #[.int .i64 x4.k,.int .i64 x4.n,stv x4.nm,.slice ao4 x4.kids.len cap4,.int .i64 x4.a] 25);have Z4a:=(Below.heap_alloc w4 (.cells #[.int .i64 x4.k,.int .i64 x4.n,stv x4.nm,.slice ao4 x4.kids.len cap4,.int .i64 x4.a] 25) _ (lt_of_block Z4)).trans Z4;have Y2_4a:=(Below.heap_alloc w4 (.cells #[.int .i64 x4.k,.int .i64 x4.n,stv x4.nm,.slice ao4 x4.kids.len cap4,.int .i64 x4.a] 25) _ (lt_of_block Y2_4)).trans Y2_4;have Y4_a:(World.alloc w4 (.cells #[.int .i64 x4.k,.int .i64 x4.n,stv x4.nm,.slice ao4 x4.kids.len cap4,.int .i64 x4.a] 25)).heap[w4.heap.size]?=some (.cells #[.int .i64 x4.k,.int .i64 x4.n,stv x4.nm,.slice ao4 x4.kids.len cap4,.int .i64 x4.a] 25):=heap_alloc_new w4 _;have S2a_4b:=S2a_4.allocN (.cells #[.int .i64 x4.k,.int .i64 x4.n,stv x4.nm,.slice ao4 x4.kids.len cap4,.int .i64 x4.a] 25);have S4a_4b:=S4a.allocN (.cells #[.int .i64 x4.k,.int .i64 x4.n,stv x4.nm,.slice ao4 x4.kids.len cap4,.int .i64 x4.a] 25);have hb4:rb<w4.heap.size:=by have:=K4.size;omega
 clear h4 K4 Z4 Y2_4 S2a_4 S4a;rw[exV_out];have c5:=take_v TI [101,108,115,101] ⟨by decide,by decide⟩ h4a;go_wp2_with fail;refine c5.mono ?_;rintro e w5 ⟨x5,st5,rfl,h5,k5,Q5⟩;have C5:=C4.step Q5;clear c5 Q5 C4;have Z5:=k5.blk Z4a (by have:=K4a.size;omega);have K5:=K4a.trans k5;have Y2_5:=k5.blk Y2_4a (by omega);have Y4_5:=k5.blk Y4_a (by omega);have S2a_5:=S2a_4b.keepN k5 (by omega);have S4a_5:=S4a_4b.keepN k5 (by omega);clear K4a Z4a Y2_4a Y4_a S2a_4b S4a_4b;have c6:=R _ rb all 1 (o+1) (q) st5 TI (by omega) (by omega) h5 C5.nou;go_wp2_with fail;refine c6.mono ?_;rintro e w6 ⟨x6,ao6,cap6,st6,rfl,S6,h6,k6,Q6⟩;have C6:=C5.step Q6;clear c6 Q6 C5;have S6a:=S6.low (show (w.heap.size+1)<=_ from (by have:=lt_of_block Z5;omega));clear S6;have Z6:=k6.blk Z5 (by have:=K5.size;omega);have K6:=K5.trans k6;have Y2_6:=k6.blk Y2_5 (by omega);have Y4_6:=k6.blk Y4_5 (by omega);have S2a_6:=S2a_5.keepN k6 (by omega);have S4a_6:=S4a_5.keepN k6 (by omega);clear K5 Z5 Y2_5 Y4_5 S2a_5 S4a_5;have h6a:=h6.alloc (.cells #[.int .i64 x6.k,.int .i64 x6.n,stv x6.nm,.slice ao6 x6.kids.len cap6,.int .i64 x6.a] 25);have K6a:=K6.alloc (.cells #[.int .i64 x6.k,.int .i64 x6.n,stv x6.nm,.slice ao6 x6.kids.len cap6,.int .i64 x6.a] 25);have Z6a:=(Below.heap_alloc w6 (.cells #[.int .i64 x6.k,.int .i64 x6.n,stv x6.nm,.slice ao6 x6.kids.len cap6,.int .i64 x6.a] 25) _ (lt_of_block Z6)).trans Z6;have Y2_6a:=(Below.heap_alloc w6 (.cells #[.int .i64 x6.k,.int .i64 x6.n,stv x6.nm,.slice ao6 x6.kids.len cap6,.int .i64 x6.a] 25) _ (lt_of_block Y2_6)).trans Y2_6;have Y4_6a:=(Below.heap_alloc w6 (.cells #[.int .i64 x6.k,.int .i64 x6.n,stv x6.nm,.slice ao6 x6.kids.len cap6,.int .i64 x6.a] 25) _ (lt_of_block Y4_6)).trans Y4_6;have Y6_a:(World.alloc w6 (.cells #[.int .i64 x6.k,.int .i64 x6.n,stv x6.nm,.slice ao6 x6.kids.len cap6,.int .i64 x6.a] 25)).heap[w6.heap.size]?=some (.cells #[.int .i64 x6.k,.int .i64 x6.n,stv x6.nm,.slice ao6 x6.kids.len cap6,.int .i64 x6.a] 25):=heap_alloc_new w6 _;have S2a_6b:=S2a_6.allocN (.cells #[.int .i64 x6.k,.int .i64 x6.n,stv x6.nm,.slice ao6 x6.kids.len cap6,.int .i64 x6.a] 25);have S4a_6b:=S4a_6.allocN (.cells #[.int .i64 x6.k,.int .i64 x6.n,stv x6.nm,.slice ao6 x6.kids.len cap6,.int .i64 x6.a] 25);have S6a_6b:=S6a.allocN (.cells #[.int .i64 x6.k,.int .i64 x6.n,stv x6.nm,.slice ao6 x6.kids.len cap6,.int .i64 x6.a] 25);have hb6:rb<w6.heap.size:=by have:=K6.size;omega
 clear h6 K6 Z6 Y2_6 Y4_6 S2a_6 S4a_6 S6a;rw[exV_out];go_upto_region 7 with fail;generalize (World.alloc w6 (.cells #[.int .i64 x6.k,.int .i64 x6.n,stv x6.nm,.slice ao6 x6.kids.len cap6,.int .i64 x6.a] 25))=v7 at *;obtain⟨o8,d8,df8,h8⟩:=h6a.down;have k8:Keep rb v7 _:=Keep.at v7 2 (.int .i64 (wrap64 (o8-1)));clear h6a;go_upto_region 8 with fail;generalize v7.setCell ⟨rb,2,none⟩ (.int .i64 (wrap64 (o8-1)))=w8 at *;clear d8 df8;have Z8:=k8.blk Z6a (by have:=K6a.size;omega);have K8:=K6a.trans k8;have Y2_8:=k8.blk Y2_6a (by omega);have Y4_8:=k8.blk Y4_6a (by omega);have Y6_8:=k8.blk Y6_a (by omega);have S2a_8:=S2a_6b.keepN k8 (by omega);have S4a_8:=S4a_6b.keepN k8 (by omega);have S6a_8:=S6a_6b.keepN k8 (by omega);clear K6a Z6a Y2_6a Y4_6a Y6_a S2a_6b S4a_6b S6a_6b;have NS:Sl (World.alloc w8 (.cells [.int .i64 x2.k,.int .i64 x2.n,stv x2.nm,.slice ao2 x2.kids.len cap2,.int .i64 x2.a,.int .i64 x4.k,.int .i64 x4.n,stv x4.nm,.slice ao4 x4.kids.len cap4,.int .i64 x4.a,.int .i64 x6.k,.int .i64 x6.n,stv x6.nm,.slice ao6 x6.kids.len cap6,.int .i64 x6.a].toArray 25)) (Nw (w.heap.size+1)) (((one x2).snoc x4).snoc x6) (some ⟨w8.heap.size,0,none⟩):=Sl.fresh _ 25 (Fc.app (Fc.app (Fc.one (e:=x2) cap2 S2a_8) (Fc.one (e:=x4) cap4 S4a_8)) (Fc.one (e:=x6) cap6 S6a_8)) (by have:=lt_of_block Z8;omega);have KF:=K8.alloc (.cells [.int .i64 x2.k,.int .i64 x2.n,stv x2.nm,.slice ao2 x2.kids.len cap2,.int .i64 x2.a,.int .i64 x4.k,.int .i64 x4.n,stv x4.nm,.slice ao4 x4.kids.len cap4,.int .i64 x4.a,.int .i64 x6.k,.int .i64 x6.n,stv x6.nm,.slice ao6 x6.kids.len cap6,.int .i64 x6.a].toArray 25);have RF:=h8.alloc (.cells [.int .i64 x2.k,.int .i64 x2.n,stv x2.nm,.slice ao2 x2.kids.len cap2,.int .i64 x2.a,.int .i64 x4.k,.int .i64 x4.n,stv x4.nm,.slice ao4 x4.kids.len cap4,.int .i64 x4.a,.int .i64 x6.k,.int .i64 x6.n,stv x6.nm,.slice ao6 x6.kids.len cap6,.int .i64 x6.a].toArray 25);have ZF:=(Below.heap_alloc w8 (.cells [.int .i64 x2.k,.int .i64 x2.n,stv x2.nm,.slice ao2 x2.kids.len cap2,.int .i64 x2.a,.int .i64 x4.k,.int .i64 x4.n,stv x4.nm,.slice ao4 x4.kids.len cap4,.int .i64 x4.a,.int .i64 x6.k,.int .i64 x6.n,stv x6.nm,.slice ao6 x6.kids.len cap6,.int .i64 x6.a].toArray 25) _ (lt_of_block Z8)).trans Z8;have KE:=KF.set5 (b:=w.heap.size) (by omega) (.int .i64 19) (.int .i64 0) (stv []) (.slice (some ⟨w8.heap.size,0,none⟩) 3 3) (.int .i64 x.a);have RE:=RF.set5 (b:=w.heap.size) (by omega) (.int .i64 19) (.int .i64 0) (stv []) (.slice (some ⟨w8.heap.size,0,none⟩) 3 3) (.int .i64 x.a);have ZE:=set5k (.int .i64 19) (.int .i64 0) (stv []) (.slice (some ⟨w8.heap.size,0,none⟩) 3 3) (.int .i64 x.a) ZF;have SE:Sl _ (Nw w.heap.size) _ _:=(NS.set5 (b:=w.heap.size) (by omega) (.int .i64 19) (.int .i64 0) (stv []) (.slice (some ⟨w8.heap.size,0,none⟩) 3 3) (.int .i64 x.a)).low (by omega);obtain⟨z0,z1,z2,z3,z4,zf⟩:=box5 ZF;obtain⟨u0,u1,u2,u3,u4,-⟩:=box5 ZE;obtain⟨y00,y01,y02,y03,y04,y0f⟩:=box5 Y2_8;obtain⟨y10,y11,y12,y13,y14,y1f⟩:=box5 Y4_8;obtain⟨y20,y21,y22,y23,y24,y2f⟩:=box5 Y6_8;have FIN:=C6.fin;clear C6 ZE ZF KF RF NS K8 Z8 h8 Y2_8 Y4_8 Y6_8 S2a_8 S4a_8 S6a_8;go_wp2;exact bodyPost_ret (v:=exV ⟨19,0,[],x.a,(((one x2).snoc x4).snoc x6)⟩ (some ⟨w8.heap.size,0,none⟩) 3) (by simp[results,Tryz.results202,go_sem,u0,u1,u2,u3,u4,exV];rfl) rfl ⟨_,_,_,_,rfl,SE,RE,KE,FIN⟩
theorem not_q {rec:Rdr}(R:RecQ rec){w:World}{rb o q:Nat}{all:List Tk}{x:Tk}{r:List Tk}(TI:∀ x,x ∈ all->TokI x)(h:QS w rb all o q (.inr (x::r)))(hn:Nou (prefR rec [110,111,116] 7 3 o q) (.inr (x::r))) :
  Calls Tryz.prog 64 #[.pointer (some ⟨rb,0,none⟩)] w (PostQ rb all o q w (.inr (x::r)) (prefR rec [110,111,116] 7 3 o q)):=by
 have hrb:=h.lt;have K0:Keep rb w (w.alloc exZ):=(Keep.refl rb w).alloc _;have Z0:(w.alloc exZ).heap[w.heap.size]?=some exZ:=heap_alloc_new w _;have h0:=h.alloc exZ;have hs1:w.heap.size<(w.alloc exZ).heap.size:=by simp
 have c0:=is_s TI [110,111,116] (by decide) (by decide) h0;by_cases hx:x.t=[110,111,116]
 ·have EQ:∀ ts,(.inr (x::r):Sq)=.inr ts->prefR rec [110,111,116] 7 3 o q ts=(fun ts=>(enterT [110,111,116] o ts).bind fun a t1=>(rec 3 (o+1) q t1).bind fun kid t2=>.ok ⟨7,0,[],(a:Nat),one kid⟩ t2) ts:=fun ts hs=>by
   cases hs;show (if x.t=[110,111,116] then _ else _)=(enterT [110,111,116] o (x::r)).bind _;by_cases h64:o=64
   ·simp[enterT,hx,h64,Rs.bind]
   ·simp[enterT,hx,h64,Rs.bind]
  have C0:=Ctx.start (hn.congr EQ);have HC:Hid (∀ X st',Qd (fun ts=>(enterT [110,111,116] o ts).bind fun a t1=>(rec 3 (o+1) q t1).bind fun kid t2=>.ok ⟨7,0,[],(a:Nat),one kid⟩ t2) (.inr (x::r)) X st'->Qd (prefR rec [110,111,116] 7 3 o q) (.inr (x::r)) X st'):=fun X st' q=>q.congr fun ts hs=>(EQ ts hs).symm;have q0:=enter_q (o:=o) (x:=x) (r:=r) [110,111,116];have C1:=C0.step q0;have c1:=fun (wx:World) (hh:QS wx rb all o q (.inr (x::r)))=>opens_s [110,111,116] (by decide) hx hh;rw[show isS [110,111,116] (.inr (x::r))=true by simp[isS,hx]] at c0;generalize onw (enterT [110,111,116] o) (.inr (x::r))=st1 at *;clear C0 q0 hn EQ hx;go_enter Tryz.func64,Tryz.ntmps64;go_wp2_with fail;refine c0.mono ?_;rintro e w1 ⟨rfl,b1⟩;clear c0;have k1:=Keep.ofBelow (rb:=rb) b1;have h1:=h0.below b1;clear b1 h0;have Z1:=k1.blk Z0 (by have:=K0.size;omega);have K1:=K0.trans k1;clear K0 Z0;obtain⟨i,g,cap,L,hg,hi,hcL,hcap,hL,hm,d0,d1,-,-,-,⟨-,-,-,t3⟩,hf⟩:=h1.ok;have hiI:(i:Int)<(L:Int):=by omega
  go_wp2_with fail
  go_quiet (fail)
  have b2:Below w1.heap.size w1 (w1.drewN nq):=bdr (Below.refl _ _) nq;have h2:=h1.below b2;have k2:=Keep.ofBelow (rb:=rb) b2;generalize w1.drewN nq=w2 at *;clear b2 h1 d0 d1 t3 hf hm;have Z2:=k2.blk Z1 (by have:=K1.size;omega);have K2:=K1.trans k2;clear K1 Z1;have c3:=c1 _ h2;clear c1;go_wp2_with fail;refine c3.mono ?_;rintro e w3 ⟨rfl,h3,k3⟩;clear c3;have Z3:=k3.blk Z2 (by have:=K2.size;omega);have K3:=K2.trans k3;clear K2 Z2;have c4:=R _ rb all 3 (o+1) (q) st1 TI (by omega) (by omega) h3 C1.nou;go_wp2_with fail;refine c4.mono ?_;rintro e w4 ⟨x4,ao4,cap4,st4,rfl,S4,h4,k4,Q4⟩;have C4:=C1.step Q4;clear c4 Q4 C1;have S4a:=S4.low (show (w.heap.size+1)<=_ from (by have:=lt_of_block Z3;omega));clear S4;have Z4:=k4.blk Z3 (by have:=K3.size;omega);have K4:=K3.trans k4;clear K3 Z3;have h4a:=h4.alloc (.cells #[.int .i64 x4.k,.int .i64 x4.n,stv x4.nm,.slice ao4 x4.kids.len cap4,.int .i64 x4.a] 25);have K4a:=K4.alloc (.cells #[.int .i64 x4.k,.int .i64 x4.n,stv x4.nm,.slice ao4 x4.kids.len cap4,.int .i64 x4.a] 25);have Z4a:=(Below.heap_alloc w4 (.cells #[.int .i64 x4.k,.int .i64 x4.n,stv x4.nm,.slice ao4 x4.kids.len cap4,.int .i64 x4.a] 25) _ (lt_of_block Z4)).trans Z4;have Y4_a:(World.alloc w4 (.cells #[.int .i64 x4.k,.int .i64 x4.n,stv x4.nm,.slice ao4 x4.kids.len cap4,.int .i64 x4.a] 25)).heap[w4.heap.size]?=some (.cells #[.int .i64 x4.k,.int .i64 x4.n,stv x4.nm,.slice ao4 x4.kids.len cap4,.int .i64 x4.a] 25):=heap_alloc_new w4 _;have S4a_4b:=S4a.allocN (.cells #[.int .i64 x4.k,.int .i64 x4.n,stv x4.nm,.slice ao4 x4.kids.len cap4,.int .i64 x4.a] 25);have hb4:rb<w4.heap.size:=by have:=K4.size;omega
  clear h4 K4 Z4 S4a;rw[exV_out];go_upto_region 7 with fail;generalize (World.alloc w4 (.cells #[.int .i64 x4.k,.int .i64 x4.n,stv x4.nm,.slice ao4 x4.kids.len cap4,.int .i64 x4.a] 25))=v5 at *;obtain⟨o6,d6,df6,h6⟩:=h4a.down;have k6:Keep rb v5 _:=Keep.at v5 2 (.int .i64 (wrap64 (o6-1)));clear h4a;go_upto_region 8 with fail;generalize v5.setCell ⟨rb,2,none⟩ (.int .i64 (wrap64 (o6-1)))=w6 at *;clear d6 df6;have Z6:=k6.blk Z4a (by have:=K4a.size;omega);have K6:=K4a.trans k6;have Y4_6:=k6.blk Y4_a (by omega);have S4a_6:=S4a_4b.keepN k6 (by omega);clear K4a Z4a Y4_a S4a_4b;have HX:=HC.out _ _ C4.fin;have NS:Sl (World.alloc w6 (.cells [.int .i64 x4.k,.int .i64 x4.n,stv x4.nm,.slice ao4 x4.kids.len cap4,.int .i64 x4.a].toArray 25)) (Nw (w.heap.size+1)) (one x4) (some ⟨w6.heap.size,0,none⟩):=Sl.fresh _ 25 (Fc.one (e:=x4) cap4 S4a_6) (by have:=lt_of_block Z6;omega);have KF:=K6.alloc (.cells [.int .i64 x4.k,.int .i64 x4.n,stv x4.nm,.slice ao4 x4.kids.len cap4,.int .i64 x4.a].toArray 25);have RF:=h6.alloc (.cells [.int .i64 x4.k,.int .i64 x4.n,stv x4.nm,.slice ao4 x4.kids.len cap4,.int .i64 x4.a].toArray 25);have ZF:=(Below.heap_alloc w6 (.cells [.int .i64 x4.k,.int .i64 x4.n,stv x4.nm,.slice ao4 x4.kids.len cap4,.int .i64 x4.a].toArray 25) _ (lt_of_block Z6)).trans Z6;have KE:=KF.set5 (b:=w.heap.size) (by omega) (.int .i64 7) (.int .i64 0) (stv []) (.slice (some ⟨w6.heap.size,0,none⟩) 1 1) (.int .i64 x.a);have RE:=RF.set5 (b:=w.heap.size) (by omega) (.int .i64 7) (.int .i64 0) (stv []) (.slice (some ⟨w6.heap.size,0,none⟩) 1 1) (.int .i64 x.a);have ZE:=set5k (.int .i64 7) (.int .i64 0) (stv []) (.slice (some ⟨w6.heap.size,0,none⟩) 1 1) (.int .i64 x.a) ZF;have SE:Sl _ (Nw w.heap.size) _ _:=(NS.set5 (b:=w.heap.size) (by omega) (.int .i64 7) (.int .i64 0) (stv []) (.slice (some ⟨w6.heap.size,0,none⟩) 1 1) (.int .i64 x.a)).low (by omega);obtain⟨z0,z1,z2,z3,z4,zf⟩:=box5 ZF;obtain⟨u0,u1,u2,u3,u4,-⟩:=box5 ZE;obtain⟨y00,y01,y02,y03,y04,y0f⟩:=box5 Y4_6;have FIN:=HX;clear HX ZE ZF KF RF NS K6 Z6 h6 Y4_6 S4a_6;go_wp2;exact bodyPost_ret (v:=exV ⟨7,0,[],x.a,(one x4)⟩ (some ⟨w6.heap.size,0,none⟩) 1) (by simp[results,Tryz.results64,go_sem,u0,u1,u2,u3,u4,exV];rfl) rfl ⟨_,_,_,_,rfl,SE,RE,KE,FIN⟩
 ·have EQ:∀ ts,(.inr (x::r):Sq)=.inr ts->prefR rec [110,111,116] 7 3 o q ts=rec 4 o q ts:=fun ts hs=>by
   cases hs;show (if x.t=[110,111,116] then _ else _)=_;rw[if_neg hx]
  have HN:=hn.congr EQ;have HC:Hid (∀ X st',Qd (rec 4 o q) (.inr (x::r)) X st'->Qd (prefR rec [110,111,116] 7 3 o q) (.inr (x::r)) X st'):=fun X st' q=>q.congr fun ts hs=>(EQ ts hs).symm;rw[show isS [110,111,116] (.inr (x::r))=false by simp[isS,hx]] at c0;clear EQ hx hn;go_enter Tryz.func64,Tryz.ntmps64;go_wp2_with fail;refine c0.mono ?_;rintro e w1 ⟨rfl,b1⟩;clear c0;have k1:=Keep.ofBelow (rb:=rb) b1;have h1:=h0.below b1;clear b1 h0;have Z1:=k1.blk Z0 (by have:=K0.size;omega);have K1:=K0.trans k1;clear K0 Z0;have c2:=R _ rb all 4 o q _ TI (by omega) (by omega) h1 HN;go_wp2_with fail;refine c2.mono ?_;rintro e w2 ⟨x2,ao2,cap2,st2,rfl,S2,h2,k2,Q2⟩;have HX:=HC.out _ _ Q2;clear c2 Q2;have S2a:=S2.low (show (w.heap.size+1)<=_ from (by have:=lt_of_block Z1;omega));clear S2;have Z2:=k2.blk Z1 (by have:=K1.size;omega);have K2:=K1.trans k2;clear K1 Z1;have KE:=K2.set5 (b:=w.heap.size) (by omega) (.int .i64 x2.k) (.int .i64 x2.n) (stv x2.nm) (.slice ao2 x2.kids.len cap2) (.int .i64 x2.a);have RE:=h2.set5 (b:=w.heap.size) (by omega) (.int .i64 x2.k) (.int .i64 x2.n) (stv x2.nm) (.slice ao2 x2.kids.len cap2) (.int .i64 x2.a);have ZE:=set5k (.int .i64 x2.k) (.int .i64 x2.n) (stv x2.nm) (.slice ao2 x2.kids.len cap2) (.int .i64 x2.a) Z2;have SE:Sl _ (Nw w.heap.size) _ _:=(S2a.set5 (b:=w.heap.size) (by omega) (.int .i64 x2.k) (.int .i64 x2.n) (stv x2.nm) (.slice ao2 x2.kids.len cap2) (.int .i64 x2.a)).low (by omega);obtain⟨z0,z1,z2,z3,z4,zf⟩:=box5 Z2;obtain⟨u0,u1,u2,u3,u4,-⟩:=box5 ZE;have FIN:=HX;clear ZE K2 Z2 h2 S2a;rw[exV_out];go_wp2;exact bodyPost_ret (v:=exV x2 ao2 cap2) (by simp[results,Tryz.results64,go_sem,u0,u1,u2,u3,u4,exV]) rfl ⟨_,_,_,_,rfl,SE,RE,KE,FIN⟩
end Go.Proofs.YtbjdkekhnajafaaGreatDoor

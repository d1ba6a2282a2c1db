import Derived.Test.YtaihhnlfcndecaaGreatDoorPasM
set_option maxRecDepth 100000
set_option maxHeartbeats 8000000
namespace Go.Proofs.YtaihhnlfcndecaaGreatDoor
open Go.ChangeShapes Go.WideShapes Go.ChangeAt Go.RowKit
set_option linter.unusedVariables false
set_option linter.unusedSimpArgs false
theorem set5Step {I:Nat->Prop}{w:World}{o:Nat->Nat}{b:Nat}(v0 v1 v2 v3 v4:Value)(hb:I (o b)):Step I w o (((((w.setCell ⟨b,0,none⟩ v0).setCell ⟨b,1,none⟩ v1).setCell ⟨b,2,none⟩ v2).setCell ⟨b,3,none⟩ v3).setCell ⟨b,4,none⟩ v4) o :=
 ((((setStep I w o ⟨b,0,none⟩ v0 hb).trans (setStep I _ o ⟨b,1,none⟩ v1 hb)).trans (setStep I _ o ⟨b,2,none⟩ v2 hb)).trans (setStep I _ o ⟨b,3,none⟩ v3 hb)).trans (setStep I _ o ⟨b,4,none⟩ v4 hb)
theorem foldp_end {w w1 w2 w3:World}{n0 cy c3:Nat}{o3:Nat->Nat}{Y:Ex}{cells:List Int}{ay a3:Option Addr}(hB:n0=w.heap.size)(B1:Below n0 w w1)(hz:n0+1<w1.heap.size)(Bw:Below w1.heap.size w1 w2)(S2:SlcN w2 (Nw w1.drew.heap.size) Y.kids ay cy)(R3:Row w3 o3 5 3 1 (.slice a3 cells.length c3) cells.length (cells.map (Value.int .i64)))(s3:Step (fun k=>k=5) w2 (fun _=>0) w3 o3) :
  PasV w Y cells 0 (.returned (.tuple #[plV Y ay cy (.slice a3 cells.length c3),.int .i64 0])) (((((w3.setCell ⟨n0+1,0,none⟩ (.int .i64 Y.k)).setCell ⟨n0+1,1,none⟩ (.int .i64 Y.n)).setCell ⟨n0+1,2,none⟩ (stv Y.nm)).setCell ⟨n0+1,3,none⟩ (.slice ay Y.kids.len cy)).setCell ⟨n0+1,4,none⟩ (.slice a3 cells.length c3)):=by
 have b3:Below w2.heap.size w2 w3:=⟨s3.os,s3.tape,s3.output,s3.size,fun k hk=>s3.block k hk (by decide)⟩
 have hs2:=Bw.size;have hs3:=b3.size;have oz:o3 (n0+1)=0:=s3.lab (n0+1) (by omega)
 have R4:=R3.step (set5Step (I:=fun k=>k=0) (w:=w3) (b:=n0+1) (.int .i64 Y.k) (.int .i64 Y.n) (stv Y.nm) (.slice ay Y.kids.len cy) (.slice a3 cells.length c3) oz) (by decide)
 obtain ⟨g,hg1,hg2⟩:∃g,w2.heap.size<=g/\∀ k,(Value.slice a3 cells.length c3).ownBlock=some k->k=g:=by
  cases hb:(Value.slice a3 cells.length c3).ownBlock with
  | none=>exact ⟨_,Nat.le_refl _,fun k hk=>by cases hk⟩
  | some k0 =>
   refine ⟨k0,?_,fun k hk=>by injection hk with hk;exact hk.symm⟩
   rcases Nat.lt_or_ge k0 w2.heap.size with h|h
   ·have h1:=(s3.lab k0 h).symm.trans (R3.2 k0 hb);cases h1
   ·exact h
 refine ⟨g,ay,cy,_,rfl,S2.mono (fun i hp hl=>?_) ?_ (fun i hp hl=>⟨?_,?_⟩),R4.1,fun k hk=>⟨hg2 k hk,by have:=hg2 k hk;omega⟩,?_⟩
 ·have hp:w1.drew.heap.size<=i:=hp;have hp2:w1.heap.size<=i:=hp;exact (heap_set5 w3 (n0+1) i _ _ _ _ _ (by omega)).trans (b3.block i hl)
 ·simp;omega
 ·have hp:w1.drew.heap.size<=i:=hp;have hp2:w1.heap.size<=i:=hp;omega
 ·omega
 ·rw[<-hB];exact ((((((B1.trans (Bw.mono (by omega))).trans (b3.mono (by omega))).setCell (p:=⟨n0+1,0,none⟩) (Nat.le_succ _) _).setCell (p:=⟨n0+1,1,none⟩) (Nat.le_succ _) _).setCell (p:=⟨n0+1,2,none⟩) (Nat.le_succ _) _).setCell (p:=⟨n0+1,3,none⟩) (Nat.le_succ _) _).setCell (p:=⟨n0+1,4,none⟩) (Nat.le_succ _) _
theorem foldp_c (e:Ex)(ao:Option Addr)(cap:Nat)(cv:Value)(cells:List Int)(w:World)(hf:FitN e)(hn:In64 e.n)(hrn:e.kids.rng)(hW:Wd w)(hc:InA w cv cells)(hcl:cells.length<=100000)(S:SnA w e.kids ao) :
  Calls Tryz.prog 18 #[plV e ao cap cv] w (PasV w (pasY (decide (kindP cells e≠0)) (fldE rulP e)) (pasC (decide (kindP cells e≠0)) cells) (pasR (decide (kindP cells e≠0)))):=by
 obtain ⟨ac,cc,hcv,hcx⟩:=hc;have hc:InA w cv cells:=⟨ac,cc,hcv,hcx⟩;subst hcv;clear hcx;obtain ⟨w0,hw0⟩:∃w0,w0=(w.alloc (.cells #[.int .i64 e.k,.int .i64 e.n,stv e.nm,.slice ao e.kids.len cap,.slice ac cells.length cc] 37)).alloc (.cells #[.int .i64 0,.int .i64 0,.string ⟨#[]⟩,.slice none 0 0,.slice none 0 0] 37):=⟨_,rfl⟩;have B0:Below w.heap.size w w0:=by rw[hw0];exact ((Below.refl _ w).alloc (Nat.le_refl _) _).alloc (by simp) _
 have P0:w0.heap[w.heap.size]?=some (.cells #[.int .i64 e.k,.int .i64 e.n,stv e.nm,.slice ao e.kids.len cap,.slice ac cells.length cc] 37 (0,0)):=by
  rw[hw0];exact (Below.heap_alloc _ _ _ (by simp)).trans (heap_alloc_new w _)
 have Z0:w0.heap[w.heap.size+1]?=some (.cells #[.int .i64 0,.int .i64 0,.string ⟨#[]⟩,.slice none 0 0,.slice none 0 0] 37 (0,0)):=by
  rw[hw0]
  have:=heap_alloc_new (w.alloc (.cells #[.int .i64 e.k,.int .i64 e.n,stv e.nm,.slice ao e.kids.len cap,.slice ac cells.length cc] 37)) (.cells #[.int .i64 0,.int .i64 0,.string ⟨#[]⟩,.slice none 0 0,.slice none 0 0] 37)
  simpa using this
 have hc0:=hc.below B0;have c1:=rightp_c e ao cap _ cells w0 hf (hW.below B0) hc0 (by omega) (SnA.below S B0)
 rw[plV_out] at c1 ⊢;go_enter Tryz.func18,Tryz.ntmps18;go_upto_region 1 with fail;rw[<-hw0];clear hw0;obtain ⟨n0,hn0⟩:∃n0,n0=w.heap.size:=⟨_,rfl⟩;rw[<-hn0] at P0 Z0 B0
 try rw[<-hn0]
 have HB:Hid (n0=w.heap.size):=hn0;clear hn0;obtain ⟨p0,p1,p2,p3,p4,pf⟩:=box5 P0;go_wp2_with fail;refine c1.mono ?_;rintro x w1 ⟨rfl,b1⟩;have hzl:=lt_of_block Z0;have hs1:=b1.size;have P1:=(b1.block _ (lt_of_block P0)).trans P0;have Z1:=(b1.block _ hzl).trans Z0;have B1:Below n0 w w1:=B0.trans (b1.mono (by omega))
 have hc1:=hc0.below b1;have S1:=SnA.below (SnA.below S (by rw[<-HB.out];exact B0)) b1
 have hz1:n0+1<w1.heap.size:=lt_of_block Z1;clear c1 b1 P0 Z0 p0 p1 p2 p3 p4 pf hc0 B0 hzl hs1 hc S;by_cases hk:kindP cells e=0
 ·have hd:decide (kindP cells e≠0)=false:=by simp[hk]
  rw[hd];have HP:Hid (∀ wz,Below n0 w1 wz->PasV w (pasY (decide (kindP cells e≠0)) (fldE rulP e)) (pasC (decide (kindP cells e≠0)) cells) (pasR (decide (kindP cells e≠0))) (.returned (.tuple #[.agg #[.int .i64 0,.int .i64 0,.string ⟨#[]⟩,.slice none 0 0,.slice none 0 0],.int .i64 140])) wz):=fun wz bz=>by
   have bw:Below w.heap.size w wz:=by rw[<-HB.out];exact B1.trans bz
   rw[hd];exact ⟨0,none,0,.slice none 0 0,rfl,.inl ⟨rfl,rfl,rfl⟩,World.ownsRow_nil _ _ _ _,fun k hk=>by simp[Value.ownBlock] at hk,bw⟩
  have HU:Hid (∃wz,wz=(((((w1.setCell ⟨n0+1,0,none⟩ (.int .i64 0)).setCell ⟨n0+1,1,none⟩ (.int .i64 0)).setCell ⟨n0+1,2,none⟩ (.string ⟨#[]⟩)).setCell ⟨n0+1,3,none⟩ (.slice none 0 0)).setCell ⟨n0+1,4,none⟩ (.slice none 0 0))/\wz.cell? ⟨n0+1,0,none⟩=some (.int .i64 0)/\wz.cell? ⟨n0+1,1,none⟩=some (.int .i64 0)/\wz.cell? ⟨n0+1,2,none⟩=some (.string ⟨#[]⟩)/\wz.cell? ⟨n0+1,3,none⟩=some (.slice none 0 0)/\wz.cell? ⟨n0+1,4,none⟩=some (.slice none 0 0)/\Below n0 w1 wz):=by
   obtain ⟨u0,u1,u2,u3,u4,-⟩:=box5 (set5k (.int .i64 0) (.int .i64 0) (.string ⟨#[]⟩) (.slice none 0 0) (.slice none 0 0) Z1);exact ⟨_,rfl,u0,u1,u2,u3,u4,(((((Below.refl n0 w1).setCell (p:=⟨n0+1,0,none⟩) (Nat.le_succ _) _).setCell (p:=⟨n0+1,1,none⟩) (Nat.le_succ _) _).setCell (p:=⟨n0+1,2,none⟩) (Nat.le_succ _) _).setCell (p:=⟨n0+1,3,none⟩) (Nat.le_succ _) _).setCell (p:=⟨n0+1,4,none⟩) (Nat.le_succ _) _⟩
  obtain ⟨z0,z1,z2,z3,z4,zf⟩:=box5 Z1;clear hk hd B1 P1 Z1 hc1 S1;go_wp2;obtain ⟨wz,hwz,v0,v1,v2,v3,v4,bz⟩:=HU.out;rw[<-hwz];exact bodyPost_ret (v:=.tuple #[.agg #[.int .i64 0,.int .i64 0,.string ⟨#[]⟩,.slice none 0 0,.slice none 0 0],.int .i64 140]) (by simp[results,Tryz.results18,go_sem,v0,v1,v2,v3,v4]) rfl (HP.out wz bz)
 ·have hd:decide (kindP cells e≠0)=true:=by simp[hk]
  rw[hd];obtain ⟨hcl2,-,s0,hrg,-⟩:=kindP_inv hk;have hT:=rgE_ty hrg hn hrn;clear hrg hd;obtain ⟨Y,hY⟩:∃Y,Y=fldE rulP e:=⟨_,rfl⟩;have hcF:=fun (wx:World) (hx:SnA wx e.kids ao)=>folded_ok (e.kids.size+1) e _ ao cap wx hT (by omega) hf.len hf.sh hx
  simp only[exN_out] at hcF;rw[<-hY] at hcF;have HE:Hid (∀ x w',PasV w Y cells 0 x w'->PasV w (pasY (decide (kindP cells e≠0)) (fldE rulP e)) (pasC (decide (kindP cells e≠0)) cells) (pasR (decide (kindP cells e≠0))) x w'):=fun x w' h=>by rw[decide_eq_true hk,<-hY];exact h
  clear hY hT hf hn hrn hk hW;go_upto_region 3 with fail;obtain ⟨p0,p1,p2,p3,p4,pf⟩:=box5 P1;have hpl:n0<w1.heap.size:=lt_of_block P1;have Bd:Below w1.heap.size w1 w1.drew:=⟨rfl,rfl,rfl,Nat.le_refl _,fun _ _=>rfl⟩
  have k0:w1.cell? ⟨n0,0,none⟩=some (.int .i64 e.k)/\w1.cell? ⟨n0,1,none⟩=some (.int .i64 e.n)/\w1.cell? ⟨n0,2,none⟩=some (stv e.nm)/\w1.cell? ⟨n0,3,none⟩=some (.slice ao e.kids.len cap)/\w1.cell? ⟨n0,4,none⟩=some (.slice ac cells.length cc):=⟨p0,p1,p2,p3,p4⟩;have k1:w1.drew.cell? ⟨n0,0,none⟩=some (.int .i64 e.k)/\w1.drew.cell? ⟨n0,1,none⟩=some (.int .i64 e.n)/\w1.drew.cell? ⟨n0,2,none⟩=some (stv e.nm)/\w1.drew.cell? ⟨n0,3,none⟩=some (.slice ao e.kids.len cap)/\w1.drew.cell? ⟨n0,4,none⟩=some (.slice ac cells.length cc):=k0
  go_region_held3 (fun wx=>wx.cell? ⟨n0,0,none⟩=some (.int .i64 e.k)/\wx.cell? ⟨n0,1,none⟩=some (.int .i64 e.n)/\wx.cell? ⟨n0,2,none⟩=some (stv e.nm)/\wx.cell? ⟨n0,3,none⟩=some (.slice ao e.kids.len cap)/\wx.cell? ⟨n0,4,none⟩=some (.slice ac cells.length cc)) (first|(with_reducible exact k3)|(with_reducible exact set5_keep k3)|(with_reducible exact k2)|(with_reducible exact k1)|(with_reducible exact k0)) ((first|(go_at_call 40;refine (hcF _ (S1.belowP Bd)).mono ?_;rintro x w2 ⟨ay,cy,rfl,S2,b2⟩;have Bw:Below w1.heap.size w1 w2:=Bd.trans (b2.mono (by simp));have k2:w2.cell? ⟨n0,0,none⟩=some (.int .i64 e.k)/\w2.cell? ⟨n0,1,none⟩=some (.int .i64 e.n)/\w2.cell? ⟨n0,2,none⟩=some (stv e.nm)/\w2.cell? ⟨n0,3,none⟩=some (.slice ao e.kids.len cap)/\w2.cell? ⟨n0,4,none⟩=some (.slice ac cells.length cc):=⟨(Bw.cell (p:=⟨n0,0,none⟩) hpl).trans p0,(Bw.cell (p:=⟨n0,1,none⟩) hpl).trans p1,(Bw.cell (p:=⟨n0,2,none⟩) hpl).trans p2,(Bw.cell (p:=⟨n0,3,none⟩) hpl).trans p3,(Bw.cell (p:=⟨n0,4,none⟩) hpl).trans p4⟩;rw[exN_out])|(go_at_call 41;refine (clonei_c w2 _ cells (fun _=>0) (hc1.below Bw) (by omega)).mono ?_;rintro x w3 ⟨v3,o3,rfl,R3,s3⟩;obtain ⟨a3,c3,rfl⟩:=R3.form;have b3:Below w1.heap.size w1 w3:=Bw.trans ((⟨s3.os,s3.tape,s3.output,s3.size,fun k hk=>s3.block k hk (by decide)⟩:Below w2.heap.size w2 w3).mono Bw.size);have k3:w3.cell? ⟨n0,0,none⟩=some (.int .i64 e.k)/\w3.cell? ⟨n0,1,none⟩=some (.int .i64 e.n)/\w3.cell? ⟨n0,2,none⟩=some (stv e.nm)/\w3.cell? ⟨n0,3,none⟩=some (.slice ao e.kids.len cap)/\w3.cell? ⟨n0,4,none⟩=some (.slice ac cells.length cc):=⟨(b3.cell (p:=⟨n0,0,none⟩) hpl).trans p0,(b3.cell (p:=⟨n0,1,none⟩) hpl).trans p1,(b3.cell (p:=⟨n0,2,none⟩) hpl).trans p2,(b3.cell (p:=⟨n0,3,none⟩) hpl).trans p3,(b3.cell (p:=⟨n0,4,none⟩) hpl).trans p4⟩;have Z3:=(b3.block _ hz1).trans Z1;obtain ⟨z0,z1,z2,z3,z4,zf⟩:=box5 Z3)))
  all_goals (
   have HU:Hid (∃wz,wz=(((((w3.setCell ⟨n0+1,0,none⟩ (.int .i64 Y.k)).setCell ⟨n0+1,1,none⟩ (.int .i64 Y.n)).setCell ⟨n0+1,2,none⟩ (stv Y.nm)).setCell ⟨n0+1,3,none⟩ (.slice ay Y.kids.len cy)).setCell ⟨n0+1,4,none⟩ (.slice a3 cells.length c3))/\wz.cell? ⟨n0+1,0,none⟩=some (.int .i64 Y.k)/\wz.cell? ⟨n0+1,1,none⟩=some (.int .i64 Y.n)/\wz.cell? ⟨n0+1,2,none⟩=some (stv Y.nm)/\wz.cell? ⟨n0+1,3,none⟩=some (.slice ay Y.kids.len cy)/\wz.cell? ⟨n0+1,4,none⟩=some (.slice a3 cells.length c3)/\PasV w Y cells 0 (.returned (.tuple #[plV Y ay cy (.slice a3 cells.length c3),.int .i64 0])) wz):=by
    obtain ⟨u0,u1,u2,u3,u4,-⟩:=box5 (set5k (.int .i64 Y.k) (.int .i64 Y.n) (stv Y.nm) (.slice ay Y.kids.len cy) (.slice a3 cells.length c3) Z3);exact ⟨_,rfl,u0,u1,u2,u3,u4,foldp_end HB.out B1 hz1 Bw S2 R3 s3⟩
   clear S2 R3 s3 b3 Bw;go_wp2;obtain ⟨wz,hwz,v0,v1,v2,v3,v4,PZ⟩:=HU.out;rw[<-hwz];exact bodyPost_ret (v:=.tuple #[plV Y ay cy (.slice a3 cells.length c3),.int .i64 0]) (by simp[results,Tryz.results18,go_sem,v0,v1,v2,v3,v4,plV]) rfl (HE.out _ _ PZ))
theorem single_c (e x:Ex)(ao:Option Addr)(cap:Nat)(P:Nat->Prop)(w:World)(hke:e.k=6\/e.k=7\/e.k=26)(hk:e.kids=Fs.ex x .nil)(h77:e.k=7->x.k=7->∃z,x.kids=Fs.ex z .nil)(hxn:x.k=1->In64 x.n)(S:SlcN w P e.kids ao cap) :
  Calls Tryz.prog 69 #[exN e ao cap] w (PostRu w w P (siE e x)):=by
 have S2:=S;rw[hk] at S2;obtain ⟨b,a0,c0,hao,hb,x0,x1,x2,x3,SX⟩:=SlcN.kidM (d:=.nil) (y:=x) S2;subst hao;have hl0:(0:Int)<(e.kids.len:Int):=by rw[hk];show (0:Int)<((1:Nat):Int);decide
 obtain ⟨w0,hw0⟩:∃w0,w0=(w.alloc (.cells #[.int .i64 e.k,.int .i64 e.n,stv e.nm,.slice (some ⟨b,0,none⟩) e.kids.len cap] 34)).alloc (.cells #[.int .i64 0,.int .i64 0,.string ⟨#[]⟩,.slice none 0 0] 34):=⟨_,rfl⟩;have B0:Below w.heap.size w w0:=by rw[hw0];exact ((Below.refl _ w).alloc (Nat.le_refl _) _).alloc (by simp) _
 have E0:w0.heap[w.heap.size]?=some (.cells #[.int .i64 e.k,.int .i64 e.n,stv e.nm,.slice (some ⟨b,0,none⟩) e.kids.len cap] 34 (0,0)):=by rw[hw0];exact (Below.heap_alloc _ _ _ (by simp)).trans (heap_alloc_new w _)
 have Z0:w0.heap[w.heap.size+1]?=some (.cells #[.int .i64 0,.int .i64 0,.string ⟨#[]⟩,.slice none 0 0] 34 (0,0)):=by
  rw[hw0]
  have:=heap_alloc_new (w.alloc (.cells #[.int .i64 e.k,.int .i64 e.n,stv e.nm,.slice (some ⟨b,0,none⟩) e.kids.len cap] 34)) (.cells #[.int .i64 0,.int .i64 0,.string ⟨#[]⟩,.slice none 0 0] 34)
  simpa using this
 clear S2 hk;rw[exN_out];go_enter Tryz.func69,Tryz.ntmps69;go_upto_region 1 with fail;rw[<-hw0];obtain ⟨bx,hbx⟩:∃bx,bx=w.heap.size:=⟨_,rfl⟩;rw[<-hbx] at E0 Z0 B0 hb
 try rw[<-hbx]
 have HB:Hid (bx=w.heap.size):=hbx;clear hbx hw0;have hlx:(Fs.len (.nil:Fs))=0:=rfl;rw[hlx] at x0 x1 x2 x3;have x0:=(B0.cell (p:=⟨b,0*4,none⟩) hb).trans x0;have x1:=(B0.cell (p:=⟨b,0*4+1,none⟩) hb).trans x1;have x2:=(B0.cell (p:=⟨b,0*4+2,none⟩) hb).trans x2;have x3:=(B0.cell (p:=⟨b,0*4+3,none⟩) hb).trans x3;simp only[Nat.zero_mul,Nat.zero_add,Nat.one_mul,Nat.reduceAdd] at x0 x1 x2 x3;have hb0:b<w0.heap.size:=Nat.lt_trans hb (lt_of_block E0);obtain ⟨p0,p1,p2,p3,pf⟩:=box4 E0;have l1:bx<w0.heap.size:=lt_of_block E0;have l2:bx<w0.heap.size+1:=Nat.lt_succ_of_lt l1;have l3:b<w0.heap.size+1:=Nat.lt_succ_of_lt hb0;go_upto_region 2 with fail;obtain ⟨w1,hw1⟩:∃w1,w1=w0.alloc (.cells #[.int .i64 x.k,.int .i64 x.n,stv x.nm,.slice a0 x.kids.len c0] 34):=⟨_,rfl⟩;obtain ⟨p,hp⟩:∃p,p=w0.heap.size:=⟨_,rfl⟩;have B1:Below bx w w1:=by rw[hw1];exact B0.alloc (Nat.le_of_lt l1) _
 have D1:Below w0.heap.size w0 w1:=by rw[hw1];exact (Below.refl _ w0).alloc (Nat.le_refl _) _
 have L1:w1.heap[p]?=some (.cells #[.int .i64 x.k,.int .i64 x.n,stv x.nm,.slice a0 x.kids.len c0] 34 (0,0)):=by
  rw[hw1,hp];exact heap_alloc_new w0 _
 have E1:=(D1.block bx l1).trans E0;have Z1:=(D1.block (bx+1) (lt_of_block Z0)).trans Z0;rw[<-hw1,<-hp];clear hw1 hp D1 B0 E0 Z0 l1 l2 l3 hb0 hb p0 p1 p2 p3 pf x0 x1 x2 x3;rcases hke with k6|k7|k26
 ·have t6:(e.k==6)=true:=by simpa using k6
  by_cases hx1:x.k=1
  ·have tx:(x.k==1)=true:=by simpa using hx1
   by_cases hl:x.n=-9223372036854775808
   ·have tl:(x.n != -9223372036854775808)=false:=by simp[hl]
    have hans:Hid (siE e x=e):=by show _=_;unfold siE;rw[if_pos k6,if_neg (fun h=>h.2 hl)]
    clear k6 hx1 hl;have HU:=rule_hu e (some ⟨b,0,none⟩) cap Z1 B1;obtain ⟨p0,p1,p2,p3,pf⟩:=box4 E1;obtain ⟨r0,r1,r2,r3,rf⟩:=box4 L1;obtain ⟨z0,z1,z2,z3,zf⟩:=box4 Z1;clear Z1 E1 L1;go_wp2;obtain ⟨wz,hwz,v0,v1,v2,v3,BZ⟩:=HU.out;rw[<-hwz];rw[HB.out] at BZ;exact bodyPost_ret (v:=exN e (some ⟨b,0,none⟩) cap) (by simp[results,Tryz.results69,go_sem,v0,v1,v2,v3,exN]) rfl ⟨(some ⟨b,0,none⟩),cap,by rw[hans.out],by rw[hans.out];exact S,BZ⟩
   ·have tl:(x.n != -9223372036854775808)=true:=by simp[hl]
    have hans:Hid (siE e x=numE (-x.n)):=by show _=_;unfold siE;rw[if_pos k6,if_pos ⟨hx1,hl⟩]
    have hwn:IntKind.i64.wrap (-x.n)=-x.n:=by have:=hxn hx1;unfold In64 at this;rw[IntKind.wrap_i64];omega
    have hr1:=(hxn hx1).1;have hr2:=(hxn hx1).2;clear k6 hx1;have hc:Calls Tryz.prog _ _ _ (fun xx w'=>xx=.returned (.agg #[.int .i64 1,.int .i64 (-x.n),.string ⟨#[]⟩,.slice none 0 0])/\Below _ _ w'):=number_c (-x.n) w1
    obtain ⟨p0,p1,p2,p3,pf⟩:=box4 E1;obtain ⟨r0,r1,r2,r3,rf⟩:=box4 L1;go_wp2_with fail;refine hc.mono ?_;rintro u w9 ⟨rfl,b9⟩;have B9:Below bx w w9:=B1.trans (b9.mono (Nat.le_of_lt (lt_of_block E1)));have Z1:=(b9.block _ (lt_of_block Z1)).trans Z1;have HU:=rule_hc 1 (-x.n) Z1 B9;obtain ⟨z0,z1,z2,z3,zf⟩:=box4 Z1;clear hc b9 Z1 E1 L1 B9 p0 p1 p2 p3 pf r0 r1 r2 r3 rf;go_wp2;obtain ⟨wz,hwz,v0,v1,v2,v3,BZ⟩:=HU.out;rw[<-hwz];rw[HB.out] at BZ;exact bodyPost_ret (v:=.agg #[.int .i64 1,.int .i64 (-x.n),.string ⟨#[]⟩,.slice none 0 0]) (by simp[results,Tryz.results69,go_sem,v0,v1,v2,v3]) rfl ⟨none,0,by rw[hans.out];rfl,by rw[hans.out];exact SlcN.nil _ _,BZ⟩
  ·have tx:(x.k==1)=false:=by simpa using hx1
   have hans:Hid (siE e x=e):=by show _=_;unfold siE;rw[if_pos k6,if_neg (fun h=>hx1 h.1)]
   clear k6 hx1;have HU:=rule_hu e (some ⟨b,0,none⟩) cap Z1 B1;obtain ⟨p0,p1,p2,p3,pf⟩:=box4 E1;obtain ⟨r0,r1,r2,r3,rf⟩:=box4 L1;obtain ⟨z0,z1,z2,z3,zf⟩:=box4 Z1;clear Z1 E1 L1;go_wp2;obtain ⟨wz,hwz,v0,v1,v2,v3,BZ⟩:=HU.out;rw[<-hwz];rw[HB.out] at BZ;exact bodyPost_ret (v:=exN e (some ⟨b,0,none⟩) cap) (by simp[results,Tryz.results69,go_sem,v0,v1,v2,v3,exN]) rfl ⟨(some ⟨b,0,none⟩),cap,by rw[hans.out],by rw[hans.out];exact S,BZ⟩
 ·have t6:(e.k==6)=false:=by simp;omega
  have t7:(e.k==7)=true:=by simpa using k7
  by_cases hx2:x.k=2
  ·have tx:(x.k==2)=true:=by simpa using hx2
   cases hb0:(x.n==0) with
   | true =>
    have hans:Hid (siE e x=truE true):=by show _=_;unfold siE;rw[if_neg (by omega),if_pos k7,if_pos hx2,hb0]
    clear k7 hx2;have hc:Calls Tryz.prog _ _ _ (fun xx w'=>xx=.returned (.agg #[.int .i64 2,.int .i64 (1),.string ⟨#[]⟩,.slice none 0 0])/\Below _ _ w'):=truthr_c true w1
    obtain ⟨p0,p1,p2,p3,pf⟩:=box4 E1;obtain ⟨r0,r1,r2,r3,rf⟩:=box4 L1;go_wp2_with fail;refine hc.mono ?_;rintro u w9 ⟨rfl,b9⟩;have B9:Below bx w w9:=B1.trans (b9.mono (Nat.le_of_lt (lt_of_block E1)));have Z1:=(b9.block _ (lt_of_block Z1)).trans Z1;have HU:=rule_hc 2 (1) Z1 B9;obtain ⟨z0,z1,z2,z3,zf⟩:=box4 Z1;clear hc b9 Z1 E1 L1 B9 p0 p1 p2 p3 pf r0 r1 r2 r3 rf;go_wp2;obtain ⟨wz,hwz,v0,v1,v2,v3,BZ⟩:=HU.out;rw[<-hwz];rw[HB.out] at BZ;exact bodyPost_ret (v:=.agg #[.int .i64 2,.int .i64 (1),.string ⟨#[]⟩,.slice none 0 0]) (by simp[results,Tryz.results69,go_sem,v0,v1,v2,v3]) rfl ⟨none,0,by rw[hans.out];rfl,by rw[hans.out];exact SlcN.nil _ _,BZ⟩
   | false =>
    have hans:Hid (siE e x=truE false):=by show _=_;unfold siE;rw[if_neg (by omega),if_pos k7,if_pos hx2,hb0]
    clear k7 hx2;have hc:Calls Tryz.prog _ _ _ (fun xx w'=>xx=.returned (.agg #[.int .i64 2,.int .i64 (0),.string ⟨#[]⟩,.slice none 0 0])/\Below _ _ w'):=truthr_c false w1
    obtain ⟨p0,p1,p2,p3,pf⟩:=box4 E1;obtain ⟨r0,r1,r2,r3,rf⟩:=box4 L1;go_wp2_with fail;refine hc.mono ?_;rintro u w9 ⟨rfl,b9⟩;have B9:Below bx w w9:=B1.trans (b9.mono (Nat.le_of_lt (lt_of_block E1)));have Z1:=(b9.block _ (lt_of_block Z1)).trans Z1;have HU:=rule_hc 2 (0) Z1 B9;obtain ⟨z0,z1,z2,z3,zf⟩:=box4 Z1;clear hc b9 Z1 E1 L1 B9 p0 p1 p2 p3 pf r0 r1 r2 r3 rf;go_wp2;obtain ⟨wz,hwz,v0,v1,v2,v3,BZ⟩:=HU.out;rw[<-hwz];rw[HB.out] at BZ;exact bodyPost_ret (v:=.agg #[.int .i64 2,.int .i64 (0),.string ⟨#[]⟩,.slice none 0 0]) (by simp[results,Tryz.results69,go_sem,v0,v1,v2,v3]) rfl ⟨none,0,by rw[hans.out];rfl,by rw[hans.out];exact SlcN.nil _ _,BZ⟩
  ·have tx:(x.k==2)=false:=by simpa using hx2
   by_cases hx7:x.k=7
   ·have tx7:(x.k==7)=true:=by simpa using hx7
    obtain ⟨z,hz⟩:=h77 k7 hx7;have hans:Hid (siE e x=z):=by show _=_;unfold siE;rw[if_neg (by omega),if_pos k7,if_neg hx2,if_pos hx7,hz];rfl
    have SXx:=SX;rw[hz] at SXx;obtain ⟨bz,az,cz,hz1,hbz,g0,g1,g2,g3,SZ⟩:=SlcN.kidM (d:=.nil) (y:=z) SXx;subst hz1;have hlx:(0:Int)<(x.kids.len:Int):=by rw[hz];show (0:Int)<((1:Nat):Int);decide
    have WB:Below w.heap.size w w1:=by rw[<-HB.out];exact B1
    have g0:=(WB.cell (p:=⟨bz,0,none⟩) hbz).trans g0;have g1:=(WB.cell (p:=⟨bz,1,none⟩) hbz).trans g1;have g2:=(WB.cell (p:=⟨bz,2,none⟩) hbz).trans g2;have g3:=(WB.cell (p:=⟨bz,3,none⟩) hbz).trans g3;clear k7 hx2 hx7 hz SXx WB;have HU:=rule_hu z az cz Z1 B1;obtain ⟨p0,p1,p2,p3,pf⟩:=box4 E1;obtain ⟨r0,r1,r2,r3,rf⟩:=box4 L1;obtain ⟨z0,z1,z2,z3,zf⟩:=box4 Z1;clear Z1 E1 L1;go_wp2;obtain ⟨wz,hwz,v0,v1,v2,v3,BZ⟩:=HU.out;rw[<-hwz];rw[HB.out] at BZ;exact bodyPost_ret (v:=exN z az cz) (by simp[results,Tryz.results69,go_sem,v0,v1,v2,v3,exN]) rfl ⟨az,cz,by rw[hans.out],by rw[hans.out];exact SZ,BZ⟩
   ·have tx7:(x.k==7)=false:=by simpa using hx7
    have hans:Hid (siE e x=e):=by show _=_;unfold siE;rw[if_neg (by omega),if_pos k7,if_neg hx2,if_neg hx7]
    clear k7 hx2 hx7;have HU:=rule_hu e (some ⟨b,0,none⟩) cap Z1 B1;obtain ⟨p0,p1,p2,p3,pf⟩:=box4 E1;obtain ⟨r0,r1,r2,r3,rf⟩:=box4 L1;obtain ⟨z0,z1,z2,z3,zf⟩:=box4 Z1;clear Z1 E1 L1;go_wp2;obtain ⟨wz,hwz,v0,v1,v2,v3,BZ⟩:=HU.out;rw[<-hwz];rw[HB.out] at BZ;exact bodyPost_ret (v:=exN e (some ⟨b,0,none⟩) cap) (by simp[results,Tryz.results69,go_sem,v0,v1,v2,v3,exN]) rfl ⟨(some ⟨b,0,none⟩),cap,by rw[hans.out],by rw[hans.out];exact S,BZ⟩
 ·have t6:(e.k==6)=false:=by simp;omega
  have t7:(e.k==7)=false:=by simp;omega
  have t26:(e.k==26)=true:=by simpa using k26
  have hc3:((x.k==1)=true/\(x.k=1\/x.k=2))\/((x.k==1)=false/\(x.k==2)=true/\(x.k=1\/x.k=2))\/((x.k==1)=false/\(x.k==2)=false/\¬(x.k=1\/x.k=2)):=by
   by_cases h1:x.k=1
   ·exact .inl ⟨by simpa using h1,.inl h1⟩
   ·by_cases h2:x.k=2
    ·exact .inr (.inl ⟨by simpa using h1,by simpa using h2,.inr h2⟩)
    ·exact .inr (.inr ⟨by simpa using h1,by simpa using h2,by omega⟩)
  rcases hc3 with ⟨tx1,hx⟩|⟨tx1,tx2,hx⟩|⟨tx1,tx2,hx⟩
  ·have hans:Hid (siE e x=x):=by show _=_;unfold siE;rw[if_neg (by omega),if_neg (by omega),if_pos hx]
   clear k26 hx;have HU:=rule_hu x a0 c0 Z1 B1;obtain ⟨p0,p1,p2,p3,pf⟩:=box4 E1;obtain ⟨r0,r1,r2,r3,rf⟩:=box4 L1;obtain ⟨z0,z1,z2,z3,zf⟩:=box4 Z1;clear Z1 E1 L1;go_wp2;obtain ⟨wz,hwz,v0,v1,v2,v3,BZ⟩:=HU.out;rw[<-hwz];rw[HB.out] at BZ;exact bodyPost_ret (v:=exN x a0 c0) (by simp[results,Tryz.results69,go_sem,v0,v1,v2,v3,exN]) rfl ⟨a0,c0,by rw[hans.out],by rw[hans.out];exact SX,BZ⟩
  ·have hans:Hid (siE e x=x):=by show _=_;unfold siE;rw[if_neg (by omega),if_neg (by omega),if_pos hx]
   clear k26 hx;have HU:=rule_hu x a0 c0 Z1 B1;obtain ⟨p0,p1,p2,p3,pf⟩:=box4 E1;obtain ⟨r0,r1,r2,r3,rf⟩:=box4 L1;obtain ⟨z0,z1,z2,z3,zf⟩:=box4 Z1;clear Z1 E1 L1;go_wp2;obtain ⟨wz,hwz,v0,v1,v2,v3,BZ⟩:=HU.out;rw[<-hwz];rw[HB.out] at BZ;exact bodyPost_ret (v:=exN x a0 c0) (by simp[results,Tryz.results69,go_sem,v0,v1,v2,v3,exN]) rfl ⟨a0,c0,by rw[hans.out],by rw[hans.out];exact SX,BZ⟩
  ·have hans:Hid (siE e x=e):=by show _=_;unfold siE;rw[if_neg (by omega),if_neg (by omega),if_neg hx]
   clear k26 hx;have HU:=rule_hu e (some ⟨b,0,none⟩) cap Z1 B1;obtain ⟨p0,p1,p2,p3,pf⟩:=box4 E1;obtain ⟨r0,r1,r2,r3,rf⟩:=box4 L1;obtain ⟨z0,z1,z2,z3,zf⟩:=box4 Z1;clear Z1 E1 L1;go_wp2;obtain ⟨wz,hwz,v0,v1,v2,v3,BZ⟩:=HU.out;rw[<-hwz];rw[HB.out] at BZ;exact bodyPost_ret (v:=exN e (some ⟨b,0,none⟩) cap) (by simp[results,Tryz.results69,go_sem,v0,v1,v2,v3,exN]) rfl ⟨(some ⟨b,0,none⟩),cap,by rw[hans.out],by rw[hans.out];exact S,BZ⟩
theorem nuE_rest {e x y:Ex}(h:(if x.k=1/\y.k=1 then rckP e.k x.n y.n else none)=none):nuE e x y=if e.k=8/\isE x 1 0=true then y else if (e.k=8\/e.k=9)/\isE y 1 0=true then x else if e.k=10/\isE x 1 1=true then y else if (e.k=10\/e.k=11)/\isE y 1 1=true then x else e:=by
 unfold nuE;rw[h]
theorem nuE_some {e x y:Ex}{v:Int}(h:(if x.k=1/\y.k=1 then rckP e.k x.n y.n else none)=some v):nuE e x y=numE v:=by
 unfold nuE;rw[h]
theorem numbers15_c (e x y:Ex)(ao:Option Addr)(cap:Nat)(P:Nat->Prop)(w:World)(hke:8<=e.k/\e.k<=12)(hk:e.kids=Fs.ex x (Fs.ex y .nil))(hxn:x.k=1->In64 x.n)(hyn:y.k=1->In64 y.n)(S:SlcN w P e.kids ao cap) :
  Calls Tryz.prog 70 #[exN e ao cap] w (PostRu w w P (nuE e x y)):=by
 have S2:=S;rw[hk] at S2;obtain ⟨b,a0,c0,hao,hb,x0,x1,x2,x3,SX⟩:=SlcN.kidM (d:=.nil) (y:=x) S2;obtain ⟨b',a1,c1,hao2,-,y0,y1,y2,y3,SY⟩:=SlcN.kidM (d:=Fs.ex x .nil) (y:=y) (r:=.nil) S2;rw[hao] at hao2;injection hao2 with hao2
 injection hao2 with hao2
 subst hao2;have hl1:(1:Int)<(e.kids.len:Int):=by rw[hk];show (1:Int)<((2:Nat):Int);decide
 subst hao;have hl0:(0:Int)<(e.kids.len:Int):=by rw[hk];show (0:Int)<((2:Nat):Int);decide
 obtain ⟨w0,hw0⟩:∃w0,w0=(w.alloc (.cells #[.int .i64 e.k,.int .i64 e.n,stv e.nm,.slice (some ⟨b,0,none⟩) e.kids.len cap] 34)).alloc (.cells #[.int .i64 0,.int .i64 0,.string ⟨#[]⟩,.slice none 0 0] 34):=⟨_,rfl⟩;have B0:Below w.heap.size w w0:=by rw[hw0];exact ((Below.refl _ w).alloc (Nat.le_refl _) _).alloc (by simp) _
 have E0:w0.heap[w.heap.size]?=some (.cells #[.int .i64 e.k,.int .i64 e.n,stv e.nm,.slice (some ⟨b,0,none⟩) e.kids.len cap] 34 (0,0)):=by rw[hw0];exact (Below.heap_alloc _ _ _ (by simp)).trans (heap_alloc_new w _)
 have Z0:w0.heap[w.heap.size+1]?=some (.cells #[.int .i64 0,.int .i64 0,.string ⟨#[]⟩,.slice none 0 0] 34 (0,0)):=by
  rw[hw0]
  have:=heap_alloc_new (w.alloc (.cells #[.int .i64 e.k,.int .i64 e.n,stv e.nm,.slice (some ⟨b,0,none⟩) e.kids.len cap] 34)) (.cells #[.int .i64 0,.int .i64 0,.string ⟨#[]⟩,.slice none 0 0] 34)
  simpa using this
 clear S2 hk;rw[exN_out];go_enter Tryz.func70,Tryz.ntmps70;go_upto_region 1 with fail;rw[<-hw0];obtain ⟨bx,hbx⟩:∃bx,bx=w.heap.size:=⟨_,rfl⟩;rw[<-hbx] at E0 Z0 B0 hb
 try rw[<-hbx]
 have HB:Hid (bx=w.heap.size):=hbx;clear hbx hw0;have hlx:(Fs.len (.nil:Fs))=0:=rfl;rw[hlx] at x0 x1 x2 x3;have x0:=(B0.cell (p:=⟨b,0*4,none⟩) hb).trans x0;have x1:=(B0.cell (p:=⟨b,0*4+1,none⟩) hb).trans x1;have x2:=(B0.cell (p:=⟨b,0*4+2,none⟩) hb).trans x2;have x3:=(B0.cell (p:=⟨b,0*4+3,none⟩) hb).trans x3;simp only[Nat.zero_mul,Nat.zero_add,Nat.one_mul,Nat.reduceAdd] at x0 x1 x2 x3;have hly:(Fs.len (Fs.ex x .nil))=1:=rfl;rw[hly] at y0 y1 y2 y3;have y0:=(B0.cell (p:=⟨b,1*4,none⟩) hb).trans y0;have y1:=(B0.cell (p:=⟨b,1*4+1,none⟩) hb).trans y1;have y2:=(B0.cell (p:=⟨b,1*4+2,none⟩) hb).trans y2;have y3:=(B0.cell (p:=⟨b,1*4+3,none⟩) hb).trans y3;simp only[Nat.zero_mul,Nat.zero_add,Nat.one_mul,Nat.reduceAdd] at y0 y1 y2 y3;have hb0:b<w0.heap.size:=Nat.lt_trans hb (lt_of_block E0);obtain ⟨p0,p1,p2,p3,pf⟩:=box4 E0;have l1:bx<w0.heap.size:=lt_of_block E0;have l2:bx<w0.heap.size+1:=Nat.lt_succ_of_lt l1;have l3:b<w0.heap.size+1:=Nat.lt_succ_of_lt hb0;go_upto_region 3 with fail;obtain ⟨w1,hw1⟩:∃w1,w1=(w0.alloc (.cells #[.int .i64 x.k,.int .i64 x.n,stv x.nm,.slice a0 x.kids.len c0] 34)).alloc (.cells #[.int .i64 y.k,.int .i64 y.n,stv y.nm,.slice a1 y.kids.len c1] 34):=⟨_,rfl⟩;obtain ⟨p,hp⟩:∃p,p=w0.heap.size:=⟨_,rfl⟩;obtain ⟨q,hq⟩:∃q,q=w0.heap.size+1:=⟨_,rfl⟩;have B1:Below bx w w1:=by rw[hw1];exact (B0.alloc (Nat.le_of_lt l1) _).alloc (by simp;omega) _
 have D1:Below w0.heap.size w0 w1:=by rw[hw1];exact ((Below.refl _ w0).alloc (Nat.le_refl _) _).alloc (by simp) _
 have L1:w1.heap[p]?=some (.cells #[.int .i64 x.k,.int .i64 x.n,stv x.nm,.slice a0 x.kids.len c0] 34 (0,0)):=by
  rw[hw1,hp];exact (Below.heap_alloc _ _ _ (by simp)).trans (heap_alloc_new w0 _)
 have R1:w1.heap[q]?=some (.cells #[.int .i64 y.k,.int .i64 y.n,stv y.nm,.slice a1 y.kids.len c1] 34 (0,0)):=by
  rw[hw1,hq]
  have:=heap_alloc_new (w0.alloc (.cells #[.int .i64 x.k,.int .i64 x.n,stv x.nm,.slice a0 x.kids.len c0] 34)) (.cells #[.int .i64 y.k,.int .i64 y.n,stv y.nm,.slice a1 y.kids.len c1] 34)
  rw[show (w0.alloc (.cells #[.int .i64 x.k,.int .i64 x.n,stv x.nm,.slice a0 x.kids.len c0] 34)).heap.size=w0.heap.size+1 by simp] at this
  exact this
 have E1:=(D1.block bx l1).trans E0;have Z1:=(D1.block (bx+1) (lt_of_block Z0)).trans Z0;rw[<-hw1,<-hq,<-hp];clear hw1 hp hq D1 B0 E0 Z0 l1 l2 l3 hb0 hb p0 p1 p2 p3 pf x0 x1 x2 x3 y0 y1 y2 y3;have hph:(x.k==1)=false/\x.k≠1\/((x.k==1)=true/\(y.k==1)=false/\y.k≠1)\/((x.k==1)=true/\(y.k==1)=true/\(x.k=1/\y.k=1)/\rckP e.k x.n y.n=none)\/((x.k==1)=true/\(y.k==1)=true/\(x.k=1/\y.k=1)/\∃v,rckP e.k x.n y.n=some v):=by
  by_cases h1:x.k=1
  ·by_cases h2:y.k=1
   ·cases h3:rckP e.k x.n y.n with
    | none=>exact .inr (.inr (.inl ⟨by simpa using h1,by simpa using h2,⟨h1,h2⟩,rfl⟩))
    | some v=>exact .inr (.inr (.inr ⟨by simpa using h1,by simpa using h2,⟨h1,h2⟩,v,rfl⟩))
   ·exact .inr (.inl ⟨by simpa using h1,by simpa using h2,h2⟩)
  ·exact .inl ⟨by simpa using h1,h1⟩
 rcases hph with ⟨tx,hx⟩|⟨tx,ty,hy⟩|⟨tx,ty,hxy,hr⟩|⟨tx,ty,hxy,v,hr⟩
 focus
  have HN:Hid (nuE e x y=_):=nuE_rest (by rw[if_neg (fun h=>hx h.1)])
  clear hx;obtain ⟨r0,r1,r2,r3,rf⟩:=box4 L1;obtain ⟨s0,s1,s2,s3,sf⟩:=box4 R1;go_upto_region 7 with fail;clear r0 r1 r2 r3 rf s0 s1 s2 s3 sf
 rotate_left
 focus
  have HN:Hid (nuE e x y=_):=nuE_rest (by rw[if_neg (fun h=>hy h.2)])
  clear hy;obtain ⟨r0,r1,r2,r3,rf⟩:=box4 L1;obtain ⟨s0,s1,s2,s3,sf⟩:=box4 R1;go_upto_region 7 with fail;clear r0 r1 r2 r3 rf s0 s1 s2 s3 sf
 rotate_left
 focus
  have HN:Hid (nuE e x y=_):=nuE_rest (by rw[if_pos hxy];exact hr)
  have hc:=reck_c hke (hxn hxy.1) (hyn hxy.2) w1;have hwr:∃f:Int,wrV e.k x.n y.n=.tuple #[.int .i64 0,.int .i64 f]/\(f==0)=false:=by
   unfold wrV fltP;rw[hr];simp only
   split
   ·exact ⟨4,rfl,rfl⟩
   ·exact ⟨1,rfl,rfl⟩
  obtain ⟨f,hwr,hf0⟩:=hwr;rw[hwr] at hc;obtain ⟨p0,p1,p2,p3,pf⟩:=box4 E1;obtain ⟨r0,r1,r2,r3,rf⟩:=box4 L1;obtain ⟨s0,s1,s2,s3,sf⟩:=box4 R1;clear hr hwr hxy;go_wp2_with fail;refine hc.mono ?_;rintro u w4 ⟨rfl,rfl⟩;clear hc;go_upto_region 7 with fail;clear p0 p1 p2 p3 pf r0 r1 r2 r3 rf s0 s1 s2 s3 sf;generalize w4=w1 at *
 rotate_left
 focus
  have hans:Hid (nuE e x y=numE v):=nuE_some (by rw[if_pos hxy];exact hr)
  have hc:=reck_c hke (hxn hxy.1) (hyn hxy.2) w1;have hwr:wrV e.k x.n y.n=.tuple #[.int .i64 v,.int .i64 0]:=tr_wr hr;rw[hwr] at hc;obtain ⟨p0,p1,p2,p3,pf⟩:=box4 E1;obtain ⟨r0,r1,r2,r3,rf⟩:=box4 L1;obtain ⟨s0,s1,s2,s3,sf⟩:=box4 R1;clear hr hwr hxy;go_wp2_with fail;refine hc.mono ?_;rintro u w4 ⟨rfl,rfl⟩;clear hc p0 p1 p2 p3 pf r0 r1 r2 r3 rf s0 s1 s2 s3 sf;generalize w4=w1 at *;have hc:Calls Tryz.prog _ _ _ (fun xx w'=>xx=.returned (.agg #[.int .i64 1,.int .i64 (v),.string ⟨#[]⟩,.slice none 0 0])/\Below _ _ w'):=number_c v w1
  obtain ⟨p0,p1,p2,p3,pf⟩:=box4 E1;obtain ⟨r0,r1,r2,r3,rf⟩:=box4 L1;obtain ⟨s0,s1,s2,s3,sf⟩:=box4 R1;go_wp2_with fail;refine hc.mono ?_;rintro u w9 ⟨rfl,b9⟩;have B9:Below bx w w9:=B1.trans (b9.mono (Nat.le_of_lt (lt_of_block E1)));have Z1:=(b9.block _ (lt_of_block Z1)).trans Z1;have HU:=rule_hc 1 (v) Z1 B9;obtain ⟨z0,z1,z2,z3,zf⟩:=box4 Z1;clear hc b9 Z1 E1 L1 R1 B9 p0 p1 p2 p3 pf r0 r1 r2 r3 rf s0 s1 s2 s3 sf;go_wp2;obtain ⟨wz,hwz,v0,v1,v2,v3,BZ⟩:=HU.out;rw[<-hwz];rw[HB.out] at BZ;exact bodyPost_ret (v:=.agg #[.int .i64 1,.int .i64 (v),.string ⟨#[]⟩,.slice none 0 0]) (by simp[results,Tryz.results70,go_sem,v0,v1,v2,v3]) rfl ⟨none,0,by rw[hans.out];rfl,by rw[hans.out];exact SlcN.nil _ _,BZ⟩
 all_goals (
  have hkk:e.k=8\/e.k=9\/e.k=10\/e.k=11\/e.k=12:=by omega
  clear hke;generalize w1=w3 at *;have B3:=B1;clear B1;rcases hkk with k8|k9|k10|k11|k12
  focus
   have t8:(e.k==8)=true:=by simp;omega
   have t9:(e.k==9)=false:=by simp;omega
   have t10:(e.k==10)=false:=by simp;omega
   have t11:(e.k==11)=false:=by simp;omega
   have hc:=isr_c x a0 c0 1 0 w3
   try rw[exN_out] at hc
   obtain ⟨p0,p1,p2,p3,pf⟩:=box4 E1;obtain ⟨r0,r1,r2,r3,rf⟩:=box4 L1;obtain ⟨s0,s1,s2,s3,sf⟩:=box4 R1;go_wp2_with fail;refine hc.mono ?_;rintro u w4 ⟨rfl,b4⟩;obtain ⟨B4,E1,L1,R1,Z1⟩:=bxs B3 b4 E1 L1 R1 Z1;clear hc b4 p0 p1 p2 p3 pf r0 r1 r2 r3 rf s0 s1 s2 s3 sf B3;cases hx0:isE x 1 0 with
   | true =>
    have hans:Hid (nuE e x y=y):=by show _=_;rw[HN.out];simp[k8,hx0]
    clear k8 hx0 HN;have HU:=rule_hu y a1 c1 Z1 B4;obtain ⟨p0,p1,p2,p3,pf⟩:=box4 E1;obtain ⟨r0,r1,r2,r3,rf⟩:=box4 L1;obtain ⟨s0,s1,s2,s3,sf⟩:=box4 R1;obtain ⟨z0,z1,z2,z3,zf⟩:=box4 Z1;clear Z1 E1 L1 R1;go_wp2;obtain ⟨wz,hwz,v0,v1,v2,v3,BZ⟩:=HU.out;rw[<-hwz];rw[HB.out] at BZ;exact bodyPost_ret (v:=exN y a1 c1) (by simp[results,Tryz.results70,go_sem,v0,v1,v2,v3,exN]) rfl ⟨a1,c1,by rw[hans.out],by rw[hans.out];exact SY,BZ⟩
   | false =>
    have hc:=isr_c y a1 c1 1 0 w4
    try rw[exN_out] at hc
    obtain ⟨p0,p1,p2,p3,pf⟩:=box4 E1;obtain ⟨r0,r1,r2,r3,rf⟩:=box4 L1;obtain ⟨s0,s1,s2,s3,sf⟩:=box4 R1;go_wp2_with fail;refine hc.mono ?_;rintro u w5 ⟨rfl,b5⟩;obtain ⟨B5,E1,L1,R1,Z1⟩:=bxs B4 b5 E1 L1 R1 Z1;clear hc b5 p0 p1 p2 p3 pf r0 r1 r2 r3 rf s0 s1 s2 s3 sf B4;cases hy0:isE y 1 0 with
    | true =>
     have hans:Hid (nuE e x y=x):=by show _=_;rw[HN.out];simp[k8,hx0,hy0]
     clear k8 hx0 hy0 HN;have HU:=rule_hu x a0 c0 Z1 B5;obtain ⟨p0,p1,p2,p3,pf⟩:=box4 E1;obtain ⟨r0,r1,r2,r3,rf⟩:=box4 L1;obtain ⟨s0,s1,s2,s3,sf⟩:=box4 R1;obtain ⟨z0,z1,z2,z3,zf⟩:=box4 Z1;clear Z1 E1 L1 R1;go_wp2;obtain ⟨wz,hwz,v0,v1,v2,v3,BZ⟩:=HU.out;rw[<-hwz];rw[HB.out] at BZ;exact bodyPost_ret (v:=exN x a0 c0) (by simp[results,Tryz.results70,go_sem,v0,v1,v2,v3,exN]) rfl ⟨a0,c0,by rw[hans.out],by rw[hans.out];exact SX,BZ⟩
    | false =>
     have hans:Hid (nuE e x y=e):=by show _=_;rw[HN.out];simp[k8,hx0,hy0]
     clear k8 hx0 hy0 HN;have HU:=rule_hu e (some ⟨b,0,none⟩) cap Z1 B5;obtain ⟨p0,p1,p2,p3,pf⟩:=box4 E1;obtain ⟨r0,r1,r2,r3,rf⟩:=box4 L1;obtain ⟨s0,s1,s2,s3,sf⟩:=box4 R1;obtain ⟨z0,z1,z2,z3,zf⟩:=box4 Z1;clear Z1 E1 L1 R1;go_wp2;obtain ⟨wz,hwz,v0,v1,v2,v3,BZ⟩:=HU.out;rw[<-hwz];rw[HB.out] at BZ;exact bodyPost_ret (v:=exN e (some ⟨b,0,none⟩) cap) (by simp[results,Tryz.results70,go_sem,v0,v1,v2,v3,exN]) rfl ⟨(some ⟨b,0,none⟩),cap,by rw[hans.out],by rw[hans.out];exact S,BZ⟩
  focus
   have t8:(e.k==8)=false:=by simp;omega
   have t9:(e.k==9)=true:=by simp;omega
   have t10:(e.k==10)=false:=by simp;omega
   have t11:(e.k==11)=false:=by simp;omega
   have hc:=isr_c y a1 c1 1 0 w3
   try rw[exN_out] at hc
   obtain ⟨p0,p1,p2,p3,pf⟩:=box4 E1;obtain ⟨r0,r1,r2,r3,rf⟩:=box4 L1;obtain ⟨s0,s1,s2,s3,sf⟩:=box4 R1;go_wp2_with fail;refine hc.mono ?_;rintro u w4 ⟨rfl,b4⟩;obtain ⟨B4,E1,L1,R1,Z1⟩:=bxs B3 b4 E1 L1 R1 Z1;clear hc b4 p0 p1 p2 p3 pf r0 r1 r2 r3 rf s0 s1 s2 s3 sf B3;cases hy0:isE y 1 0 with
   | true =>
    have hans:Hid (nuE e x y=x):=by show _=_;rw[HN.out];simp[k9,hy0]
    clear k9 hy0 HN;have HU:=rule_hu x a0 c0 Z1 B4;obtain ⟨p0,p1,p2,p3,pf⟩:=box4 E1;obtain ⟨r0,r1,r2,r3,rf⟩:=box4 L1;obtain ⟨s0,s1,s2,s3,sf⟩:=box4 R1;obtain ⟨z0,z1,z2,z3,zf⟩:=box4 Z1;clear Z1 E1 L1 R1;go_wp2;obtain ⟨wz,hwz,v0,v1,v2,v3,BZ⟩:=HU.out;rw[<-hwz];rw[HB.out] at BZ;exact bodyPost_ret (v:=exN x a0 c0) (by simp[results,Tryz.results70,go_sem,v0,v1,v2,v3,exN]) rfl ⟨a0,c0,by rw[hans.out],by rw[hans.out];exact SX,BZ⟩
   | false =>
    have hans:Hid (nuE e x y=e):=by show _=_;rw[HN.out];simp[k9,hy0]
    clear k9 hy0 HN;have HU:=rule_hu e (some ⟨b,0,none⟩) cap Z1 B4;obtain ⟨p0,p1,p2,p3,pf⟩:=box4 E1;obtain ⟨r0,r1,r2,r3,rf⟩:=box4 L1;obtain ⟨s0,s1,s2,s3,sf⟩:=box4 R1;obtain ⟨z0,z1,z2,z3,zf⟩:=box4 Z1;clear Z1 E1 L1 R1;go_wp2;obtain ⟨wz,hwz,v0,v1,v2,v3,BZ⟩:=HU.out;rw[<-hwz];rw[HB.out] at BZ;exact bodyPost_ret (v:=exN e (some ⟨b,0,none⟩) cap) (by simp[results,Tryz.results70,go_sem,v0,v1,v2,v3,exN]) rfl ⟨(some ⟨b,0,none⟩),cap,by rw[hans.out],by rw[hans.out];exact S,BZ⟩
  focus
   have t8:(e.k==8)=false:=by simp;omega
   have t9:(e.k==9)=false:=by simp;omega
   have t10:(e.k==10)=true:=by simp;omega
   have t11:(e.k==11)=false:=by simp;omega
   have hc:=isr_c x a0 c0 1 1 w3
   try rw[exN_out] at hc
   obtain ⟨p0,p1,p2,p3,pf⟩:=box4 E1;obtain ⟨r0,r1,r2,r3,rf⟩:=box4 L1;obtain ⟨s0,s1,s2,s3,sf⟩:=box4 R1;go_wp2_with fail;refine hc.mono ?_;rintro u w4 ⟨rfl,b4⟩;obtain ⟨B4,E1,L1,R1,Z1⟩:=bxs B3 b4 E1 L1 R1 Z1;clear hc b4 p0 p1 p2 p3 pf r0 r1 r2 r3 rf s0 s1 s2 s3 sf B3;cases hx0:isE x 1 1 with
   | true =>
    have hans:Hid (nuE e x y=y):=by show _=_;rw[HN.out];simp[k10,hx0]
    clear k10 hx0 HN;have HU:=rule_hu y a1 c1 Z1 B4;obtain ⟨p0,p1,p2,p3,pf⟩:=box4 E1;obtain ⟨r0,r1,r2,r3,rf⟩:=box4 L1;obtain ⟨s0,s1,s2,s3,sf⟩:=box4 R1;obtain ⟨z0,z1,z2,z3,zf⟩:=box4 Z1;clear Z1 E1 L1 R1;go_wp2;obtain ⟨wz,hwz,v0,v1,v2,v3,BZ⟩:=HU.out;rw[<-hwz];rw[HB.out] at BZ;exact bodyPost_ret (v:=exN y a1 c1) (by simp[results,Tryz.results70,go_sem,v0,v1,v2,v3,exN]) rfl ⟨a1,c1,by rw[hans.out],by rw[hans.out];exact SY,BZ⟩
   | false =>
    have hc:=isr_c y a1 c1 1 1 w4
    try rw[exN_out] at hc
    obtain ⟨p0,p1,p2,p3,pf⟩:=box4 E1;obtain ⟨r0,r1,r2,r3,rf⟩:=box4 L1;obtain ⟨s0,s1,s2,s3,sf⟩:=box4 R1;go_wp2_with fail;refine hc.mono ?_;rintro u w5 ⟨rfl,b5⟩;obtain ⟨B5,E1,L1,R1,Z1⟩:=bxs B4 b5 E1 L1 R1 Z1;clear hc b5 p0 p1 p2 p3 pf r0 r1 r2 r3 rf s0 s1 s2 s3 sf B4;cases hy0:isE y 1 1 with
    | true =>
     have hans:Hid (nuE e x y=x):=by show _=_;rw[HN.out];simp[k10,hx0,hy0]
     clear k10 hx0 hy0 HN;have HU:=rule_hu x a0 c0 Z1 B5;obtain ⟨p0,p1,p2,p3,pf⟩:=box4 E1;obtain ⟨r0,r1,r2,r3,rf⟩:=box4 L1;obtain ⟨s0,s1,s2,s3,sf⟩:=box4 R1;obtain ⟨z0,z1,z2,z3,zf⟩:=box4 Z1;clear Z1 E1 L1 R1;go_wp2;obtain ⟨wz,hwz,v0,v1,v2,v3,BZ⟩:=HU.out;rw[<-hwz];rw[HB.out] at BZ;exact bodyPost_ret (v:=exN x a0 c0) (by simp[results,Tryz.results70,go_sem,v0,v1,v2,v3,exN]) rfl ⟨a0,c0,by rw[hans.out],by rw[hans.out];exact SX,BZ⟩
    | false =>
     have hans:Hid (nuE e x y=e):=by show _=_;rw[HN.out];simp[k10,hx0,hy0]
     clear k10 hx0 hy0 HN;have HU:=rule_hu e (some ⟨b,0,none⟩) cap Z1 B5;obtain ⟨p0,p1,p2,p3,pf⟩:=box4 E1;obtain ⟨r0,r1,r2,r3,rf⟩:=box4 L1;obtain ⟨s0,s1,s2,s3,sf⟩:=box4 R1;obtain ⟨z0,z1,z2,z3,zf⟩:=box4 Z1;clear Z1 E1 L1 R1;go_wp2;obtain ⟨wz,hwz,v0,v1,v2,v3,BZ⟩:=HU.out;rw[<-hwz];rw[HB.out] at BZ;exact bodyPost_ret (v:=exN e (some ⟨b,0,none⟩) cap) (by simp[results,Tryz.results70,go_sem,v0,v1,v2,v3,exN]) rfl ⟨(some ⟨b,0,none⟩),cap,by rw[hans.out],by rw[hans.out];exact S,BZ⟩
  focus
   have t8:(e.k==8)=false:=by simp;omega
   have t9:(e.k==9)=false:=by simp;omega
   have t10:(e.k==10)=false:=by simp;omega
   have t11:(e.k==11)=true:=by simp;omega
   have hc:=isr_c y a1 c1 1 1 w3
   try rw[exN_out] at hc
   obtain ⟨p0,p1,p2,p3,pf⟩:=box4 E1;obtain ⟨r0,r1,r2,r3,rf⟩:=box4 L1;obtain ⟨s0,s1,s2,s3,sf⟩:=box4 R1;go_wp2_with fail;refine hc.mono ?_;rintro u w4 ⟨rfl,b4⟩;obtain ⟨B4,E1,L1,R1,Z1⟩:=bxs B3 b4 E1 L1 R1 Z1;clear hc b4 p0 p1 p2 p3 pf r0 r1 r2 r3 rf s0 s1 s2 s3 sf B3;cases hy0:isE y 1 1 with
   | true =>
    have hans:Hid (nuE e x y=x):=by show _=_;rw[HN.out];simp[k11,hy0]
    clear k11 hy0 HN;have HU:=rule_hu x a0 c0 Z1 B4;obtain ⟨p0,p1,p2,p3,pf⟩:=box4 E1;obtain ⟨r0,r1,r2,r3,rf⟩:=box4 L1;obtain ⟨s0,s1,s2,s3,sf⟩:=box4 R1;obtain ⟨z0,z1,z2,z3,zf⟩:=box4 Z1;clear Z1 E1 L1 R1;go_wp2;obtain ⟨wz,hwz,v0,v1,v2,v3,BZ⟩:=HU.out;rw[<-hwz];rw[HB.out] at BZ;exact bodyPost_ret (v:=exN x a0 c0) (by simp[results,Tryz.results70,go_sem,v0,v1,v2,v3,exN]) rfl ⟨a0,c0,by rw[hans.out],by rw[hans.out];exact SX,BZ⟩
   | false =>
    have hans:Hid (nuE e x y=e):=by show _=_;rw[HN.out];simp[k11,hy0]
    clear k11 hy0 HN;have HU:=rule_hu e (some ⟨b,0,none⟩) cap Z1 B4;obtain ⟨p0,p1,p2,p3,pf⟩:=box4 E1;obtain ⟨r0,r1,r2,r3,rf⟩:=box4 L1;obtain ⟨s0,s1,s2,s3,sf⟩:=box4 R1;obtain ⟨z0,z1,z2,z3,zf⟩:=box4 Z1;clear Z1 E1 L1 R1;go_wp2;obtain ⟨wz,hwz,v0,v1,v2,v3,BZ⟩:=HU.out;rw[<-hwz];rw[HB.out] at BZ;exact bodyPost_ret (v:=exN e (some ⟨b,0,none⟩) cap) (by simp[results,Tryz.results70,go_sem,v0,v1,v2,v3,exN]) rfl ⟨(some ⟨b,0,none⟩),cap,by rw[hans.out],by rw[hans.out];exact S,BZ⟩
  focus
   have t8:(e.k==8)=false:=by simp;omega
   have t9:(e.k==9)=false:=by simp;omega
   have t10:(e.k==10)=false:=by simp;omega
   have t11:(e.k==11)=false:=by simp;omega
   have hans:Hid (nuE e x y=e):=by show _=_;rw[HN.out,if_neg (by omega),if_neg (by omega),if_neg (by omega),if_neg (by omega)]
   clear k12;have HU:=rule_hu e (some ⟨b,0,none⟩) cap Z1 B3;obtain ⟨p0,p1,p2,p3,pf⟩:=box4 E1;obtain ⟨r0,r1,r2,r3,rf⟩:=box4 L1;obtain ⟨s0,s1,s2,s3,sf⟩:=box4 R1;obtain ⟨z0,z1,z2,z3,zf⟩:=box4 Z1;clear Z1 E1 L1 R1;go_wp2;obtain ⟨wz,hwz,v0,v1,v2,v3,BZ⟩:=HU.out;rw[<-hwz];rw[HB.out] at BZ;exact bodyPost_ret (v:=exN e (some ⟨b,0,none⟩) cap) (by simp[results,Tryz.results70,go_sem,v0,v1,v2,v3,exN]) rfl ⟨(some ⟨b,0,none⟩),cap,by rw[hans.out],by rw[hans.out];exact S,BZ⟩)
end Go.Proofs.YtaihhnlfcndecaaGreatDoor

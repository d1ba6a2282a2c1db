import Derived.Test.YtaihhnlfcndecaaGreatDoorOfM
set_option maxRecDepth 100000
set_option maxHeartbeats 8000000
namespace Go.Proofs.YtaihhnlfcndecaaGreatDoor
open Go.ChangeShapes Go.WideShapes Go.ChangeAt Go.RowKit
set_option linter.unusedVariables false
set_option linter.unusedSimpArgs false
def NodeOk (N:Nat):Prop:=∀ (e:Ex) (ao:Option Addr) (cap:Nat) (bd:List (List UInt8)) (bv:Value) (w:World),e.kids.size<N->e.kids.len<=1000000000->e.kids.short->bd.length+e.kids.size<=1000000->Nms w bv bd->SlA w e.kids ao ->
 Calls Tryz.prog 47 #[exV e ao cap,bv] w (PostMn w (ofE e bd))
theorem Nms.news {w:World}{ao:Option Addr}{cap:Nat}{b:List (List UInt8)}(h:Nms w (.slice ao b.length cap) b):0<b.length->∃ad,ao=some ad/\∀ j u,(b.map fun x=>stv x)[j]?=some u->w.cell? (ad.add j)=some u:=by
 intro h0;obtain⟨ao',cap',hv,hc,h1|⟨g,h1,h2,h3,h4⟩⟩:=h
 ·rw[h1.1] at h0;simp at h0
 ·injection hv with hv1
  subst hv1;refine⟨_,h1,fun j u hj=>?_⟩;rw[List.getElem?_map] at hj;cases hb:b[j]? with
  | none=>rw[hb] at hj;cases hj
  | some t =>
   rw[hb] at hj;injection hj with hj
   subst hj;have h5:((⟨g,0,none⟩:Addr).add j)=⟨g,j,none⟩:=by simp only[Addr.add];split<;>simp_all
   rw[h5];exact h4 j t hb
theorem Nms.ofRowL {w:World}{o:Nat->Nat}{i g cap:Nat}{b:List (List UInt8)}{n:Nat}(h:Row w o i 9 1 (.slice (some ⟨g,0,none⟩) n cap) n (b.map fun x=>stv x))(hn:b.length=n)(h0:0<n):Nms w (.slice (some ⟨g,0,none⟩) n cap) b :=
 Nms.ofRow (o:=fun _=>1) ⟨h.1,fun _ _=>rfl⟩ hn h0
theorem ones_str (b:List (List UInt8)):∀ u ∈ b.map (fun x=>stv x),u.oneCell'=true:=fun u hu=>by
 obtain⟨x,_,rfl⟩:=List.mem_map.1 hu;rfl
theorem node_step {N:Nat}(IH:NodeOk N):NodeOk (N+1):=by
 intro e ao cap bd bv w hN hlen hsh hbd HN S;obtain⟨Y,hY⟩:∃Y,Y=ofE e bd:=⟨_,rfl⟩
 have HY:Hid (Y=ofE e bd):=hY;rw[<-hY];clear hY;obtain⟨ii,hii,hzi0,hzi1,hzi2⟩:=info_parts infoNode;obtain⟨is,his,hzs0,hzs1,hzs2⟩:=info_parts infoStrT;obtain⟨w0,hw0⟩:∃w0,w0=((w.alloc (.cells #[.int .i64 e.k,.int .i64 e.n,stv e.nm,.slice ao e.kids.len cap,.int .i64 e.a] 25)).alloc (.cells #[.int .i64 0,.int .i64 0,.string ⟨#[]⟩,.slice none 0 0] 34)).alloc (.cells #[.int .i64 e.k,.int .i64 e.n,.string ⟨#[]⟩,.slice none 0 0] 34):=⟨_,rfl⟩
 have B0:Below w.heap.size w w0:=by rw[hw0];exact(((Below.refl _ w).alloc (Nat.le_refl _) _).alloc (by simp) _).alloc (by simp;omega) _
 obtain⟨o0,ho0⟩:∃o0:Nat->Nat,o0=fun k=>if k=w.heap.size+1+1 then 1 else if k=w.heap.size+1 then 3 else 0:=⟨_,rfl⟩
 have E0:Blk w0 o0 0 w.heap.size (.cells #[.int .i64 e.k,.int .i64 e.n,stv e.nm,.slice ao e.kids.len cap,.int .i64 e.a] 25):=by
  refine⟨?_,by rw[ho0];simp only;rw[if_neg (by omega),if_neg (by omega)]⟩;rw[hw0];exact(Below.heap_alloc _ _ _ (by simp;omega)).trans ((Below.heap_alloc _ _ _ (by simp)).trans (heap_alloc_new w _))
 have Z0:Blk w0 o0 3 (w.heap.size+1) (.cells #[.int .i64 0,.int .i64 0,.string ⟨#[]⟩,.slice none 0 0] 34):=by
  refine⟨?_,by rw[ho0];simp⟩;rw[hw0];refine(Below.heap_alloc _ _ _ (by simp)).trans ?_
  have:=heap_alloc_new (w.alloc (.cells #[.int .i64 e.k,.int .i64 e.n,stv e.nm,.slice ao e.kids.len cap,.int .i64 e.a] 25)) (.cells #[.int .i64 0,.int .i64 0,.string ⟨#[]⟩,.slice none 0 0] 34)
  simpa using this
 have O0:Blk w0 o0 1 (w.heap.size+1+1) (.cells #[.int .i64 e.k,.int .i64 e.n,.string ⟨#[]⟩,.slice none 0 0] 34):=by
  refine⟨?_,by rw[ho0];simp⟩;rw[hw0]
  have:=heap_alloc_new ((w.alloc (.cells #[.int .i64 e.k,.int .i64 e.n,stv e.nm,.slice ao e.kids.len cap,.int .i64 e.a] 25)).alloc (.cells #[.int .i64 0,.int .i64 0,.string ⟨#[]⟩,.slice none 0 0] 34)) (.cells #[.int .i64 e.k,.int .i64 e.n,.string ⟨#[]⟩,.slice none 0 0] 34)
  simpa using this
 have L0:∀ k,k<w.heap.size->o0 k=0:=fun k hk=>by rw[ho0];simp only;rw[if_neg (by omega),if_neg (by omega)]
 have A0:=AccD.nil w0 o0 (fun _=>False) w.heap.size;have N0:=HN.below B0;obtain⟨ab,cb,hbv,hbc,hbx⟩:=HN;have HNM:Hid (Nms w bv bd):=⟨ab,cb,hbv,hbc,hbx⟩
 subst hbv;rw[exV_out];go_enter Tryz.func47,Tryz.ntmps47;go_upto_region 2 with fail;rw[<-hw0];clear hw0 ho0;obtain⟨n0,hn0⟩:∃n0,n0=w.heap.size:=⟨_,rfl⟩
 unfold PostMn;rw[<-hn0] at E0 Z0 O0 L0 A0 B0 ⊢;have HB:Hid (n0=w.heap.size):=hn0;clear hn0 hbx;obtain⟨p0,p1,p2,p3,p4,pf⟩:=box5 E0.1;have HNW:Hid (∀ W,Below n0 w W->Nms W (.slice ab bd.length cb) bd):=fun W b=>Nms.below HNM.out (by rw[<-HB.out];exact b);by_cases h4:e.k=4
 ·have hb4:(e.k==4)=true:=by simpa using h4
  have HY4:Hid (Y=⟨5,lastI bd e.nm 0 e.n,[],0,.nil⟩):=by show _=_;rw[HY.out];unfold ofE;rw[if_pos h4]
  have s1:Step (fun k=>k=1) w0 o0 (w0.setCell ⟨n0+1+1,0,none⟩ (.int .i64 5)) o0:=setStep _ w0 o0 ⟨n0+1+1,0,none⟩ _ O0.2;have O1:=O0.set 0 (.int .i64 5);have E1:=E0.step s1 (by decide);have Z1:=Z0.step s1 (by decide);have B1:=below_stepB B0 s1 (fun k hk=>by rw[L0 k hk];decide) (by rw[HB.out];exact Nat.le_refl _);have LH:Hid (∀ k,k<n0->o0 k=0):=L0;obtain⟨t0,t1,t2,t3,tf⟩:=box4 O0.1;clear s1 E0 Z0 O0 A0 B0 HY L0 N0;go_wp2;clear p0 p1 p2 p3 p4 pf t0 t1 t2 t3 tf;go_loopw [6] (fun v wr=>∃(j:Nat) (n1:Int),v=.int .i64 (j:Nat)/\j<=bd.length/\Hid (lastI (bd.drop j) e.nm j n1=lastI bd e.nm 0 e.n)/\Blk wr o0 0 n0 (.cells #[.int .i64 e.k,.int .i64 e.n,stv e.nm,.slice ao e.kids.len cap,.int .i64 e.a] 25)/\Blk wr o0 3 (n0+1) (.cells #[.int .i64 0,.int .i64 0,.string ⟨#[]⟩,.slice none 0 0] 34)/\Blk wr o0 1 (n0+1+1) (.cells #[.int .i64 5,.int .i64 n1,.string ⟨#[]⟩,.slice none 0 0] 34)/\Below n0 w wr) (fun v _=>bd.length-(intOf v).toNat)
  case atStart=>exact⟨0,e.n,by show _=Value.int .i64 ((0:Nat):Int);rfl,by omega,rfl,E1,Z1,O1,B1⟩
  case round =>
   clear E1 Z1 O1 B1;obtain⟨j,n1,rfl,hj,HL,E1,Z1,O1,B1⟩:=hrel;obtain⟨p0,p1,p2,p3,p4,pf⟩:=box5 E1.1;obtain⟨t0,t1,t2,t3,tf⟩:=box4 O1.1;by_cases hlt:j<bd.length
   ·have hx:bd[j]?=some bd[j]:=List.getElem?_eq_getElem hlt;have hdrop:bd.drop j=bd[j]::bd.drop (j+1):=List.drop_eq_getElem_cons hlt;obtain⟨_,_,hv,-,h1|⟨gb,h1,hgb,-,hcell⟩⟩:=HNW.out wr B1
    ·rw[h1.1] at hlt;simp at hlt
    injection hv with hv1
    subst hv1;subst h1;have hcj:=hcell j _ hx;have HLD:Hid (lastI (bd[j]::bd.drop (j+1)) e.nm j n1=lastI bd e.nm 0 e.n):=by show _=_;rw[<-hdrop];exact HL.out
    generalize bd[j]=x at hcj HLD;have hltI:(j:Int)<(bd.length:Int):=by omega
    have hjb:j<1000000:=by omega
    clear hx hdrop hcell HL;go_upto_region 8 with fail;by_cases hxe:x=e.nm
    ·have hbe:(x==e.nm)=true:=by simpa using hxe
     have HL2:Hid (lastI (bd.drop (j+1)) e.nm (j+1) (j:Int)=lastI bd e.nm 0 e.n):=by
      have h:lastI (bd.drop (j+1)) e.nm (j+1) (if x=e.nm then (j:Int) else n1)=lastI bd e.nm 0 e.n:=HLD.out;rw[if_pos hxe] at h;exact h
     clear hxe HLD
     go_quiet (fail)
     have bq:Below wr.heap.size wr (wr.drewN nq):=bdr (Below.refl _ _) nq;have sq:Step (fun _=>False) wr o0 (wr.drewN nq) o0:=(Step.refl _ wr o0).drewN nq;have E2:=E1.step sq id;have Z2:=Z1.step sq id;have O2:=O1.step sq id;have B2:=below_stepB B1 sq (fun _ _=>id) (by rw[HB.out];exact Nat.le_refl _);generalize wr.drewN nq=wq at *;clear E1 Z1 O1 B1 bq sq p0 p1 p2 p3 p4 pf t0 t1 t2 t3 tf hcj;obtain⟨t0,t1,t2,t3,tf⟩:=box4 O2.1;have s3:Step (fun k=>k=1) wq o0 (wq.setCell ⟨n0+1+1,1,none⟩ (.int .i64 (j:Nat))) o0:=setStep _ wq o0 ⟨n0+1+1,1,none⟩ _ O2.2;have O3:=O2.set 1 (.int .i64 (j:Nat));have E3:=E2.step s3 (by decide);have Z3:=Z2.step s3 (by decide);have B3:=below_stepB B2 s3 (fun k hk=>by rw[LH.out k hk];decide) (by rw[HB.out];exact Nat.le_refl _);clear s3 E2 Z2 O2 B2;go_wp2;go_roundw
     case rel=>(try ((repeat apply Exists.intro);refine⟨?_,rfl⟩));exact⟨j+1,_,by go_num,by omega,HL2,E3,Z3,O3,B3⟩
     case measure=>simp[intOf];omega
    ·have hbe:(x==e.nm)=false:=by simpa using hxe
     have HL2:Hid (lastI (bd.drop (j+1)) e.nm (j+1) n1=lastI bd e.nm 0 e.n):=by
      have h:lastI (bd.drop (j+1)) e.nm (j+1) (if x=e.nm then (j:Int) else n1)=lastI bd e.nm 0 e.n:=HLD.out;rw[if_neg hxe] at h;exact h
     clear hxe HLD
     go_quiet (fail)
     have sq:Step (fun _=>False) wr o0 (wr.drewN nq) o0:=(Step.refl _ wr o0).drewN nq;have E2:=E1.step sq id;have Z2:=Z1.step sq id;have O2:=O1.step sq id;have B2:=below_stepB B1 sq (fun _ _=>id) (by rw[HB.out];exact Nat.le_refl _);generalize wr.drewN nq=wq at *;clear E1 Z1 O1 B1 sq p0 p1 p2 p3 p4 pf t0 t1 t2 t3 tf hcj;go_wp2;go_roundw
     case rel=>(try ((repeat apply Exists.intro);refine⟨?_,rfl⟩));exact⟨j+1,_,by go_num,by omega,HL2,E2,Z2,O2,B2⟩
     case measure=>simp[intOf];omega
   ·have hltI:¬(j:Int)<(bd.length:Int):=by omega
    have HN1:Hid (n1=lastI bd e.nm 0 e.n):=by
     have h:=HL.out;rw[List.drop_eq_nil_of_le (by omega)] at h;exact h
    have HU:Hid (∃wz,wz=((((wr.setCell ⟨n0+1,0,none⟩ (.int .i64 5)).setCell ⟨n0+1,1,none⟩ (.int .i64 n1)).setCell ⟨n0+1,2,none⟩ (.string ⟨#[]⟩)).setCell ⟨n0+1,3,none⟩ (.slice none 0 0))/\wz.cell? ⟨n0+1,0,none⟩=some (.int .i64 5)/\wz.cell? ⟨n0+1,1,none⟩=some (.int .i64 n1)/\wz.cell? ⟨n0+1,2,none⟩=some (.string ⟨#[]⟩)/\wz.cell? ⟨n0+1,3,none⟩=some (.slice none 0 0)/\Below n0 w wz):=by
     obtain⟨u0,u1,u2,u3,-⟩:=box4 (set4k (b0:=.int .i64 5) (b1:=.int .i64 n1) (b2:=.string ⟨#[]⟩) (b3:=.slice none 0 0) Z1.1);exact⟨_,rfl,u0,u1,u2,u3,(((B1.setCell (p:=⟨n0+1,0,none⟩) (Nat.le_succ _) _).setCell (p:=⟨n0+1,1,none⟩) (Nat.le_succ _) _).setCell (p:=⟨n0+1,2,none⟩) (Nat.le_succ _) _).setCell (p:=⟨n0+1,3,none⟩) (Nat.le_succ _) _⟩
    obtain⟨z0,z1,z2,z3,zf⟩:=box4 Z1.1;clear E1 Z1 O1 B1 HL;go_wp2;obtain⟨wz,hwz,v0,v1,v2,v3,BZ⟩:=HU.out;rw[<-hwz];refine bodyPost_ret (v:=exN Y none 0) ?_ rfl ⟨none,0,rfl,by rw[HY4.out];exact SlN.nil _ _ _,by rw[<-HB.out];exact BZ⟩;rw[HY4.out,<-HN1.out];simp[results,Tryz.results47,go_sem,v0,v1,v2,v3,exN];rfl
 have hb4:(e.k==4)=false:=by simpa using h4
 obtain⟨onm,honm⟩:∃onm,onm=if e.k=23 then e.nm else ([]:List UInt8):=⟨_,rfl⟩
 obtain⟨F,hF⟩:∃F,F=ofF e.kids e.k e.nm 0 bd:=⟨_,rfl⟩
 have HYN:Hid (Y=⟨e.k,e.n,onm,0,F⟩):=by show _=_;rw[HY.out,honm,hF];unfold ofE;rw[if_neg h4]
 have HF:Hid (F=ofF e.kids e.k e.nm 0 bd):=hF;have HOM:Hid (onm=if e.k=23 then e.nm else ([]:List UInt8)):=honm;have LH:Hid (∀ k,k<n0->o0 k=0):=L0;clear honm hF HY h4 N0 L0;have hcase:((e.k==23)=true/\onm=e.nm)\/((e.k==23)=false/\onm=[]):=by
  by_cases h23:e.k=23
  ·exact .inl ⟨by simpa using h23,by rw[HOM.out,if_pos h23]⟩
  ·exact .inr ⟨by simpa using h23,by rw[HOM.out,if_neg h23]⟩
 rcases hcase with ⟨hb23,ho1⟩|⟨hb23,ho1⟩
 focus
  obtain⟨t0,t1,t2,t3,tf⟩:=box4 O0.1;have s1:Step (fun k=>k=1) w0 o0 (w0.setCell ⟨n0+1+1,2,none⟩ (stv e.nm)) o0:=setStep _ w0 o0 ⟨n0+1+1,2,none⟩ _ O0.2;have O1:Blk (w0.setCell ⟨n0+1+1,2,none⟩ (stv e.nm)) o0 1 (n0+1+1) (.cells #[.int .i64 e.k,.int .i64 e.n,stv onm,.slice none 0 0] 34):=by rw[ho1];exact O0.set 2 (stv e.nm)
  have E1:=E0.step s1 (by decide);have Z1:=Z0.step s1 (by decide);have A1:=A0.step s1 (by decide) (by decide);have B1:=below_stepB B0 s1 (fun k hk=>by rw[LH.out k hk];decide) (by rw[HB.out];exact Nat.le_refl _);clear s1 O0 E0 Z0 A0 B0 ho1;go_upto_region 13 with fail;generalize w0.setCell ⟨n0+1+1,2,none⟩ (stv e.nm)=w1 at *;clear t0 t1 t2 t3 tf
 rotate_left
 focus
  have O1:Blk w0 o0 1 (n0+1+1) (.cells #[.int .i64 e.k,.int .i64 e.n,stv onm,.slice none 0 0] 34):=by rw[ho1];exact O0
  have E1:=E0;have Z1:=Z0;have A1:=A0;have B1:=B0;clear O0 E0 Z0 A0 B0 ho1;go_upto_region 13 with fail
 all_goals (
  clear p0 p1 p2 p3 p4 pf HOM;go_wp2;go_loopw [7] (fun v wr=>∃(done r acc:Fs) (o:Nat->Nat) (va:Value),Hid (e.kids=done.app r)/\v=.int .i64 (done.len:Nat)/\Hid (acc.len=done.len)/\Hid (acc.app (ofF r e.k e.nm done.len bd)=F)/\Blk wr o 0 n0 (.cells #[.int .i64 e.k,.int .i64 e.n,stv e.nm,.slice ao e.kids.len cap,.int .i64 e.a] 25)/\Blk wr o 3 (n0+1) (.cells #[.int .i64 0,.int .i64 0,.string ⟨#[]⟩,.slice none 0 0] 34)/\Blk wr o 1 (n0+1+1) (.cells #[.int .i64 e.k,.int .i64 e.n,stv onm,va] 34)/\AccD wr o (fun _=>False) n0 acc va/\Hid (∀ k,k<n0->o k=0)/\Below n0 w wr) (fun v _=>e.kids.len-(intOf v).toNat)
  case atStart=>exact⟨.nil,e.kids,.nil,o0,.slice none 0 0,rfl,by show _=Value.int .i64 ((0:Nat):Int);rfl,rfl,HF.out.symm,E1,Z1,O1,A1,LH,B1⟩
  case round =>
   clear E1 Z1 O1 A1 B1 HF LH;obtain⟨done,r,acc,o,va,hk,rfl,hal,HA,E1,Z1,O1,A1,L1,B1⟩:=hrel;have hlk:e.kids.len=done.len+r.len:=by rw[hk.out,Fs.len_app]
   obtain⟨p0,p1,p2,p3,p4,pf⟩:=box5 E1.1;cases r using Fs.on with
   | nil =>
    have hl0:¬(done.len:Int)<(e.kids.len:Int):=by simp only[Fs.len] at hlk;omega
    have HDN:Hid (acc=F):=by
     show _=_;rw[<-HA.out];exact(app_nil' acc).symm
    obtain⟨ad,cd,rfl,SD⟩:=A1.sl;have HU:Hid (∃wz,wz=((((wr.setCell ⟨n0+1,0,none⟩ (.int .i64 e.k)).setCell ⟨n0+1,1,none⟩ (.int .i64 e.n)).setCell ⟨n0+1,2,none⟩ (stv onm)).setCell ⟨n0+1,3,none⟩ (.slice ad acc.len cd))/\wz.cell? ⟨n0+1,0,none⟩=some (.int .i64 e.k)/\wz.cell? ⟨n0+1,1,none⟩=some (.int .i64 e.n)/\wz.cell? ⟨n0+1,2,none⟩=some (stv onm)/\wz.cell? ⟨n0+1,3,none⟩=some (.slice ad acc.len cd)/\SlN wz (Nw n0) acc ad/\Below n0 w wz):=by
     obtain⟨u0,u1,u2,u3,-⟩:=box4 (set4k (b0:=.int .i64 e.k) (b1:=.int .i64 e.n) (b2:=stv onm) (b3:=.slice ad acc.len cd) Z1.1);refine⟨_,rfl,u0,u1,u2,u3,?_,(((B1.setCell (p:=⟨n0+1,0,none⟩) (Nat.le_succ _) _).setCell (p:=⟨n0+1,1,none⟩) (Nat.le_succ _) _).setCell (p:=⟨n0+1,2,none⟩) (Nat.le_succ _) _).setCell (p:=⟨n0+1,3,none⟩) (Nat.le_succ _) _⟩;exact SD.mono (fun i hp hl=>heap_set4 wr (n0+1) i _ _ _ _ (fun ee=>by
      have h2:=Z1.2;rw[<-ee] at h2;rcases hp.1 with h|h<;>omega)) (by simp) (fun i hp _=>by
       rcases hp.2 with h|h
       ·exact h.1.elim
       ·exact h)
    obtain⟨z0,z1,z2,z3,zf⟩:=box4 Z1.1;obtain⟨t0,t1,t2,t3,tf⟩:=box4 O1.1;clear E1 Z1 O1 A1 B1 SD HA hk hlk;go_wp2;obtain⟨wz,hwz,v0,v1,v2,v3,SZ,BZ⟩:=HU.out;rw[<-hwz];refine bodyPost_ret (v:=exN Y ad cd) ?_ rfl ⟨ad,cd,rfl,by rw[HYN.out,<-HDN.out,<-HB.out];exact SZ,by rw[<-HB.out];exact BZ⟩;rw[HYN.out,<-HDN.out];simp[results,Tryz.results47,go_sem,v0,v1,v2,v3,exN]
   | cons kk kn km ka kks kr =>
    have hl0:(done.len:Int)<(e.kids.len:Int):=by simp only[Fs.len] at hlk;omega
    have hl1:done.len<e.kids.len:=by omega
    have hsz:e.kids.size=done.size+(kks.size+kr.size+1):=by rw[hk.out,Fs.size_app];rfl
    have hsk:(Fs.cons kk kn km ka kks kr).short:=Fs.app_short (by rw[<-hk.out];exact hsh);have hk2:Hid (e.kids=(done.snoc ⟨kk,kn,km,ka,kks⟩).app kr):=by show e.kids=_;rw[hk.out];unfold Fs.snoc;rw[Fs.app_assoc];rfl
    have hl2:(done.len:Int)+1=((done.snoc ⟨kk,kn,km,ka,kks⟩).len:Nat):=by rw[Fs.len_snoc];rfl
    have HA2:Hid (acc.app (Fs.ex (ofE ⟨kk,kn,km,ka,kks⟩ (innB e.k e.nm done.len bd)) (ofF kr e.k e.nm (done.len+1) bd))=F):=by
     have h:=HA.out;rw[of_cons] at h;exact h
    have hbl:(innB e.k e.nm done.len bd).length<=bd.length+1:=by unfold innB;split<;>simp
    have HS1:Hid (∀ W,Below n0 w W->SlA W (done.app (.cons kk kn km ka kks kr)) ao):=fun W b=>by rw[<-hk.out];exact SlT.below S (by rw[<-HB.out];exact b)
    by_cases hA:e.k=21/\done.len=1
    focus
     have hk21:(e.k==21)=true:=by simpa using hA.1
     have hd1:((done.len:Int)==1)=true:=by simp;omega
     have HIN:Hid (innB e.k e.nm done.len bd=bd++[e.nm]):=by show _=_;unfold innB;rw[if_pos hA]
     have hnews:=Nms.news (HNW.out wr B1);have hone:=ones_str bd;have hE1:=E1.lt;clear hA hk hlk;go_wp2_with (first|(at_builtin;refine wpList_append_any rfl (.tmp 57) (.tmp 58) 82 rfl 9 is (.string ⟨#[]⟩) 1 16 Tryz.underlying82 his hzs0 hzs1 hzs2 rfl (by decide) o 7 _ 0 [] rfl (Row.nil _ _ _ _ _) ab bd.length cb (bd.map fun x=>stv x) rfl ?c1 hnews hone ?c3 ?c4 ?_)|go_in)
     case c1=>simp
     case c3=>unfold maxLen;omega
     case c4=>omega
     intro a2 c2 w2 o2 R2 s2;try simp only[Nat.zero_add,List.nil_append] at R2
     try simp only[Nat.zero_add,List.nil_append]
     have E2:=E1.step s2 (by decide);have Z2:=Z1.step s2 (by decide);have O2:=O1.step s2 (by decide);have A2:=A1.step s2 (by decide) (by decide);have L2:Hid (∀ k,k<n0->o2 k=0):=fun k hk=>(s2.lab k (by omega)).trans (L1.out k hk);have B2:=below_stepB B1 s2 (fun k hk=>by rw[L1.out k hk];decide) (by rw[HB.out];exact Nat.le_refl _);clear hnews hone s2 E1 Z1 O1 A1 L1 B1 p0 p1 p2 p3 p4 pf;obtain⟨p0,p1,p2,p3,p4,pf⟩:=box5 E2.1;have s3:=boxStep (fun _=>False) w2 o2 (.cells #[stv e.nm] 9);have R3:=R2.step s3 id;have E3:=E2.step s3 id;have Z3:=Z2.step s3 id;have O3:=O2.step s3 id;have A3:=A2.step s3 id id;have hE2:=E2.lt;have L3:Hid (∀ k,k<n0->newLab w2 o2 0 k=0):=fun k hk=>by rw[newLab_old (by omega)];exact L2.out k hk
     have B3:=below_stepB B2 s3 (fun _ _=>id) (by rw[HB.out];exact Nat.le_refl _);have hone:∀ u ∈ [stv e.nm],u.oneCell'=true:=by intro u hu;simp at hu;subst hu;rfl
     have q1:bd.length+1<=maxLen:=by unfold maxLen;omega
     have q2:(bd.length+1)*16<=140737488355328:=by omega
     clear s3 E2 Z2 O2 A2 L2 B2 R2;go_wp2_with (first|(at_builtin;refine wpList_append_lab rfl (.tmp 60) (.tmp 63) 82 rfl 9 is (.string ⟨#[]⟩) 1 16 Tryz.underlying82 his hzs0 hzs1 hzs2 rfl (by decide) (newLab w2 o2 0) 7 _ bd.length (bd.map fun x=>stv x) rfl R3 ⟨w2.heap.size,0,none⟩ 1 1 [stv e.nm] rfl rfl (new_one w2 _ _) hone (by decide) q1 q2 ?_)|go_in);intro g9 c9 w9 o9 r9 s9;have hml:(bd++[e.nm]).map (fun x=>stv x)=(bd.map fun x=>stv x)++[stv e.nm]:=by simp
     have N4:Nms w9 (.slice (some ⟨g9,0,none⟩) (bd.length+1) c9) (innB e.k e.nm done.len bd):=by rw[HIN.out];exact Nms.ofRowL (by rw[hml];exact r9) (by simp) (by omega)
     have E4:=E3.step s9 (by decide);have Z4:=Z3.step s9 (by decide);have O4:=O3.step s9 (by decide);have A4:=A3.step s9 (by decide) (by decide);have L4:Hid (∀ k,k<n0->o9 k=0):=fun k hk=>(s9.lab k (by simp;omega)).trans (L3.out k hk);have B4:=below_stepB B3 s9 (fun k hk=>by rw[L3.out k hk];decide) (by rw[HB.out];exact Nat.le_refl _);clear hml r9 s9 R3 E3 Z3 O3 A3 L3 B3 hone p0 p1 p2 p3 p4 pf HA;go_upto_region 21 with fail;generalize o9=o4 at *;generalize w9=w4 at *
    rotate_left
    focus
     have hgd:(e.k==21)=false\/((e.k==21)=true/\((done.len:Int)==1)=false):=by
      rcases Classical.em (e.k=21) with h21|h21
      ·exact .inr ⟨by simpa using h21,by have h3:done.len≠1:=fun h=>hA ⟨h21,h⟩;simp;omega⟩
      ·exact .inl (by simpa using h21)
     have HIN:Hid (innB e.k e.nm done.len bd=bd):=by show _=_;unfold innB;rw[if_neg hA]
     have N4:Nms wr (.slice ab bd.length cb) (innB e.k e.nm done.len bd):=by rw[HIN.out];exact HNW.out wr B1
     have E4:=E1;have Z4:=Z1;have O4:=O1;have A4:=A1;have L4:=L1;have B4:=B1;clear E1 Z1 O1 A1 L1 B1 hA hk hlk HA;rcases hgd with hk21|⟨hk21,hd1⟩
     all_goals (
      go_upto_region 21 with fail;clear p0 p1 p2 p3 p4 pf;generalize o=o4 at *;generalize wr=w4 at *)
    all_goals (
     obtain⟨p0,p1,p2,p3,p4,pf⟩:=box5 E4.1;obtain⟨b,off,ak,ck,hao,lb1,-,x0,x1,x2,x3,x4,SK⟩:=Sl.kidQ (HS1.out w4 B4);have hc:=IH ⟨kk,kn,km,ka,kks⟩ ak ck (innB e.k e.nm done.len bd) _ w4 (by show kks.size<N;omega) hsk.2.1 hsk.2.2.1 (by show _+kks.size<=1000000;omega) N4 SK;generalize ofE ⟨kk,kn,km,ka,kks⟩ (innB e.k e.nm done.len bd)=y at *;generalize (innB e.k e.nm done.len bd).length=nb at *;rw[exV_out] at hc;simp only at hc;subst hao;have hn0:n0<=w4.heap.size:=by have:=E4.lt;omega
     clear hsz hsk SK N4 hbl;go_wp2_with fail;refine hc.mono ?_;rintro x w6 ⟨ay,cy,rfl,S6,b6⟩;have s6:Step (fun _=>False) w4 o4 w6 (newLab w4 o4 0):=Below.toStepC b6;have T6:SlN w6 (PD (fun _=>False) n0 (newLab w4 o4 0)) y.kids ay:=S6.mono (fun _ _ _=>rfl) (Nat.le_refl _) (fun i hp hl=>⟨newLab_new hp,.inr (Nat.le_trans hn0 hp)⟩);have L6:Hid (∀ k,k<n0->newLab w4 o4 0 k=0):=fun k hk=>by rw[newLab_old (by omega)];exact L4.out k hk
     have E6:=E4.step s6 id;have Z6:=Z4.step s6 id;have O6:=O4.step s6 id;have A6:=A4.step s6 id id;have B6:=below_stepB B4 s6 (fun _ _=>id) (by rw[HB.out];exact Nat.le_refl _);generalize newLab w4 o4 0=o6 at *;clear hc S6 b6 s6 E4 Z4 O4 A4 B4 L4 x0 x1 x2 x3 x4 p0 p1 p2 p3 p4 pf;have s7:=boxStep (fun _=>False) w6 o6 (.cells #[.int .i64 y.k,.int .i64 y.n,stv y.nm,.slice ay y.kids.len cy] 34);have K7:=boxBlk w6 o6 #[.int .i64 y.k,.int .i64 y.n,stv y.nm,.slice ay y.kids.len cy] 34;have T7:=T6.labD s7 id;have hs6:n0<=w6.heap.size:=by have:=E6.lt;omega
     have L7:Hid (∀ k,k<n0->newLab w6 o6 0 k=0):=fun k hk=>by rw[newLab_old (by omega)];exact L6.out k hk
     have E7:=E6.step s7 id;have Z7:=Z6.step s7 id;have O7:=O6.step s7 id;have A7:=A6.step s7 id id;have B7:=below_stepB B6 s7 (fun _ _=>id) (by rw[HB.out];exact Nat.le_refl _);rw[exN_out];go_upto_region 22 with fail;generalize newLab w6 o6 0=o7 at *;generalize w6.alloc (.cells #[.int .i64 y.k,.int .i64 y.n,stv y.nm,.slice ay y.kids.len cy] 34)=w7 at *;generalize w6.heap.size=bk at *;clear s7 T6 E6 Z6 O6 A6 B6 L6;obtain⟨p0,p1,p2,p3,pf⟩:=box4 O7.1;obtain⟨q0,q1,q2,q3,qf⟩:=box4 K7.1;have s8:=boxStep (fun _=>False) w7 o7 (.cells #[.int .i64 y.k,.int .i64 y.n,stv y.nm,.slice ay y.kids.len cy] 34);have T8:=T7.labD s8 id;have hE7:=E7.lt;have L8:Hid (∀ k,k<n0->newLab w7 o7 0 k=0):=fun k hk=>by rw[newLab_old (by omega)];exact L7.out k hk
     have E8:=E7.step s8 id;have Z8:=Z7.step s8 id;have O8:=O7.step s8 id;have A8:=A7.step s8 id id;have B8:=below_stepB B7 s8 (fun _ _=>id) (by rw[HB.out];exact Nat.le_refl _);obtain⟨xs,R8,F8,-⟩:=A8;obtain⟨a8,c8,rfl⟩:=R8.form;have b1:acc.len+1<=maxLen:=by have:=hal.out;unfold maxLen;omega
     have b2:(acc.len+1)*56<=140737488355328:=by have:=hal.out;omega
     have hone:∀ u ∈ [Value.int .i64 y.k,.int .i64 y.n,stv y.nm,.slice ay y.kids.len cy],u.oneCell'=true:=by intro u hu;simp at hu;rcases hu with rfl|rfl|rfl|rfl<;>rfl
     have hw8:n0<=(w7.alloc (.cells #[.int .i64 y.k,.int .i64 y.n,stv y.nm,.slice ay y.kids.len cy] 34)).heap.size:=by simp;omega
     have hne2:∀ k,k<n0->newLab w7 o7 0 k≠2:=fun k hk=>by rw[L8.out k hk];decide
     clear E7 Z7 O7 A7 B7 L7 T7 s8;go_wp2_with (first|(at_builtin;refine wpList_append_lab rfl (.tmp 73) (.tmp 75) 32 rfl 34 ii _ 4 56 Tryz.underlying32 hii hzi0 hzi1 hzi2 rfl (by decide) (newLab w7 o7 0) 2 _ acc.len xs rfl R8 ⟨w7.heap.size,0,none⟩ 1 1 [Value.int .i64 y.k,.int .i64 y.n,stv y.nm,.slice ay y.kids.len cy] rfl rfl (new_cells_at w7 _ _) hone (by decide) b1 b2 ?_)|go_in);intro g9 c9 w9 o9 r9 s9;have A9:AccD w9 o9 (fun _=>False) n0 (acc.snoc y) (.slice (some ⟨g9,0,none⟩) (acc.len+1) c9):=AccD.push F8 T8 s9 hne2 hw8 r9;have E9:=E8.step s9 (by decide);have Z9:=Z8.step s9 (by decide);have O9:=O8.step s9 (by decide);have L9:Hid (∀ k,k<n0->o9 k=0):=fun k hk=>(s9.lab k (by omega)).trans (L8.out k hk);have B9:=below_stepB B8 s9 (fun k hk=>by rw[L8.out k hk];decide) (by rw[HB.out];exact Nat.le_refl _);have s10:Step (fun k=>k=1) w9 o9 (w9.setCell ⟨n0+1+1,3,none⟩ (.slice (some ⟨g9,0,none⟩) (acc.len+1) c9)) o9:=setStep _ w9 o9 ⟨n0+1+1,3,none⟩ _ O9.2;have A10:=A9.step s10 (by decide) (by decide);have E10:=E9.step s10 (by decide);have Z10:=Z9.step s10 (by decide);have O10:=O9.set 3 (.slice (some ⟨g9,0,none⟩) (acc.len+1) c9);have B10:=below_stepB B9 s10 (fun k hk=>by rw[L9.out k hk];decide) (by rw[HB.out];exact Nat.le_refl _);obtain⟨t0,t1,t2,t3,tf⟩:=box4 O9.1;have HA3:Hid ((acc.snoc y).app (ofF kr e.k e.nm (done.snoc ⟨kk,kn,km,ka,kks⟩).len bd)=F):=by
      show _=_;rw[Fs.len_snoc,<-HA2.out];unfold Fs.snoc;rw[Fs.app_assoc];rfl
     have hal2:Hid ((acc.snoc y).len=(done.snoc ⟨kk,kn,km,ka,kks⟩).len):=by show _=_;rw[Fs.len_snoc,Fs.len_snoc,hal.out]
     clear A9 E9 Z9 O9 B9 s10 E8 Z8 O8 B8 L8 T8 R8 F8 r9 s9 p0 p1 p2 p3 pf q0 q1 q2 q3 qf K7 HA2 hne2;go_wp2;go_roundw
     case rel=>(try ((repeat apply Exists.intro);refine⟨?_,rfl⟩));exact⟨_,kr,_,o9,_,hk2,by rw[<-hl2],hal2,HA3,E10,Z10,O10,A10,L9,B10⟩
     case measure=>simp[intOf];omega))
theorem node_ok:∀ N,NodeOk N -- 47
 | 0=>fun e ao cap bd bv w h=>absurd h (Nat.not_lt_zero _)
 | N+1=>node_step (node_ok N)
structure Wt where
 t:List UInt8
 o:Nat
 q:Nat
abbrev Ow:=Option Wt
def putO (x:List UInt8):Ow->Ow
 | none=>none
 | some s=>if 2000<s.t.length+x.length then none else some ⟨s.t++x,s.o,s.q⟩
def entO:Ow->Ow
 | none=>none
 | some s=>if 64<s.o+1 then none else some ⟨s.t,s.o+1,s.q⟩
def leaO:Ow->Ow
 | none=>none
 | some s=>some ⟨s.t,s.o-1,s.q⟩
def qenO:Ow->Ow
 | none=>none
 | some s=>if 4<s.q+1 then none else some ⟨s.t,s.o,s.q+1⟩
def qleO:Ow->Ow
 | none=>none
 | some s=>some ⟨s.t,s.o,s.q-1⟩
def absO (s:St):Ow:=if roomB s then some ⟨s.t,s.a,s.b⟩ else none
theorem room_iff (s:St):roomB s=true ↔ s.t.length<=2000/\s.m<=64/\s.n<=4:=by
 unfold roomB;simp only[Bool.not_eq_true',Bool.or_eq_false_iff,decide_eq_false_iff_not];omega
theorem abs_some {s:St}(h:s.t.length<=2000/\s.m<=64/\s.n<=4):absO s=some ⟨s.t,s.a,s.b⟩:=by unfold absO;rw[if_pos ((room_iff s).2 h)]
theorem abs_none {s:St}(h:¬(s.t.length<=2000/\s.m<=64/\s.n<=4)):absO s=none:=by unfold absO;rw[if_neg (fun e=>h ((room_iff s).1 e))]
theorem abs_put (x:List UInt8)(s:St):putO x (absO s)=absO (s.lay x):=by
 by_cases h:s.t.length<=2000/\s.m<=64/\s.n<=4
 ·rw[abs_some h];by_cases h2:2000<s.t.length+x.length
  ·rw[abs_none (s:=s.lay x) (by simp only[St.lay,List.length_append];omega)];simp[putO,h2]
  ·rw[abs_some (s:=s.lay x) (by simp only[St.lay,List.length_append];omega)];simp[putO,h2,St.lay]
 ·rw[abs_none h,abs_none (s:=s.lay x) (by simp only[St.lay,List.length_append];omega)];rfl
theorem abs_ent (s:St):entO (absO s)=absO s.ent:=by
 by_cases h:s.t.length<=2000/\s.m<=64/\s.n<=4
 ·rw[abs_some h];by_cases h2:64<s.a+1
  ·rw[abs_none (s:=s.ent) (by simp only[St.ent];omega)];simp[entO,h2]
  ·rw[abs_some (s:=s.ent) (by simp only[St.ent];omega)];simp[entO,h2,St.ent]
 ·rw[abs_none h,abs_none (s:=s.ent) (by simp only[St.ent];omega)];rfl
theorem abs_lea (s:St):leaO (absO s)=absO s.lea:=by
 by_cases h:s.t.length<=2000/\s.m<=64/\s.n<=4
 ·rw[abs_some h,abs_some (s:=s.lea) h];rfl
 ·rw[abs_none h,abs_none (s:=s.lea) h];rfl
theorem abs_qen (s:St):qenO (absO s)=absO s.qent:=by
 by_cases h:s.t.length<=2000/\s.m<=64/\s.n<=4
 ·rw[abs_some h];by_cases h2:4<s.b+1
  ·rw[abs_none (s:=s.qent) (by simp only[St.qent];omega)];simp[qenO,h2]
  ·rw[abs_some (s:=s.qent) (by simp only[St.qent];omega)];simp[qenO,h2,St.qent]
 ·rw[abs_none h,abs_none (s:=s.qent) (by simp only[St.qent];omega)];rfl
theorem abs_qle (s:St):qleO (absO s)=absO s.qlea:=by
 by_cases h:s.t.length<=2000/\s.m<=64/\s.n<=4
 ·rw[abs_some h,abs_some (s:=s.qlea) h];rfl
 ·rw[abs_none h,abs_none (s:=s.qlea) h];rfl
def oPlain (k n:Int)(nm:List UInt8)(K:Sep->Ow->Ow)(s:Ow):Ow :=
 if k=1 then putO (Go.Lib.itoa n) s
 else if k=2 then putO (Go.Lib.formatBool (n==1)) s
 else if k=3 then putO ([64]++Go.Lib.itoa n) s
 else if k=4\/k=23 then putO nm s
 else if k=22 then putO [118,101,114,116,105,99,101,115] s
 else K (opS k) s
def oList (x y:List UInt8)(K:Sep->Ow->Ow)(s:Ow):Ow:=putO y (leaO (K comS (putO x (entO s))))
def oNode (k n:Int)(nm:List UInt8)(K:Sep->Ow->Ow)(s:Ow):Ow :=
 if k=7 then leaO (K (fun _=>([110,111,116,32],3)) (entO s))
 else if k=6 then leaO (K (fun _=>([45],7)) (entO s))
 else if k=19 then leaO (K ifS (entO s))
 else if k=21 then qleO (leaO (K (quS n nm) (entO (qenO s))))
 else if k=20 then oList [40] [41] K (putO (cword n) s)
 else if k=24 then oList [40] [41] K (putO [97,114,111,117,110,100] s)
 else if k=25 then oList [123] [125] K s
 else oPlain k n nm K s
def oPart (k n:Int)(nm:List UInt8)(len:Nat)(set:Bool)(K:Sep->Ow->Ow)(s:Ow):Ow :=
 if (numB k n&&namB k nm&&kidB k n len&&(isSetK k==set))=true then oNode k n nm K s else none
def oE (k n:Int)(nm:List UInt8)(len:Nat)(set:Bool)(asked:Nat)(K:Sep->Ow->Ow)(s:Ow):Ow :=
 if rowOf k<asked then putO [41] (leaO (oPart k n nm len false K (putO [40] (entO s)))) else oPart k n nm len set K s
def oFs:Fs->Bool->Sep->Nat->Ow->Ow
 | ⟨none⟩,_,_,_,s=>s
 | ⟨some ⟨k,n,nm,a,ks,r⟩⟩,first,f,i,s=>oFs r false f (i+1) (oE k n nm ks.len first (f i).2 (fun g s=>oFs ks (k==21) g 0 s) (putO (f i).1 s))
def oEx (e:Ex)(set:Bool)(s:Ow):Ow:=oPart e.k e.n e.nm e.kids.len set (fun g s=>oFs e.kids (e.k==21) g 0 s) s
def okS:Fs->Bool->Bool
 | ⟨none⟩,_=>true
 | ⟨some ⟨k,n,nm,a,ks,r⟩⟩,first=>(numB k n&&namB k nm&&kidB k n ks.len&&(isSetK k==first))&&okS ks (k==21)&&okS r false
theorem lay_lay (s:St)(x y:List UInt8):(s.lay x).lay y=s.lay (x++y):=by simp[St.lay]
theorem leaf_len {k n:Int}{m:Nat}(h:kidB k n m=true)(hk:k=1\/k=2\/k=3\/k=4\/k=22\/k=23):m=0:=by
 unfold kidB at h;rcases hk with rfl|rfl|rfl|rfl|rfl|rfl<;>simpa using h
theorem lea_lay (s:St)(x:List UInt8):s.lea.lay x=(s.lay x).lea:=rfl
theorem node_abs {k n:Int}{nm:List UInt8}{K:Sep->St->St}{K':Sep->Ow->Ow}(hK:∀ g s,(k=21->(g 0).2=0)->K' g (absO s)=absO (K g s))(s:St):oNode k n nm K' (absO s)=absO (wNode k n nm K s):=by
 unfold oNode wNode;by_cases h7:k=7
 ·simp only[h7,if_true];rw[abs_ent,hK _ _ (by omega),abs_lea]
 ·by_cases h6:k=6
  ·simp only[h7,h6,if_true,if_false];rw[if_neg (by omega),if_neg (by omega),abs_ent,hK _ _ (by omega),abs_lea]
  ·by_cases h19:k=19
   ·rw[if_neg h7,if_neg h6,if_pos h19,if_neg h7,if_neg h6,if_pos h19,abs_ent,hK _ _ (by omega),abs_lea]
   ·by_cases h21:k=21
    ·rw[if_neg h7,if_neg h6,if_neg h19,if_pos h21,if_neg h7,if_neg h6,if_neg h19,if_pos h21,abs_qen,abs_ent,hK _ _ (fun _=>rfl),abs_lea,abs_qle];rfl
    ·rw[if_neg h7,if_neg h6,if_neg h19,if_neg h21,if_neg h7,if_neg h6,if_neg h19,if_neg h21];by_cases h20:k=20
     ·rw[if_pos h20,if_pos h20];unfold oList wList;rw[abs_put,abs_ent,abs_put,hK _ _ (by omega),abs_lea,abs_put,lea_lay]
     ·rw[if_neg h20,if_neg h20];by_cases h24:k=24
      ·rw[if_pos h24,if_pos h24];unfold oList wList;rw[abs_put,abs_ent,abs_put,hK _ _ (by omega),abs_lea,abs_put,lea_lay]
      ·rw[if_neg h24,if_neg h24];by_cases h25:k=25
       ·rw[if_pos h25,if_pos h25];unfold oList wList;rw[abs_ent,abs_put,hK _ _ (by omega),abs_lea,abs_put,lea_lay]
       ·rw[if_neg h25,if_neg h25];unfold oPlain wPlain;by_cases h1:k=1
        ·rw[if_pos h1,if_pos h1,abs_put]
        ·rw[if_neg h1,if_neg h1];by_cases h2:k=2
         ·rw[if_pos h2,if_pos h2,abs_put]
         ·rw[if_neg h2,if_neg h2];by_cases h3:k=3
          ·rw[if_pos h3,if_pos h3,abs_put,lay_lay]
          ·rw[if_neg h3,if_neg h3];by_cases h4:k=4\/k=23
           ·rw[if_pos h4,if_pos h4,abs_put]
           ·rw[if_neg h4,if_neg h4];by_cases h22:k=22
            ·rw[if_pos h22,if_pos h22,abs_put]
            ·rw[if_neg h22,if_neg h22,hK _ _ (by omega)]
theorem node_none {k n:Int}{nm:List UInt8}{K':Sep->Ow->Ow}(hK:∀ g s,(k=21->(g 0).2=0)->K' g (absO s)=none)(hk:¬(k=1\/k=2\/k=3\/k=4\/k=22\/k=23))(s:St):oNode k n nm K' (absO s)=none:=by
 unfold oNode;by_cases h7:k=7
 ·rw[if_pos h7,abs_ent,hK _ _ (by omega)];rfl
 ·by_cases h6:k=6
  ·rw[if_neg h7,if_pos h6,abs_ent,hK _ _ (by omega)];rfl
  ·by_cases h19:k=19
   ·rw[if_neg h7,if_neg h6,if_pos h19,abs_ent,hK _ _ (by omega)];rfl
   ·by_cases h21:k=21
    ·rw[if_neg h7,if_neg h6,if_neg h19,if_pos h21,abs_qen,abs_ent,hK _ _ (fun _=>rfl)];rfl
    ·rw[if_neg h7,if_neg h6,if_neg h19,if_neg h21];by_cases h20:k=20
     ·rw[if_pos h20];unfold oList;rw[abs_put,abs_ent,abs_put,hK _ _ (by omega)];rfl
     ·rw[if_neg h20];by_cases h24:k=24
      ·rw[if_pos h24];unfold oList;rw[abs_put,abs_ent,abs_put,hK _ _ (by omega)];rfl
      ·rw[if_neg h24];by_cases h25:k=25
       ·rw[if_pos h25];unfold oList;rw[abs_ent,abs_put,hK _ _ (by omega)];rfl
       ·rw[if_neg h25];unfold oPlain;rw[if_neg (by omega),if_neg (by omega),if_neg (by omega),if_neg (by omega),if_neg (by omega),hK _ _ (by omega)]
theorem node_gone {k n:Int}{nm:List UInt8}{K:Sep->Ow->Ow}(hK:∀ g,K g none=none):oNode k n nm K none=none:=by
 simp only[oNode,oList,oPlain,entO,putO,qenO,hK,leaO,qleO];simp only[ite_self]
theorem e_gone {k n:Int}{nm:List UInt8}{len asked:Nat}{set:Bool}{K:Sep->Ow->Ow}(hK:∀ g,K g none=none):oE k n nm len set asked K none=none:=by
 have h:∀ b,oPart k n nm len b K none=none:=fun b=>by unfold oPart;rw[node_gone hK,ite_self]
 unfold oE;rw[h];simp only[entO,putO,h,leaO,ite_self]
theorem fs_gone:∀ (f:Fs) (b:Bool) (g:Sep) (i:Nat),oFs f b g i none=none
 | ⟨none⟩,b,g,i=>rfl
 | ⟨some ⟨k,n,nm,a,ks,r⟩⟩,b,g,i=>by
  simp only[oFs,putO];rw[e_gone (fun g=>fs_gone ks (k==21) g 0)];exact fs_gone r false g (i+1)
theorem leaf_no {k:Int}(h:isSetK k=true):rowOf k=8:=by
 unfold isSetK at h;simp only[Bool.or_eq_true,beq_iff_eq] at h;rcases h with ((rfl|rfl)|rfl)|rfl<;>rfl
theorem fs_abs:∀ (f:Fs) (first:Bool) (g:Sep) (i:Nat) (s:St),(first=true->(g i).2=0)->oFs f first g i (absO s)=bif okS f first then absO (wFs f g i s) else none
 | ⟨none⟩,first,g,i,s,h=>by simp only[oFs,okS,wFs,cond_true]
 | ⟨some ⟨k,n,nm,a,ks,r⟩⟩,first,g,i,s,h=>by
  simp only[oFs,okS,wFs];rw[abs_put];have IHr:=fun s=>fs_abs r false g (i+1) s (fun e=>by cases e);have part:∀ (set:Bool) (s:St),oPart k n nm ks.len set (fun g s=>oFs ks (k==21) g 0 s) (absO s)=if ((numB k n&&namB k nm&&kidB k n ks.len&&(isSetK k==set))&&okS ks (k==21))=true then absO (wNode k n nm (fun g s=>wFs ks g 0 s) s) else none:=fun set s=>by
   unfold oPart;by_cases hv:(numB k n&&namB k nm&&kidB k n ks.len&&(isSetK k==set))=true
   ·rw[if_pos hv];by_cases ho:okS ks (k==21)=true
    ·rw[if_pos (by rw[hv,ho];rfl)];exact node_abs (fun g s hg=>by
      show oFs ks (k==21) g 0 (absO s)=_;rw[fs_abs ks (k==21) g 0 s (fun e=>hg (by simpa using e)),ho,cond_true]) s
    ·rw[if_neg (by intro e;simp only[Bool.and_eq_true] at e;exact ho e.2)];refine node_none (fun g s hg=>?_) ?_ s
     ·show oFs ks (k==21) g 0 (absO s)=_;rw[fs_abs ks (k==21) g 0 s (fun e=>hg (by simpa using e)),show okS ks (k==21)=false by simpa using ho,cond_false]
     ·intro hk;have hkid:kidB k n ks.len=true:=by simp only[Bool.and_eq_true] at hv;exact hv.1.2
      have hl:=leaf_len hkid hk;cases ks using Fs.on with
      | nil=>exact ho (by simp only[okS])
      | cons _ _ _ _ _ _=>simp[Fs.len] at hl
   ·rw[if_neg hv,if_neg (by intro e;simp only[Bool.and_eq_true] at e hv;exact hv e.1)]
  by_cases hv:((numB k n&&namB k nm&&kidB k n ks.len&&(isSetK k==first))&&okS ks (k==21))=true
  ·have e1:oE k n nm ks.len first (g i).2 (fun g s=>oFs ks (k==21) g 0 s) (absO (s.lay (g i).1))=absO (wE k n nm (g i).2 (fun g s=>wFs ks g 0 s) (s.lay (g i).1)):=by
    unfold oE wE;by_cases hr:rowOf k<(g i).2
    ·have hf:first=false:=by
      cases first with
      | false=>rfl
      | true=>have:=h rfl;omega
     subst hf;rw[if_pos hr,if_pos hr,abs_ent,abs_put,part,if_pos hv,abs_lea,abs_put,lea_lay]
    ·rw[if_neg hr,if_neg hr,part,if_pos hv]
   rw[e1,IHr,hv,Bool.true_and]
  ·rw[show ((numB k n&&namB k nm&&kidB k n ks.len&&(isSetK k==first))&&okS ks (k==21))=false from Bool.eq_false_iff.2 hv,Bool.false_and,cond_false];have e1:oE k n nm ks.len first (g i).2 (fun g s=>oFs ks (k==21) g 0 s) (absO (s.lay (g i).1))=none:=by
    unfold oE;by_cases hr:rowOf k<(g i).2
    ·have hf:first=false:=by
      cases first with
      | false=>rfl
      | true=>have:=h rfl;omega
     subst hf;rw[if_pos hr,abs_ent,abs_put,part,if_neg hv];rfl
    ·rw[if_neg hr,part,if_neg hv]
   rw[e1];exact fs_gone r false g (i+1)
theorem ble_no {a b:Nat}(h:¬a<=b):Nat.ble a b=false:=Bool.eq_false_iff.2 fun e=>h (Nat.le_of_ble_eq_true e)
theorem hFs_eq:∀ (f:Fs) (first:Bool) (c:Nat),c<=2000->hFs f first c=bif okS f first&&Nat.ble (c+f.size) 2000 then some (c+f.size) else none
 | ⟨none⟩,first,c,hc=>by
  have h1:Nat.ble c 2000=true:=Nat.ble_eq_true_of_le hc;simp only[hFs,okS,Fs.size,Nat.add_zero,h1,Bool.true_and,cond_true]
 | ⟨some ⟨k,n,nm,a,ks,r⟩⟩,first,c,hc=>by
  simp only[hFs,okS,Fs.size];by_cases hs:isSetK k=first
  ·rw[if_neg (by simp[hs])];by_cases h1:2000<c+1
   ·rw[if_pos h1,ble_no (show ¬c+(ks.size+r.size+1)<=2000 by omega),Bool.and_false,cond_false]
   ·rw[if_neg h1];by_cases hv:(numB k n&&namB k nm&&kidB k n ks.len)=true
    ·rw[if_pos hv,hFs_eq ks (k==21) (c+1) (by omega),show (isSetK k==first)=true by simp[hs],hv,Bool.true_and,Bool.true_and];by_cases ho:okS ks (k==21)=true
     ·rw[ho,Bool.true_and,Bool.true_and];by_cases h2:c+1+ks.size<=2000
      ·rw[Nat.ble_eq_true_of_le h2,cond_true];simp only;rw[hFs_eq r false (c+1+ks.size) h2,show c+(ks.size+r.size+1)=c+1+ks.size+r.size by omega]
      ·rw[ble_no h2,cond_false,ble_no (show ¬c+(ks.size+r.size+1)<=2000 by omega),Bool.and_false,cond_false]
     ·rw[show okS ks (k==21)=false by simpa using ho];simp
    ·rw[if_neg hv,show (numB k n&&namB k nm&&kidB k n ks.len)=false by simpa using hv];simp
  ·rw[if_pos (by simpa using hs),show (isSetK k==first)=false by simpa using hs];simp
def sepL:Fs->Sep->Nat->Nat
 | ⟨none⟩,_,_=>0
 | ⟨some ⟨_,_,_,_,_,r⟩⟩,g,i=>(g i).1.length+sepL r g (i+1)
theorem sep_one {f:Fs}{g:Sep}{i:Nat}(h:0<f.len):(g i).1.length<=sepL f g i:=by
 cases f using Fs.on with
 | nil=>simp[Fs.len] at h
 | cons k n nm a ks r=>simp only[sepL];omega
theorem sep_two {f:Fs}{g:Sep}{i:Nat}(h:1<f.len):(g (i+1)).1.length<=sepL f g i:=by
 cases f using Fs.on with
 | nil=>simp[Fs.len] at h
 | cons k n nm a ks r =>
  have h2:0<r.len:=by simp only[Fs.len] at h;omega
  have:=sep_one (g:=g) (i:=i+1) h2
  simp only[sepL];omega
theorem itoa_pos (n:Int):0<(Go.Lib.itoa n).length:=by
 unfold Go.Lib.itoa;split
 ·simp
 ·rw[Go.Lib.decDigits_length];exact Go.Lib.nDigits_pos _
theorem node_lb {k n:Int}{nm:List UInt8}{f:Fs}{K:Sep->St->St}(hv:(numB k n&&namB k nm&&kidB k n f.len)=true)(hK:∀ g s,s.t.length+f.size+sepL f g 0<=(K g s).t.length)(s:St):s.t.length+f.size+1<=(wNode k n nm K s).t.length:=by
 simp only[Bool.and_eq_true] at hv;obtain⟨⟨hn,hm⟩,hk⟩:=hv;have leaf:(k=1\/k=2\/k=3\/k=4\/k=22\/k=23)->f.size=0:=fun h=>by
  have:=leaf_len hk h
  cases f using Fs.on with
  | nil=>rfl
  | cons _ _ _ _ _ _=>simp[Fs.len] at this
 unfold wNode;by_cases h7:k=7
 ·rw[if_pos h7];have hl:0<f.len:=by rw[h7] at hk;simp[kidB] at hk;omega
  have h1:=hK (fun _=>([110,111,116,32],3)) s.ent;have h2:=sep_one (g:=fun _=>([110,111,116,32],3)) (i:=0) hl;simp only[St.lea,St.ent,List.length_cons,List.length_nil] at h1 h2 ⊢;omega
 rw[if_neg h7];by_cases h6:k=6
 ·rw[if_pos h6];have hl:0<f.len:=by rw[h6] at hk;simp[kidB] at hk;omega
  have h1:=hK (fun _=>([45],7)) s.ent;have h2:=sep_one (g:=fun _=>([45],7)) (i:=0) hl;simp only[St.lea,St.ent,List.length_cons,List.length_nil] at h1 h2 ⊢;omega
 rw[if_neg h6];by_cases h19:k=19
 ·rw[if_pos h19];have hl:0<f.len:=by rw[h19] at hk;simp[kidB] at hk;omega
  have h1:=hK ifS s.ent;have h2:=sep_one (g:=ifS) (i:=0) hl;have h3:(ifS 0).1.length=3:=rfl;simp only[St.lea,St.ent] at h1 ⊢;omega
 rw[if_neg h19];by_cases h21:k=21
 ·rw[if_pos h21];have hl:0<f.len:=by rw[h21] at hk;simp[kidB] at hk;omega
  have h1:=hK (quS n nm) s.ent.qent;have h2:=sep_one (g:=quS n nm) (i:=0) hl;have h3:1<=(quS n nm 0).1.length:=by simp[quS];omega
  simp only[St.lea,St.ent,St.qent,St.qlea] at h1 ⊢;omega
 rw[if_neg h21];have lst:∀ (x y:List UInt8) (s':St),1<=x.length->s'.t.length+f.size+1<=(wList x y K s').t.length:=fun x y s' hx=>by
  have h1:=hK comS (s'.ent.lay x);simp only[wList,St.lea,St.lay,St.ent,List.length_append] at h1 ⊢;omega
 by_cases h20:k=20
 ·rw[if_pos h20]
  have:=lst [40] [41] (s.lay (cword n)) (by simp)
  simp only[St.lay,List.length_append] at this ⊢;omega
 rw[if_neg h20];by_cases h24:k=24
 ·rw[if_pos h24]
  have:=lst [40] [41] (s.lay [97,114,111,117,110,100]) (by simp)
  simp only[St.lay,List.length_append] at this ⊢;omega
 rw[if_neg h24];by_cases h25:k=25
 ·rw[if_pos h25];exact lst [123] [125] s (by simp)
 rw[if_neg h25];unfold wPlain;by_cases h1:k=1
 ·rw[if_pos h1,leaf (.inl h1)]
  have:=itoa_pos n
  simp only[St.lay,List.length_append];omega
 rw[if_neg h1];by_cases h2:k=2
 ·rw[if_pos h2,leaf (by omega)]
  have:0<(Go.Lib.formatBool (n==1)).length:=by cases (n==1)<;>decide
  simp only[St.lay,List.length_append];omega
 rw[if_neg h2];by_cases h3:k=3
 ·rw[if_pos h3,leaf (by omega)];simp only[St.lay,List.length_append,List.length_cons,List.length_nil];omega
 rw[if_neg h3];by_cases h4:k=4\/k=23
 ·rw[if_pos h4,leaf (by omega)]
  have:0<nm.length:=by
   have hm2:nameB nm=true:=by
    unfold namB at hm;rw[if_pos (by simp only[Bool.or_eq_true,beq_iff_eq];omega)] at hm;exact hm
   cases nm with
   | nil=>simp[nameB] at hm2
   | cons _ _=>simp
  simp only[St.lay,List.length_append];omega
 rw[if_neg h4];by_cases h22:k=22
 ·rw[if_pos h22,leaf (by omega)];simp only[St.lay,List.length_append,List.length_cons,List.length_nil];omega
 rw[if_neg h22];have hop:(opOf k).isSome=true/\f.len=2:=by
  have h5:¬k=23:=fun e=>h4 (.inr e);have h6':¬k=4:=fun e=>h4 (.inl e);have h9:(opOf k).isSome=true/\(f.len:Int)=2:=by simpa [kidB,h1,h2,h3,h5,h6',h22,h6,h7,h24,h21,h19,h20,h25] using hk
  exact⟨h9.1,by omega⟩
 have h8:=hK (opS k) s;have h9:(opS k 1).1.length<=sepL f (opS k) 0:=sep_two (i:=0) (by omega);have h10:2<=(opS k 1).1.length:=by
  unfold opS;cases ho:opOf k with
  | none=>rw[ho] at hop;cases hop.1
  | some x=>simp
 omega
theorem fs_lb:∀ (f:Fs) (first:Bool) (g:Sep) (i:Nat) (s:St),okS f first=true->s.t.length+f.size+sepL f g i<=(wFs f g i s).t.length
 | ⟨none⟩,first,g,i,s,h=>by simp[Fs.size,sepL,wFs]
 | ⟨some ⟨k,n,nm,a,ks,r⟩⟩,first,g,i,s,h=>by
  simp only[okS,Bool.and_eq_true] at h;obtain⟨⟨⟨hv,hs⟩,hk⟩,hr⟩:=h;have h1:=fun s'=>node_lb (s:=s') (k:=k) (n:=n) (nm:=nm) (f:=ks) (K:=fun g s=>wFs ks g 0 s) (by simp only[Bool.and_eq_true];exact hv) (fun g s=>fs_lb ks _ g 0 s hk);have h2:(s.lay (g i).1).t.length+ks.size+1<=(wE k n nm (g i).2 (fun g s=>wFs ks g 0 s) (s.lay (g i).1)).t.length:=by
   unfold wE;split
   ·have:=h1 ((s.lay (g i).1).ent.lay [40])
    simp only[St.lea,St.lay,St.ent,List.length_append] at this ⊢;omega
   ·exact h1 _
  have h3:=fs_lb r false g (i+1) (wE k n nm (g i).2 (fun g s=>wFs ks g 0 s) (s.lay (g i).1)) hr;simp only[wFs,Fs.size,sepL,St.lay,List.length_append] at h2 h3 ⊢;omega
def refA (e:Ex):Option (List UInt8):=(oEx e false (some ⟨[],0,0⟩)).map (·.t)
theorem abs_s0:absO s0=some ⟨[],0,0⟩:=rfl
theorem refA_eq (e:Ex):refA e=writA e:=by
 unfold refA writA oEx oPart;rw[<-abs_s0];by_cases hs:isSetK e.k=true
 ·rw[if_pos hs,if_neg (by simp[hs])];rfl
 ·have hs2:isSetK e.k=false:=by simpa using hs
  rw[if_neg hs];have hE1:hE e 0=if (numB e.k e.n&&namB e.k e.nm&&kidB e.k e.n e.kids.len)=true then hFs e.kids (e.k==21) (0+1) else none:=by unfold hE;rw[if_neg (by omega)]
  rw[hE1];by_cases hv:(numB e.k e.n&&namB e.k e.nm&&kidB e.k e.n e.kids.len)=true
  ·rw[if_pos (show (numB e.k e.n&&namB e.k e.nm&&kidB e.k e.n e.kids.len&&(isSetK e.k==false))=true by rw[hv,hs2];rfl),if_pos hv,hFs_eq _ _ _ (by omega)];have hw:wEx e 0 s0=wNode e.k e.n e.nm (fun g s=>wFs e.kids g 0 s) s0:=by unfold wEx wE;rw[if_neg (by omega)]
   by_cases ho:okS e.kids (e.k==21)=true
   ·rw[node_abs (K:=fun g s=>wFs e.kids g 0 s) (fun g s hg=>by
     show oFs e.kids (e.k==21) g 0 (absO s)=_;rw[fs_abs e.kids (e.k==21) g 0 s (fun e=>hg (by simpa using e)),ho,cond_true]) s0,ho,Bool.true_and,<-hw]
    by_cases hr:roomB (wEx e 0 s0)=true
    ·have hlb:=node_lb hv (fun g s=>fs_lb e.kids (e.k==21) g 0 s ho) s0;rw[<-hw] at hlb;have hrr:=(room_iff _).1 hr;have hs0:s0.t.length=0:=rfl;rw[show Nat.ble (0+1+e.kids.size) 2000=true from Nat.ble_eq_true_of_le (by omega),cond_true];simp only[absO,hr,if_true];rfl
    ·rw[show absO (wEx e 0 s0)=none from if_neg hr];cases hd:Nat.ble (0+1+e.kids.size) 2000 with
     | false=>rfl
     | true=>simp only[cond_true];rw[if_neg hr];rfl
   ·have ho2:okS e.kids (e.k==21)=false:=by simpa using ho
    rw[ho2,Bool.false_and,cond_false,node_none (fun g s hg=>by
     show oFs e.kids (e.k==21) g 0 (absO s)=_;rw[fs_abs e.kids (e.k==21) g 0 s (fun e=>hg (by simpa using e)),ho2,cond_false]) (fun hk=>by
      have hkid:kidB e.k e.n e.kids.len=true:=by simp only[Bool.and_eq_true] at hv;exact hv.2
      have hl:=leaf_len hkid hk;cases hke:e.kids using Fs.on with
      | nil=>rw[hke] at ho;exact ho (by simp only[okS])
      | cons _ _ _ _ _ _=>rw[hke] at hl;simp[Fs.len] at hl) s0]
    rfl
  ·rw[if_neg (show ¬(numB e.k e.n&&namB e.k e.nm&&kidB e.k e.n e.kids.len&&(isSetK e.k==false))=true from fun h=>hv (by rw[Bool.and_eq_true] at h;exact h.1)),if_neg hv];rfl
def WR (w:World)(o:Nat->Nat)(wb:Nat)(t:List UInt8)(oo qq:Int)(ok:Bool):Prop :=
 ∃v,Blk w o 1 wb (.cells #[v,.int .i64 oo,.int .i64 qq,.bool ok] 180 (0,0))/\Row w o 2 5 1 v t.length (byL t)
def WQ (w:World)(o:Nat->Nat)(wb:Nat):Ow->Prop
 | some s=>WR w o wb s.t (s.o:Nat) (s.q:Nat) true/\s.t.length<=2000/\s.o<=64/\s.q<=4
 | none=>∃t oo qq,WR w o wb t oo qq false/\t.length<=2000
theorem WR.step {I:Nat->Prop}{w w':World}{o o':Nat->Nat}{wb:Nat}{t:List UInt8}{oo qq:Int}{ok:Bool}(h:WR w o wb t oo qq ok)(s:Step I w o w' o')(h1:¬I 1)(h2:¬I 2):WR w' o' wb t oo qq ok:=by
 obtain⟨v,hb,hr⟩:=h;exact⟨v,hb.step s h1,hr.step s h2⟩
theorem WQ.step {I:Nat->Prop}{w w':World}{o o':Nat->Nat}{wb:Nat}{st:Ow}(h:WQ w o wb st)(s:Step I w o w' o')(h1:¬I 1)(h2:¬I 2):WQ w' o' wb st:=by
 match st,h with
 | some x,h=>exact⟨h.1.step s h1 h2,h.2⟩
 | none,⟨t,oo,qq,h,hl⟩=>exact⟨t,oo,qq,h.step s h1 h2,hl⟩
theorem WQ.raw {w:World}{o:Nat->Nat}{wb:Nat}{st:Ow}(h:WQ w o wb st):∃t oo qq ok,WR w o wb t oo qq ok/\t.length<=2000:=by
 match st,h with
 | some x,h=>exact⟨_,_,_,_,h.1,h.2.1⟩
 | none,⟨t,oo,qq,h,hl⟩=>exact⟨t,oo,qq,_,h,hl⟩
theorem WR.cells {w:World}{o:Nat->Nat}{wb:Nat}{t:List UInt8}{oo qq:Int}{ok:Bool}(h:WR w o wb t oo qq ok):w.cell? ⟨wb,1,none⟩=some (.int .i64 oo)/\w.cell? ⟨wb,2,none⟩=some (.int .i64 qq)/\w.cell? ⟨wb,3,none⟩=some (.bool ok)/\∀ j,w.frozen? ⟨wb,j,none⟩=false:=by
 obtain⟨v,hb,hr⟩:=h;obtain⟨c0,c1,c2,c3,cf⟩:=Blk.cells4 hb;exact⟨c1,c2,c3,cf⟩
theorem WR.set {w:World}{o:Nat->Nat}{wb:Nat}{t:List UInt8}{oo qq:Int}{ok:Bool}(h:WR w o wb t oo qq ok) :
  (∀ oo',WR (w.setCell ⟨wb,1,none⟩ (.int .i64 oo')) o wb t oo' qq ok)/\(∀ qq',WR (w.setCell ⟨wb,2,none⟩ (.int .i64 qq')) o wb t oo qq' ok)/\(∀ ok',WR (w.setCell ⟨wb,3,none⟩ (.bool ok')) o wb t oo qq ok'):=by
 obtain⟨v,hb,hr⟩:=h;have s:∀ (j:Nat) (u:Value),Step (fun k=>k=1) w o (w.setCell ⟨wb,j,none⟩ u) o:=fun j u=>setStep _ w o ⟨wb,j,none⟩ u hb.2;exact⟨fun oo'=>⟨v,hb.set 1 _,hr.step (s 1 _) (by decide)⟩,fun qq'=>⟨v,hb.set 2 _,hr.step (s 2 _) (by decide)⟩,fun ok'=>⟨v,hb.set 3 _,hr.step (s 3 _) (by decide)⟩⟩
theorem WR.setS {w:World}{o:Nat->Nat}{wb:Nat}{t:List UInt8}{oo qq:Int}{ok:Bool}(h:WR w o wb t oo qq ok)(j:Nat)(u:Value):Step I12 w o (w.setCell ⟨wb,j,none⟩ u) o:=by
 obtain⟨v,hb,hr⟩:=h;exact setStep _ w o ⟨wb,j,none⟩ u (.inl hb.2)
def PutP (w:World)(o:Nat->Nat)(wb:Nat)(t s:List UInt8)(oo qq:Int)(ok:Bool)(e:Ending)(w':World):Prop :=
 e=.returned (.tuple #[])/\∃o',Step I12 w o w' o'/\((2000<t.length+s.length/\WR w' o' wb t oo qq false)\/(t.length+s.length<=2000/\WR w' o' wb (t++s) oo qq ok))
theorem puts_raw {w:World}{o:Nat->Nat}{wb:Nat}{t:List UInt8}{oo qq:Int}{ok:Bool}(s:List UInt8)(h:WR w o wb t oo qq ok)(ht:t.length<=2000)(hs:s.length<=1000000) :
  Calls Tryz.prog 208 #[.pointer (some ⟨wb,0,none⟩),stv s] w (PutP w o wb t s oo qq ok):=by
 have hset:=h.set.2.2 false;have hst:=h.setS 3 (.bool false);obtain⟨v,hb,hr⟩:=h;obtain⟨c0,c1,c2,c3,cf⟩:=Blk.cells4 hb;obtain⟨ao,cap,rfl⟩:=hr.form;have hsz:=size_mk s;by_cases hl:2000<t.length+s.length
 ·have hlI:(2000:Int)<(t.length:Int)+(s.length:Int):=by omega
  have FIN:Hid (∀ wx,wx=w.setCell ⟨wb,3,none⟩ (.bool false)->PutP w o wb t s oo qq ok (.returned (.tuple #[])) wx):=fun wx e=>by subst e;exact⟨rfl,o,hst,.inl ⟨hl,hset⟩⟩
  clear hset hst hb hr;go_enter Tryz.func208,Tryz.ntmps208;go_wp2
  (try simp only[Exit.inBlock,Exit.then])
  refine bodyPost_ret (results_none rfl _ _ _) rfl ?_;exact FIN.out _ rfl
 ·have hlI:¬(2000:Int)<(t.length:Int)+(s.length:Int):=by omega
  obtain⟨ii,hii,hz0,hz1,hz2⟩:=info_parts infoU8;clear hset hst;go_enter Tryz.func208,Tryz.ntmps208;go_wp2_with (first|(at_builtin;refine wpList_append_str rfl (.tmp 20) (.tmp 21) 116 9 rfl 5 ii Tryz.underlying116 Tryz.underlying9 hii hz0 hz1 hz2 o 2 _ t.length (byL t) rfl hr ⟨s.toArray⟩ rfl ?c1 ?c2 ?_)|go_in)
  case c1=>unfold maxLen;omega
  case c2=>omega
  intro v' w' o' hr' hst;obtain⟨ao',cap',rfl⟩:=hr'.form;have hb':=hb.step hst (by decide);obtain⟨d0,d1,d2,d3,df⟩:=Blk.cells4 hb';have hb2:=hb'.set 0 (.slice ao' (t.length+s.length) cap');have s2:Step I12 w' o' (w'.setCell ⟨wb,0,none⟩ (.slice ao' (t.length+s.length) cap')) o':=setStep I12 w' o' ⟨wb,0,none⟩ (.slice ao' (t.length+s.length) cap') (.inl hb'.2);have s3:=(hst.mono (fun k hk=>(.inr hk:I12 k))).trans s2;have s4:Step (fun k=>k=1) w' o' (w'.setCell ⟨wb,0,none⟩ (.slice ao' (t.length+s.length) cap')) o':=setStep _ w' o' ⟨wb,0,none⟩ (.slice ao' (t.length+s.length) cap') hb'.2;have hr2:=hr'.step s4 (by decide);rw[byL_app] at hr2;have hr3:Row (w'.setCell ⟨wb,0,none⟩ (.slice ao' (t.length+s.length) cap')) o' 2 5 1 (.slice ao' (t.length+s.length) cap') (t++s).length (byL (t++s)):=by
   rw[List.length_append];exact hr2
  have FIN:Hid (∀ wx,wx=w'.setCell ⟨wb,0,none⟩ (.slice ao' (t.length+s.length) cap')->PutP w o wb t s oo qq ok (.returned (.tuple #[])) wx):=fun wx e=>by subst e;exact⟨rfl,o',s3,.inr ⟨by omega,_,hb2,hr3⟩⟩
  clear hr2 hst s2 s4 hr' hb hr c0 c1 c2 c3 cf hb2 hr3 s3 hb';go_wp2
  go_end0
  exact FIN.out _ rfl
def PostO (w:World)(o:Nat->Nat)(wb:Nat)(st:Ow)(e:Ending)(w':World):Prop:=e=.returned (.tuple #[])/\∃o',WQ w' o' wb st/\Step I12 w o w' o'
theorem puts_o {w:World}{o:Nat->Nat}{wb:Nat}{st:Ow}(s:List UInt8)(h:WQ w o wb st)(hs:s.length<=1000000) :
  Calls Tryz.prog 208 #[.pointer (some ⟨wb,0,none⟩),stv s] w (PostO w o wb (putO s st)):=by
 match st,h with
 | some x,h =>
  refine(puts_raw s h.1 h.2.1 hs).mono ?_;rintro e w' ⟨rfl,o',st',hh⟩;refine⟨rfl,o',?_,st'⟩;rcases hh with ⟨hl,hw⟩|⟨hl,hw⟩
  ·rw[show putO s (some x)=none by simp[putO,hl]];exact⟨_,_,_,hw,h.2.1⟩
  ·rw[show putO s (some x)=some ⟨x.t++s,x.o,x.q⟩ by simp[putO];omega];exact⟨hw,by simp only[List.length_append];exact hl,h.2.2⟩
 | none,⟨t,oo,qq,h,hl⟩ =>
  refine(puts_raw s h hl hs).mono ?_;rintro e w' ⟨rfl,o',st',hh⟩;refine⟨rfl,o',?_,st'⟩;rcases hh with ⟨hl2,hw⟩|⟨hl2,hw⟩
  ·exact⟨_,_,_,hw,hl⟩
  ·exact⟨_,_,_,hw,by simp only[List.length_append];exact hl2⟩
theorem WQ.ent {w:World}{o:Nat->Nat}{wb:Nat}{st:Ow}(h:WQ w o wb st):∃oo:Int,w.cell? ⟨wb,1,none⟩=some (.int .i64 oo)/\(∀ j,w.frozen? ⟨wb,j,none⟩=false)/\Step I12 w o (w.setCell ⟨wb,1,none⟩ (.int .i64 (wrap64 (oo+1)))) o /\
  ((64<wrap64 (oo+1)/\WQ ((w.setCell ⟨wb,1,none⟩ (.int .i64 (wrap64 (oo+1)))).setCell ⟨wb,3,none⟩ (.bool false)) o wb (entO st))\/(¬64<wrap64 (oo+1)/\WQ (w.setCell ⟨wb,1,none⟩ (.int .i64 (wrap64 (oo+1)))) o wb (entO st))):=by
 match st,h with
 | some x,h =>
  obtain⟨c1,c2,c3,cf⟩:=h.1.cells;refine⟨_,c1,cf,h.1.setS 1 _,?_⟩;have e:wrap64 ((x.o:Nat)+1)=((x.o+1:Nat):Int):=by have:=h.2.2.1;unfold wrap64;omega
  have hw:=h.1.set.1 (wrap64 ((x.o:Nat)+1));by_cases hl:64<x.o+1
  ·refine .inl ⟨by rw[e];omega,?_⟩;rw[show entO (some x)=none by simp[entO,hl]];exact⟨_,_,_,hw.set.2.2 false,h.2.1⟩
  ·refine .inr ⟨by rw[e];omega,?_⟩;rw[show entO (some x)=some ⟨x.t,x.o+1,x.q⟩ by simp[entO,hl]];rw[e] at hw ⊢;exact⟨hw,h.2.1,by show x.o+1<=64;omega,h.2.2.2⟩
 | none,⟨t,oo,qq,h,hl⟩ =>
  obtain⟨c1,c2,c3,cf⟩:=h.cells;refine⟨_,c1,cf,h.setS 1 _,?_⟩;have hw:=h.set.1 (wrap64 (oo+1));by_cases hl2:64<wrap64 (oo+1)
  ·exact .inl ⟨hl2,t,_,_,hw.set.2.2 false,hl⟩
  ·exact .inr ⟨hl2,t,_,_,hw,hl⟩
theorem WQ.qen {w:World}{o:Nat->Nat}{wb:Nat}{st:Ow}(h:WQ w o wb st):∃oo:Int,w.cell? ⟨wb,2,none⟩=some (.int .i64 oo)/\(∀ j,w.frozen? ⟨wb,j,none⟩=false)/\Step I12 w o (w.setCell ⟨wb,2,none⟩ (.int .i64 (wrap64 (oo+1)))) o /\
  ((4<wrap64 (oo+1)/\WQ ((w.setCell ⟨wb,2,none⟩ (.int .i64 (wrap64 (oo+1)))).setCell ⟨wb,3,none⟩ (.bool false)) o wb (qenO st))\/(¬4<wrap64 (oo+1)/\WQ (w.setCell ⟨wb,2,none⟩ (.int .i64 (wrap64 (oo+1)))) o wb (qenO st))):=by
 match st,h with
 | some x,h =>
  obtain⟨c1,c2,c3,cf⟩:=h.1.cells;refine⟨_,c2,cf,h.1.setS 2 _,?_⟩;have e:wrap64 ((x.q:Nat)+1)=((x.q+1:Nat):Int):=by have:=h.2.2.2;unfold wrap64;omega
  have hw:=h.1.set.2.1 (wrap64 ((x.q:Nat)+1));by_cases hl:4<x.q+1
  ·refine .inl ⟨by rw[e];omega,?_⟩;rw[show qenO (some x)=none by simp[qenO,hl]];exact⟨_,_,_,hw.set.2.2 false,h.2.1⟩
  ·refine .inr ⟨by rw[e];omega,?_⟩;rw[show qenO (some x)=some ⟨x.t,x.o,x.q+1⟩ by simp[qenO,hl]];rw[e] at hw ⊢;exact⟨hw,h.2.1,h.2.2.1,by show x.q+1<=4;omega⟩
 | none,⟨t,oo,qq,h,hl⟩ =>
  obtain⟨c1,c2,c3,cf⟩:=h.cells;refine⟨_,c2,cf,h.setS 2 _,?_⟩;have hw:=h.set.2.1 (wrap64 (qq+1));by_cases hl2:4<wrap64 (qq+1)
  ·exact .inl ⟨hl2,t,_,_,hw.set.2.2 false,hl⟩
  ·exact .inr ⟨hl2,t,_,_,hw,hl⟩
def Bal (st st':Ow):Prop:=∀ s',st'=some s'->∃s,st=some s/\s'.o=s.o/\s'.q=s.q
theorem WQ.lea {w:World}{o:Nat->Nat}{wb:Nat}{st:Ow}(h:WQ w o wb st)(hp:∀ s,st=some s->1<=s.o):∃oo:Int,w.cell? ⟨wb,1,none⟩=some (.int .i64 oo)/\(∀ j,w.frozen? ⟨wb,j,none⟩=false)/\Step I12 w o (w.setCell ⟨wb,1,none⟩ (.int .i64 (wrap64 (oo-1)))) o/\WQ (w.setCell ⟨wb,1,none⟩ (.int .i64 (wrap64 (oo-1)))) o wb (leaO st):=by
 match st,h with
 | some x,h =>
  obtain⟨c1,c2,c3,cf⟩:=h.1.cells;refine⟨_,c1,cf,h.1.setS 1 _,?_⟩;have h1:=hp x rfl;have e:wrap64 ((x.o:Nat)-1)=((x.o-1:Nat):Int):=by have:=h.2.2.1;unfold wrap64;omega
  rw[e];exact⟨h.1.set.1 _,h.2.1,by show x.o-1<=64;have:=h.2.2.1;omega,h.2.2.2⟩
 | none,⟨t,oo,qq,h,hl⟩ =>
  obtain⟨c1,c2,c3,cf⟩:=h.cells;exact⟨_,c1,cf,h.setS 1 _,t,_,_,h.set.1 _,hl⟩
theorem WQ.qle {w:World}{o:Nat->Nat}{wb:Nat}{st:Ow}(h:WQ w o wb st)(hp:∀ s,st=some s->1<=s.q):∃oo:Int,w.cell? ⟨wb,2,none⟩=some (.int .i64 oo)/\(∀ j,w.frozen? ⟨wb,j,none⟩=false)/\Step I12 w o (w.setCell ⟨wb,2,none⟩ (.int .i64 (wrap64 (oo-1)))) o/\WQ (w.setCell ⟨wb,2,none⟩ (.int .i64 (wrap64 (oo-1)))) o wb (qleO st):=by
 match st,h with
 | some x,h =>
  obtain⟨c1,c2,c3,cf⟩:=h.1.cells;refine⟨_,c2,cf,h.1.setS 2 _,?_⟩;have h1:=hp x rfl;have e:wrap64 ((x.q:Nat)-1)=((x.q-1:Nat):Int):=by have:=h.2.2.2;unfold wrap64;omega
  rw[e];exact⟨h.1.set.2.1 _,h.2.1,h.2.2.1,by show x.q-1<=4;have:=h.2.2.2;omega⟩
 | none,⟨t,oo,qq,h,hl⟩ =>
  obtain⟨c1,c2,c3,cf⟩:=h.cells;exact⟨_,c2,cf,h.setS 2 _,t,_,_,h.set.2.1 _,hl⟩
theorem WQ.end {w:World}{o:Nat->Nat}{wb:Nat}{st:Ow}(h:WQ w o wb st):w.cell? ⟨wb,3,none⟩=some (.bool st.isSome)/\(∀ j,w.frozen? ⟨wb,j,none⟩=false)/\Step I12 w o (w.setCell ⟨wb,3,none⟩ (.bool false)) o/\WQ (w.setCell ⟨wb,3,none⟩ (.bool false)) o wb none:=by
 match st,h with
 | some x,h =>
  obtain⟨c1,c2,c3,cf⟩:=h.1.cells;exact⟨c3,cf,h.1.setS 3 _,_,_,_,h.1.set.2.2 false,h.2.1⟩
 | none,⟨t,oo,qq,h,hl⟩ =>
  obtain⟨c1,c2,c3,cf⟩:=h.cells;exact⟨c3,cf,h.setS 3 _,_,_,_,h.set.2.2 false,hl⟩
theorem opens_o {w:World}{o:Nat->Nat}{wb:Nat}{st:Ow}(s:List UInt8)(h:WQ w o wb st)(hs:s.length<=1000000) :
  Calls Tryz.prog 210 #[.pointer (some ⟨wb,0,none⟩),stv s] w (PostO w o wb (putO s (entO st))):=by
 obtain⟨oo,c1,cf,S1,hh⟩:=h.ent;obtain⟨w1,hw1⟩:∃w1,w1=w.setCell ⟨wb,1,none⟩ (.int .i64 (wrap64 (oo+1))):=⟨_,rfl⟩
 have d1:w1.cell? ⟨wb,1,none⟩=some (.int .i64 (wrap64 (oo+1))):=by rw[hw1];exact World.cell?_setCell_same _ _ _ c1
 have df:∀ j,w1.frozen? ⟨wb,j,none⟩=false:=fun j=>by rw[hw1];exact(World.frozen?_setCell ..).trans (cf j)
 have d3:w1.cell? ⟨wb,3,none⟩=some (.bool st.isSome):=by rw[hw1];exact(World.cell?_setCell_other _ _ _ _ (by simp)).trans h.end.1
 rw[<-hw1] at hh S1;obtain⟨W,hW⟩:∃W,W=putO s (entO st):=⟨_,rfl⟩
 rw[<-hW];have HW:Hid (W=putO s (entO st)):=hW;clear hW h;rcases hh with ⟨hl,hq⟩|⟨hl,hq⟩
 ·have S2:Step I12 w o (w1.setCell ⟨wb,3,none⟩ (.bool false)) o:=by
   obtain⟨t,oo2,qq,ok,hr,_⟩:=hq.raw;refine S1.trans ?_;obtain⟨v,hb,_⟩:=hr;exact setStep _ w1 o ⟨wb,3,none⟩ _ (.inl hb.2)
  have c2:=puts_o s hq hs;rw[<-HW.out] at c2;clear hq S1 HW;go_enter Tryz.func210,Tryz.ntmps210;go_upto_region 1 with fail;rw[<-hw1];clear hw1;go_upto_region 3 with fail;generalize w1.setCell ⟨wb,3,none⟩ (.bool false)=w2 at *;clear d1 df d3 c1 cf;go_wp2_with fail;refine c2.mono ?_;rintro e w3 ⟨rfl,o3,h3,s3⟩;have S3:=S2.trans s3;clear c2 S2 s3;go_wp2
  go_end0
  exact⟨rfl,o3,h3,S3⟩
 ·have c2:=puts_o s hq hs;rw[<-HW.out] at c2;clear hq HW;go_enter Tryz.func210,Tryz.ntmps210;go_upto_region 1 with fail;rw[<-hw1];clear hw1 c1 cf;go_wp2_with fail;refine c2.mono ?_;rintro e w3 ⟨rfl,o3,h3,s3⟩;have S3:=S1.trans s3;clear c2 S1 s3;go_wp2
  go_end0
  exact⟨rfl,o3,h3,S3⟩
end Go.Proofs.YtaihhnlfcndecaaGreatDoor

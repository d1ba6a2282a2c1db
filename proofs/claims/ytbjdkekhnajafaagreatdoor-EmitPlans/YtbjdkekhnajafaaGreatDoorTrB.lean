import Derived.Test.YtbjdkekhnajafaaGreatDoorApp1
set_option maxRecDepth 100000
set_option maxHeartbeats 8000000
namespace Go.Proofs.YtbjdkekhnajafaaGreatDoor
open Go.ChangeShapes Go.WideShapes Go.ChangeAt Go.RowKit
set_option linter.unusedVariables false
set_option linter.unusedSimpArgs false
def rV (N:Nat):Prop:=∀ (e:Ex) (ao:Option Addr) (cap:Nat) (bd:List (List UInt8)) (bv:Value) (w:World),e.kids.size<N->e.kids.len<=1000000000->e.kids.short->bd.length+e.kids.size<=1000000->Nms w bv bd->SlA w e.kids ao ->
 Calls Tryz.prog 51 #[exV e ao cap,bv] w (xP w (ofE e bd))
theorem Nms.news {w:World}{ao:Option Addr}{cap:Nat}{b:List (List UInt8)}(h:Nms w (.slice ao b.length cap) b):0<b.length->∃ad,ao=some ad/\∀ j u,(b.map fun x=>stv x)[j]?=some u->w.cell? (ad.add j)=some u:=by
 intro h0;obtain⟨ao',cap',hv,hc,h1|⟨g,h1,h2,h3,h4⟩⟩:=h
 ·rw[h1.1] at h0;simp at h0
 ·injection hv with hv1
  subst hv1;refine⟨_,h1,fun j u hj=>?_⟩;rw[List.getElem?_map] at hj;cases hb:b[j]? with
  | none=>rw[hb] at hj;cases hj
  | some t =>
   rw[hb] at hj;injection hj with hj
   subst hj;have h5:((⟨g,0,none⟩:Addr).add j)=⟨g,j,none⟩:=by simp only[Addr.add];split<;>simp_all
   rw[h5];exact h4 j t hb
theorem Nms.ofRowL {w:World}{o:Nat->Nat}{i g cap:Nat}{b:List (List UInt8)}{n:Nat}(h:Row w o i 9 1 (.slice (some ⟨g,0,none⟩) n cap) n (b.map fun x=>stv x))(hn:b.length=n)(h0:0<n):Nms w (.slice (some ⟨g,0,none⟩) n cap) b :=
 Nms.ofRow (o:=fun _=>1) ⟨h.1,fun _ _=>rfl⟩ hn h0
theorem xB (b:List (List UInt8)):∀ u ∈ b.map (fun x=>stv x),u.oneCell'=true:=fun u hu=>by
 obtain⟨x,_,rfl⟩:=List.mem_map.1 hu;rfl
theorem we {N:Nat}(IH:rV N):rV (N+1):=by
 intro e ao cap bd bv w hN hlen hsh hbd HN S;obtain⟨Y,hY⟩:∃Y,Y=ofE e bd:=⟨_,rfl⟩
 have HY:Hid (Y=ofE e bd):=hY;rw[<-hY];clear hY;obtain⟨ii,hii,hzi0,hzi1,hzi2⟩:=aH pK;obtain⟨is,his,hzs0,hzs1,hzs2⟩:=aH ql;obtain⟨w0,hw0⟩:∃w0,w0=((w.alloc (.cells #[.int .i64 e.k,.int .i64 e.n,stv e.nm,.slice ao e.kids.len cap,.int .i64 e.a] 25)).alloc (.cells #[.int .i64 0,.int .i64 0,.string ⟨#[]⟩,.slice none 0 0] 34)).alloc (.cells #[.int .i64 e.k,.int .i64 e.n,.string ⟨#[]⟩,.slice none 0 0] 34):=⟨_,rfl⟩
 have B0:Below w.heap.size w w0:=by rw[hw0];exact(((Below.refl _ w).alloc (Nat.le_refl _) _).alloc (by simp) _).alloc (by simp;omega) _
 obtain⟨o0,ho0⟩:∃o0:Nat->Nat,o0=fun k=>if k=w.heap.size+1+1 then 1 else if k=w.heap.size+1 then 3 else 0:=⟨_,rfl⟩
 have E0:Blk w0 o0 0 w.heap.size (.cells #[.int .i64 e.k,.int .i64 e.n,stv e.nm,.slice ao e.kids.len cap,.int .i64 e.a] 25):=by
  refine⟨?_,by rw[ho0];simp only;rw[if_neg (by omega),if_neg (by omega)]⟩;rw[hw0];exact(Below.heap_alloc _ _ _ (by simp;omega)).trans ((Below.heap_alloc _ _ _ (by simp)).trans (heap_alloc_new w _))
 have Z0:Blk w0 o0 3 (w.heap.size+1) (.cells #[.int .i64 0,.int .i64 0,.string ⟨#[]⟩,.slice none 0 0] 34):=by
  refine⟨?_,by rw[ho0];simp⟩;rw[hw0];refine(Below.heap_alloc _ _ _ (by simp)).trans ?_
  have:=heap_alloc_new (w.alloc (.cells #[.int .i64 e.k,.int .i64 e.n,stv e.nm,.slice ao e.kids.len cap,.int .i64 e.a] 25)) (.cells #[.int .i64 0,.int .i64 0,.string ⟨#[]⟩,.slice none 0 0] 34)
  simpa using this
 have O0:Blk w0 o0 1 (w.heap.size+1+1) (.cells #[.int .i64 e.k,.int .i64 e.n,.string ⟨#[]⟩,.slice none 0 0] 34):=by
  refine⟨?_,by rw[ho0];simp⟩;rw[hw0]
  have:=heap_alloc_new ((w.alloc (.cells #[.int .i64 e.k,.int .i64 e.n,stv e.nm,.slice ao e.kids.len cap,.int .i64 e.a] 25)).alloc (.cells #[.int .i64 0,.int .i64 0,.string ⟨#[]⟩,.slice none 0 0] 34)) (.cells #[.int .i64 e.k,.int .i64 e.n,.string ⟨#[]⟩,.slice none 0 0] 34)
  simpa using this
 have L0:∀ k,k<w.heap.size->o0 k=0:=fun k hk=>by rw[ho0];simp only;rw[if_neg (by omega),if_neg (by omega)]
 have A0:=jT.nil w0 o0 (fun _=>False) w.heap.size;have N0:=HN.below B0;obtain⟨ab,cb,hbv,hbc,hbx⟩:=HN;have HNM:Hid (Nms w bv bd):=⟨ab,cb,hbv,hbc,hbx⟩
 subst hbv;rw[am];go_enter Tryz.func51,Tryz.ntmps51;go_upto_region 2 with fail;rw[<-hw0];clear hw0 ho0;obtain⟨n0,hn0⟩:∃n0,n0=w.heap.size:=⟨_,rfl⟩
 unfold xP;rw[<-hn0] at E0 Z0 O0 L0 A0 B0 ⊢;have HB:Hid (n0=w.heap.size):=hn0;clear hn0 hbx;obtain⟨p0,p1,p2,p3,p4,pf⟩:=ai E0.1;have HNW:Hid (∀ W,Below n0 w W->Nms W (.slice ab bd.length cb) bd):=fun W b=>Nms.below HNM.out (by rw[<-HB.out];exact b);by_cases h4:e.k=4
 ·have hb4:(e.k==4)=true:=by simpa using h4
  have HY4:Hid (Y=⟨5,ez bd e.nm 0 e.n,[],0,.nil⟩):=by show _=_;rw[HY.out];unfold ofE;rw[if_pos h4]
  have s1:aa (fun k=>k=1) w0 o0 (w0.setCell ⟨n0+1+1,0,none⟩ (.int .i64 5)) o0:=bT _ w0 o0 ⟨n0+1+1,0,none⟩ _ O0.2;have O1:=O0.set 0 (.int .i64 5);have E1:=E0.step s1 (by decide);have Z1:=Z0.step s1 (by decide);have B1:=aJ B0 s1 (fun k hk=>by rw[L0 k hk];decide) (by rw[HB.out];exact Nat.le_refl _);have LH:Hid (∀ k,k<n0->o0 k=0):=L0;obtain⟨t0,t1,t2,t3,tf⟩:=aI O0.1;clear s1 E0 Z0 O0 A0 B0 HY L0 N0;go_wp2;clear p0 p1 p2 p3 p4 pf t0 t1 t2 t3 tf;go_loopw [6] (fun v wr=>∃(j:Nat) (n1:Int),v=.int .i64 (j:Nat)/\j<=bd.length/\Hid (ez (bd.drop j) e.nm j n1=ez bd e.nm 0 e.n)/\Blk wr o0 0 n0 (.cells #[.int .i64 e.k,.int .i64 e.n,stv e.nm,.slice ao e.kids.len cap,.int .i64 e.a] 25)/\Blk wr o0 3 (n0+1) (.cells #[.int .i64 0,.int .i64 0,.string ⟨#[]⟩,.slice none 0 0] 34)/\Blk wr o0 1 (n0+1+1) (.cells #[.int .i64 5,.int .i64 n1,.string ⟨#[]⟩,.slice none 0 0] 34)/\Below n0 w wr) (fun v _=>bd.length-(intOf v).toNat)
  case atStart=>exact⟨0,e.n,by show _=Value.int .i64 ((0:Nat):Int);rfl,by omega,rfl,E1,Z1,O1,B1⟩
  case round =>
   clear E1 Z1 O1 B1;obtain⟨j,n1,rfl,hj,HL,E1,Z1,O1,B1⟩:=hrel;obtain⟨p0,p1,p2,p3,p4,pf⟩:=ai E1.1;obtain⟨t0,t1,t2,t3,tf⟩:=aI O1.1;by_cases hlt:j<bd.length
   ·have hx:bd[j]?=some bd[j]:=List.getElem?_eq_getElem hlt;have hdrop:bd.drop j=bd[j]::bd.drop (j+1):=List.drop_eq_getElem_cons hlt;obtain⟨_,_,hv,-,h1|⟨gb,h1,hgb,-,hcell⟩⟩:=HNW.out wr B1
    ·rw[h1.1] at hlt;simp at hlt
    injection hv with hv1
    subst hv1;subst h1;have hcj:=hcell j _ hx;have HLD:Hid (ez (bd[j]::bd.drop (j+1)) e.nm j n1=ez bd e.nm 0 e.n):=by show _=_;rw[<-hdrop];exact HL.out
    generalize bd[j]=x at hcj HLD;have hltI:(j:Int)<(bd.length:Int):=by omega
    have hjb:j<1000000:=by omega
    clear hx hdrop hcell HL;go_upto_region 8 with fail;by_cases hxe:x=e.nm
    ·have hbe:(x==e.nm)=true:=by simpa using hxe
     have HL2:Hid (ez (bd.drop (j+1)) e.nm (j+1) (j:Int)=ez bd e.nm 0 e.n):=by
      have h:ez (bd.drop (j+1)) e.nm (j+1) (if x=e.nm then (j:Int) else n1)=ez bd e.nm 0 e.n:=HLD.out;rw[if_pos hxe] at h;exact h
     clear hxe HLD
     go_quiet (fail)
     have bq:Below wr.heap.size wr (wr.drewN nq):=bdr (Below.refl _ _) nq;have sq:aa (fun _=>False) wr o0 (wr.drewN nq) o0:=(aa.refl _ wr o0).drewN nq;have E2:=E1.step sq id;have Z2:=Z1.step sq id;have O2:=O1.step sq id;have B2:=aJ B1 sq (fun _ _=>id) (by rw[HB.out];exact Nat.le_refl _);generalize wr.drewN nq=wq at *;clear E1 Z1 O1 B1 bq sq p0 p1 p2 p3 p4 pf t0 t1 t2 t3 tf hcj;obtain⟨t0,t1,t2,t3,tf⟩:=aI O2.1;have s3:aa (fun k=>k=1) wq o0 (wq.setCell ⟨n0+1+1,1,none⟩ (.int .i64 (j:Nat))) o0:=bT _ wq o0 ⟨n0+1+1,1,none⟩ _ O2.2;have O3:=O2.set 1 (.int .i64 (j:Nat));have E3:=E2.step s3 (by decide);have Z3:=Z2.step s3 (by decide);have B3:=aJ B2 s3 (fun k hk=>by rw[LH.out k hk];decide) (by rw[HB.out];exact Nat.le_refl _);clear s3 E2 Z2 O2 B2;go_wp2;go_roundw
     case rel=>(try ((repeat apply Exists.intro);refine⟨?_,rfl⟩));exact⟨j+1,_,by go_num,by omega,HL2,E3,Z3,O3,B3⟩
     case measure=>simp[intOf];omega
    ·have hbe:(x==e.nm)=false:=by simpa using hxe
     have HL2:Hid (ez (bd.drop (j+1)) e.nm (j+1) n1=ez bd e.nm 0 e.n):=by
      have h:ez (bd.drop (j+1)) e.nm (j+1) (if x=e.nm then (j:Int) else n1)=ez bd e.nm 0 e.n:=HLD.out;rw[if_neg hxe] at h;exact h
     clear hxe HLD
     go_quiet (fail)
     have sq:aa (fun _=>False) wr o0 (wr.drewN nq) o0:=(aa.refl _ wr o0).drewN nq;have E2:=E1.step sq id;have Z2:=Z1.step sq id;have O2:=O1.step sq id;have B2:=aJ B1 sq (fun _ _=>id) (by rw[HB.out];exact Nat.le_refl _);generalize wr.drewN nq=wq at *;clear E1 Z1 O1 B1 sq p0 p1 p2 p3 p4 pf t0 t1 t2 t3 tf hcj;go_wp2;go_roundw
     case rel=>(try ((repeat apply Exists.intro);refine⟨?_,rfl⟩));exact⟨j+1,_,by go_num,by omega,HL2,E2,Z2,O2,B2⟩
     case measure=>simp[intOf];omega
   ·have hltI:¬(j:Int)<(bd.length:Int):=by omega
    have HN1:Hid (n1=ez bd e.nm 0 e.n):=by
     have h:=HL.out;rw[List.drop_eq_nil_of_le (by omega)] at h;exact h
    have HU:Hid (∃wz,wz=((((wr.setCell ⟨n0+1,0,none⟩ (.int .i64 5)).setCell ⟨n0+1,1,none⟩ (.int .i64 n1)).setCell ⟨n0+1,2,none⟩ (.string ⟨#[]⟩)).setCell ⟨n0+1,3,none⟩ (.slice none 0 0))/\wz.cell? ⟨n0+1,0,none⟩=some (.int .i64 5)/\wz.cell? ⟨n0+1,1,none⟩=some (.int .i64 n1)/\wz.cell? ⟨n0+1,2,none⟩=some (.string ⟨#[]⟩)/\wz.cell? ⟨n0+1,3,none⟩=some (.slice none 0 0)/\Below n0 w wz):=by
     obtain⟨u0,u1,u2,u3,-⟩:=aI (wH (b0:=.int .i64 5) (b1:=.int .i64 n1) (b2:=.string ⟨#[]⟩) (b3:=.slice none 0 0) Z1.1);exact⟨_,rfl,u0,u1,u2,u3,(((B1.setCell (p:=⟨n0+1,0,none⟩) (Nat.le_succ _) _).setCell (p:=⟨n0+1,1,none⟩) (Nat.le_succ _) _).setCell (p:=⟨n0+1,2,none⟩) (Nat.le_succ _) _).setCell (p:=⟨n0+1,3,none⟩) (Nat.le_succ _) _⟩
    obtain⟨z0,z1,z2,z3,zf⟩:=aI Z1.1;clear E1 Z1 O1 B1 HL;go_wp2;obtain⟨wz,hwz,v0,v1,v2,v3,BZ⟩:=HU.out;rw[<-hwz];refine bodyPost_ret (v:=exN Y none 0) ?_ rfl ⟨none,0,rfl,by rw[HY4.out];exact SlN.nil _ _ _,by rw[<-HB.out];exact BZ⟩;rw[HY4.out,<-HN1.out];simp[results,Tryz.results51,go_sem,v0,v1,v2,v3,exN];rfl
 have hb4:(e.k==4)=false:=by simpa using h4
 obtain⟨onm,honm⟩:∃onm,onm=if e.k=23 then e.nm else ([]:List UInt8):=⟨_,rfl⟩
 obtain⟨F,hF⟩:∃F,F=ofF e.kids e.k e.nm 0 bd:=⟨_,rfl⟩
 have HYN:Hid (Y=⟨e.k,e.n,onm,0,F⟩):=by show _=_;rw[HY.out,honm,hF];unfold ofE;rw[if_neg h4]
 have HF:Hid (F=ofF e.kids e.k e.nm 0 bd):=hF;have HOM:Hid (onm=if e.k=23 then e.nm else ([]:List UInt8)):=honm;have LH:Hid (∀ k,k<n0->o0 k=0):=L0;clear honm hF HY h4 N0 L0;have hcase:((e.k==23)=true/\onm=e.nm)\/((e.k==23)=false/\onm=[]):=by
  by_cases h23:e.k=23
  ·exact .inl ⟨by simpa using h23,by rw[HOM.out,if_pos h23]⟩
  ·exact .inr ⟨by simpa using h23,by rw[HOM.out,if_neg h23]⟩
 rcases hcase with ⟨hb23,ho1⟩|⟨hb23,ho1⟩
 focus
  obtain⟨t0,t1,t2,t3,tf⟩:=aI O0.1;have s1:aa (fun k=>k=1) w0 o0 (w0.setCell ⟨n0+1+1,2,none⟩ (stv e.nm)) o0:=bT _ w0 o0 ⟨n0+1+1,2,none⟩ _ O0.2;have O1:Blk (w0.setCell ⟨n0+1+1,2,none⟩ (stv e.nm)) o0 1 (n0+1+1) (.cells #[.int .i64 e.k,.int .i64 e.n,stv onm,.slice none 0 0] 34):=by rw[ho1];exact O0.set 2 (stv e.nm)
  have E1:=E0.step s1 (by decide);have Z1:=Z0.step s1 (by decide);have A1:=A0.step s1 (by decide) (by decide);have B1:=aJ B0 s1 (fun k hk=>by rw[LH.out k hk];decide) (by rw[HB.out];exact Nat.le_refl _);clear s1 O0 E0 Z0 A0 B0 ho1;go_upto_region 13 with fail;generalize w0.setCell ⟨n0+1+1,2,none⟩ (stv e.nm)=w1 at *;clear t0 t1 t2 t3 tf
 rotate_left
 focus
  have O1:Blk w0 o0 1 (n0+1+1) (.cells #[.int .i64 e.k,.int .i64 e.n,stv onm,.slice none 0 0] 34):=by rw[ho1];exact O0
  have E1:=E0;have Z1:=Z0;have A1:=A0;have B1:=B0;clear O0 E0 Z0 A0 B0 ho1;go_upto_region 13 with fail
 all_goals (
  clear p0 p1 p2 p3 p4 pf HOM;go_wp2;go_loopw [7] (fun v wr=>∃(done r acc:Fs) (o:Nat->Nat) (va:Value),Hid (e.kids=done.app r)/\v=.int .i64 (done.len:Nat)/\Hid (acc.len=done.len)/\Hid (acc.app (ofF r e.k e.nm done.len bd)=F)/\Blk wr o 0 n0 (.cells #[.int .i64 e.k,.int .i64 e.n,stv e.nm,.slice ao e.kids.len cap,.int .i64 e.a] 25)/\Blk wr o 3 (n0+1) (.cells #[.int .i64 0,.int .i64 0,.string ⟨#[]⟩,.slice none 0 0] 34)/\Blk wr o 1 (n0+1+1) (.cells #[.int .i64 e.k,.int .i64 e.n,stv onm,va] 34)/\jT wr o (fun _=>False) n0 acc va/\Hid (∀ k,k<n0->o k=0)/\Below n0 w wr) (fun v _=>e.kids.len-(intOf v).toNat)
  case atStart=>exact⟨.nil,e.kids,.nil,o0,.slice none 0 0,rfl,by show _=Value.int .i64 ((0:Nat):Int);rfl,rfl,HF.out.symm,E1,Z1,O1,A1,LH,B1⟩
  case round =>
   clear E1 Z1 O1 A1 B1 HF LH;obtain⟨done,r,acc,o,va,hk,rfl,hal,HA,E1,Z1,O1,A1,L1,B1⟩:=hrel;have hlk:e.kids.len=done.len+r.len:=by rw[hk.out,Fs.len_app]
   obtain⟨p0,p1,p2,p3,p4,pf⟩:=ai E1.1;cases r using Fs.on with
   | nil =>
    have hl0:¬(done.len:Int)<(e.kids.len:Int):=by simp only[Fs.len] at hlk;omega
    have HDN:Hid (acc=F):=by
     show _=_;rw[<-HA.out];exact(jv acc).symm
    obtain⟨ad,cd,rfl,SD⟩:=A1.sl;have HU:Hid (∃wz,wz=((((wr.setCell ⟨n0+1,0,none⟩ (.int .i64 e.k)).setCell ⟨n0+1,1,none⟩ (.int .i64 e.n)).setCell ⟨n0+1,2,none⟩ (stv onm)).setCell ⟨n0+1,3,none⟩ (.slice ad acc.len cd))/\wz.cell? ⟨n0+1,0,none⟩=some (.int .i64 e.k)/\wz.cell? ⟨n0+1,1,none⟩=some (.int .i64 e.n)/\wz.cell? ⟨n0+1,2,none⟩=some (stv onm)/\wz.cell? ⟨n0+1,3,none⟩=some (.slice ad acc.len cd)/\SlN wz (Nw n0) acc ad/\Below n0 w wz):=by
     obtain⟨u0,u1,u2,u3,-⟩:=aI (wH (b0:=.int .i64 e.k) (b1:=.int .i64 e.n) (b2:=stv onm) (b3:=.slice ad acc.len cd) Z1.1);refine⟨_,rfl,u0,u1,u2,u3,?_,(((B1.setCell (p:=⟨n0+1,0,none⟩) (Nat.le_succ _) _).setCell (p:=⟨n0+1,1,none⟩) (Nat.le_succ _) _).setCell (p:=⟨n0+1,2,none⟩) (Nat.le_succ _) _).setCell (p:=⟨n0+1,3,none⟩) (Nat.le_succ _) _⟩;exact SD.mono (fun i hp hl=>nB wr (n0+1) i _ _ _ _ (fun ee=>by
      have h2:=Z1.2;rw[<-ee] at h2;rcases hp.1 with h|h<;>omega)) (by simp) (fun i hp _=>by
       rcases hp.2 with h|h
       ·exact h.1.elim
       ·exact h)
    obtain⟨z0,z1,z2,z3,zf⟩:=aI Z1.1;obtain⟨t0,t1,t2,t3,tf⟩:=aI O1.1;clear E1 Z1 O1 A1 B1 SD HA hk hlk;go_wp2;obtain⟨wz,hwz,v0,v1,v2,v3,SZ,BZ⟩:=HU.out;rw[<-hwz];refine bodyPost_ret (v:=exN Y ad cd) ?_ rfl ⟨ad,cd,rfl,by rw[HYN.out,<-HDN.out,<-HB.out];exact SZ,by rw[<-HB.out];exact BZ⟩;rw[HYN.out,<-HDN.out];simp[results,Tryz.results51,go_sem,v0,v1,v2,v3,exN]
   | cons kk kn km ka kks kr =>
    have hl0:(done.len:Int)<(e.kids.len:Int):=by simp only[Fs.len] at hlk;omega
    have hl1:done.len<e.kids.len:=by omega
    have hsz:e.kids.size=done.size+(kks.size+kr.size+1):=by rw[hk.out,Fs.size_app];rfl
    have hsk:(Fs.cons kk kn km ka kks kr).short:=Fs.app_short (by rw[<-hk.out];exact hsh);have hk2:Hid (e.kids=(done.snoc ⟨kk,kn,km,ka,kks⟩).app kr):=by show e.kids=_;rw[hk.out];unfold Fs.snoc;rw[Fs.app_assoc];rfl
    have hl2:(done.len:Int)+1=((done.snoc ⟨kk,kn,km,ka,kks⟩).len:Nat):=by rw[Fs.len_snoc];rfl
    have HA2:Hid (acc.app (Fs.ex (ofE ⟨kk,kn,km,ka,kks⟩ (iu e.k e.nm done.len bd)) (ofF kr e.k e.nm (done.len+1) bd))=F):=by
     have h:=HA.out;rw[tb] at h;exact h
    have hbl:(iu e.k e.nm done.len bd).length<=bd.length+1:=by unfold iu;split<;>simp
    have HS1:Hid (∀ W,Below n0 w W->SlA W (done.app (.cons kk kn km ka kks kr)) ao):=fun W b=>by rw[<-hk.out];exact SlT.below S (by rw[<-HB.out];exact b)
    by_cases hA:e.k=21/\done.len=1
    focus
     have hk21:(e.k==21)=true:=by simpa using hA.1
     have hd1:((done.len:Int)==1)=true:=by simp;omega
     have HIN:Hid (iu e.k e.nm done.len bd=bd++[e.nm]):=by show _=_;unfold iu;rw[if_pos hA]
     have hnews:=Nms.news (HNW.out wr B1);have hone:=xB bd;have hE1:=E1.lt;clear hA hk hlk;go_wp2_with (first|(at_builtin;refine fj rfl (.tmp 57) (.tmp 58) 40 rfl 9 is (.string ⟨#[]⟩) 1 16 Tryz.underlying40 his hzs0 hzs1 hzs2 rfl (by decide) o 7 _ 0 [] rfl (Row.nil _ _ _ _ _) ab bd.length cb (bd.map fun x=>stv x) rfl ?c1 hnews hone ?c3 ?c4 ?_)|go_in)
     case c1=>simp
     case c3=>unfold maxLen;omega
     case c4=>omega
     intro a2 c2 w2 o2 R2 s2;try simp only[Nat.zero_add,List.nil_append] at R2
     try simp only[Nat.zero_add,List.nil_append]
     have E2:=E1.step s2 (by decide);have Z2:=Z1.step s2 (by decide);have O2:=O1.step s2 (by decide);have A2:=A1.step s2 (by decide) (by decide);have L2:Hid (∀ k,k<n0->o2 k=0):=fun k hk=>(s2.lab k (by omega)).trans (L1.out k hk);have B2:=aJ B1 s2 (fun k hk=>by rw[L1.out k hk];decide) (by rw[HB.out];exact Nat.le_refl _);clear hnews hone s2 E1 Z1 O1 A1 L1 B1 p0 p1 p2 p3 p4 pf;obtain⟨p0,p1,p2,p3,p4,pf⟩:=ai E2.1;have s3:=aO (fun _=>False) w2 o2 (.cells #[stv e.nm] 9);have R3:=R2.step s3 id;have E3:=E2.step s3 id;have Z3:=Z2.step s3 id;have O3:=O2.step s3 id;have A3:=A2.step s3 id id;have hE2:=E2.lt;have L3:Hid (∀ k,k<n0->ae w2 o2 0 k=0):=fun k hk=>by rw[aC (by omega)];exact L2.out k hk
     have B3:=aJ B2 s3 (fun _ _=>id) (by rw[HB.out];exact Nat.le_refl _);have hone:∀ u ∈ [stv e.nm],u.oneCell'=true:=by intro u hu;simp at hu;subst hu;rfl
     have q1:bd.length+1<=maxLen:=by unfold maxLen;omega
     have q2:(bd.length+1)*16<=140737488355328:=by omega
     clear s3 E2 Z2 O2 A2 L2 B2 R2;go_wp2_with (first|(at_builtin;refine aB rfl (.tmp 60) (.tmp 63) 40 rfl 9 is (.string ⟨#[]⟩) 1 16 Tryz.underlying40 his hzs0 hzs1 hzs2 rfl (by decide) (ae w2 o2 0) 7 _ bd.length (bd.map fun x=>stv x) rfl R3 ⟨w2.heap.size,0,none⟩ 1 1 [stv e.nm] rfl rfl (cL w2 _ _) hone (by decide) q1 q2 ?_)|go_in);intro g9 c9 w9 o9 r9 s9;have hml:(bd++[e.nm]).map (fun x=>stv x)=(bd.map fun x=>stv x)++[stv e.nm]:=by simp
     have N4:Nms w9 (.slice (some ⟨g9,0,none⟩) (bd.length+1) c9) (iu e.k e.nm done.len bd):=by rw[HIN.out];exact Nms.ofRowL (by rw[hml];exact r9) (by simp) (by omega)
     have E4:=E3.step s9 (by decide);have Z4:=Z3.step s9 (by decide);have O4:=O3.step s9 (by decide);have A4:=A3.step s9 (by decide) (by decide);have L4:Hid (∀ k,k<n0->o9 k=0):=fun k hk=>(s9.lab k (by simp;omega)).trans (L3.out k hk);have B4:=aJ B3 s9 (fun k hk=>by rw[L3.out k hk];decide) (by rw[HB.out];exact Nat.le_refl _);clear hml r9 s9 R3 E3 Z3 O3 A3 L3 B3 hone p0 p1 p2 p3 p4 pf HA;go_upto_region 21 with fail;generalize o9=o4 at *;generalize w9=w4 at *
    rotate_left
    focus
     have hgd:(e.k==21)=false\/((e.k==21)=true/\((done.len:Int)==1)=false):=by
      rcases Classical.em (e.k=21) with h21|h21
      ·exact .inr ⟨by simpa using h21,by have h3:done.len≠1:=fun h=>hA ⟨h21,h⟩;simp;omega⟩
      ·exact .inl (by simpa using h21)
     have HIN:Hid (iu e.k e.nm done.len bd=bd):=by show _=_;unfold iu;rw[if_neg hA]
     have N4:Nms wr (.slice ab bd.length cb) (iu e.k e.nm done.len bd):=by rw[HIN.out];exact HNW.out wr B1
     have E4:=E1;have Z4:=Z1;have O4:=O1;have A4:=A1;have L4:=L1;have B4:=B1;clear E1 Z1 O1 A1 L1 B1 hA hk hlk HA;rcases hgd with hk21|⟨hk21,hd1⟩
     all_goals (
      go_upto_region 21 with fail;clear p0 p1 p2 p3 p4 pf;generalize o=o4 at *;generalize wr=w4 at *)
    all_goals (
     obtain⟨p0,p1,p2,p3,p4,pf⟩:=ai E4.1;obtain⟨b,off,ak,ck,hao,lb1,-,x0,x1,x2,x3,x4,SK⟩:=Sl.kidQ (HS1.out w4 B4);have hc:=IH ⟨kk,kn,km,ka,kks⟩ ak ck (iu e.k e.nm done.len bd) _ w4 (by show kks.size<N;omega) hsk.2.1 hsk.2.2.1 (by show _+kks.size<=1000000;omega) N4 SK;generalize ofE ⟨kk,kn,km,ka,kks⟩ (iu e.k e.nm done.len bd)=y at *;generalize (iu e.k e.nm done.len bd).length=nb at *;rw[am] at hc;simp only at hc;subst hao;have hn0:n0<=w4.heap.size:=by have:=E4.lt;omega
     clear hsz hsk SK N4 hbl;go_wp2_with fail;refine hc.mono ?_;rintro x w6 ⟨ay,cy,rfl,S6,b6⟩;have s6:aa (fun _=>False) w4 o4 w6 (ae w4 o4 0):=Below.toStepC b6;have T6:SlN w6 (PD (fun _=>False) n0 (ae w4 o4 0)) y.kids ay:=S6.mono (fun _ _ _=>rfl) (Nat.le_refl _) (fun i hp hl=>⟨ax hp,.inr (Nat.le_trans hn0 hp)⟩);have L6:Hid (∀ k,k<n0->ae w4 o4 0 k=0):=fun k hk=>by rw[aC (by omega)];exact L4.out k hk
     have E6:=E4.step s6 id;have Z6:=Z4.step s6 id;have O6:=O4.step s6 id;have A6:=A4.step s6 id id;have B6:=aJ B4 s6 (fun _ _=>id) (by rw[HB.out];exact Nat.le_refl _);generalize ae w4 o4 0=o6 at *;clear hc S6 b6 s6 E4 Z4 O4 A4 B4 L4 x0 x1 x2 x3 x4 p0 p1 p2 p3 p4 pf;have s7:=aO (fun _=>False) w6 o6 (.cells #[.int .i64 y.k,.int .i64 y.n,stv y.nm,.slice ay y.kids.len cy] 34);have K7:=fC w6 o6 #[.int .i64 y.k,.int .i64 y.n,stv y.nm,.slice ay y.kids.len cy] 34;have T7:=T6.labD s7 id;have hs6:n0<=w6.heap.size:=by have:=E6.lt;omega
     have L7:Hid (∀ k,k<n0->ae w6 o6 0 k=0):=fun k hk=>by rw[aC (by omega)];exact L6.out k hk
     have E7:=E6.step s7 id;have Z7:=Z6.step s7 id;have O7:=O6.step s7 id;have A7:=A6.step s7 id id;have B7:=aJ B6 s7 (fun _ _=>id) (by rw[HB.out];exact Nat.le_refl _);rw[ah];go_upto_region 22 with fail;generalize ae w6 o6 0=o7 at *;generalize w6.alloc (.cells #[.int .i64 y.k,.int .i64 y.n,stv y.nm,.slice ay y.kids.len cy] 34)=w7 at *;generalize w6.heap.size=bk at *;clear s7 T6 E6 Z6 O6 A6 B6 L6;obtain⟨p0,p1,p2,p3,pf⟩:=aI O7.1;obtain⟨q0,q1,q2,q3,qf⟩:=aI K7.1;have s8:=aO (fun _=>False) w7 o7 (.cells #[.int .i64 y.k,.int .i64 y.n,stv y.nm,.slice ay y.kids.len cy] 34);have T8:=T7.labD s8 id;have hE7:=E7.lt;have L8:Hid (∀ k,k<n0->ae w7 o7 0 k=0):=fun k hk=>by rw[aC (by omega)];exact L7.out k hk
     have E8:=E7.step s8 id;have Z8:=Z7.step s8 id;have O8:=O7.step s8 id;have A8:=A7.step s8 id id;have B8:=aJ B7 s8 (fun _ _=>id) (by rw[HB.out];exact Nat.le_refl _);obtain⟨xs,R8,F8,-⟩:=A8;obtain⟨a8,c8,rfl⟩:=R8.form;have b1:acc.len+1<=maxLen:=by have:=hal.out;unfold maxLen;omega
     have b2:(acc.len+1)*56<=140737488355328:=by have:=hal.out;omega
     have hone:∀ u ∈ [Value.int .i64 y.k,.int .i64 y.n,stv y.nm,.slice ay y.kids.len cy],u.oneCell'=true:=by intro u hu;simp at hu;rcases hu with rfl|rfl|rfl|rfl<;>rfl
     have hw8:n0<=(w7.alloc (.cells #[.int .i64 y.k,.int .i64 y.n,stv y.nm,.slice ay y.kids.len cy] 34)).heap.size:=by simp;omega
     have hne2:∀ k,k<n0->ae w7 o7 0 k≠2:=fun k hk=>by rw[L8.out k hk];decide
     clear E7 Z7 O7 A7 B7 L7 T7 s8;go_wp2_with (first|(at_builtin;refine aB rfl (.tmp 73) (.tmp 75) 32 rfl 34 ii _ 4 56 Tryz.underlying32 hii hzi0 hzi1 hzi2 rfl (by decide) (ae w7 o7 0) 2 _ acc.len xs rfl R8 ⟨w7.heap.size,0,none⟩ 1 1 [Value.int .i64 y.k,.int .i64 y.n,stv y.nm,.slice ay y.kids.len cy] rfl rfl (dh w7 _ _) hone (by decide) b1 b2 ?_)|go_in);intro g9 c9 w9 o9 r9 s9;have A9:jT w9 o9 (fun _=>False) n0 (acc.snoc y) (.slice (some ⟨g9,0,none⟩) (acc.len+1) c9):=jT.push F8 T8 s9 hne2 hw8 r9;have E9:=E8.step s9 (by decide);have Z9:=Z8.step s9 (by decide);have O9:=O8.step s9 (by decide);have L9:Hid (∀ k,k<n0->o9 k=0):=fun k hk=>(s9.lab k (by omega)).trans (L8.out k hk);have B9:=aJ B8 s9 (fun k hk=>by rw[L8.out k hk];decide) (by rw[HB.out];exact Nat.le_refl _);have s10:aa (fun k=>k=1) w9 o9 (w9.setCell ⟨n0+1+1,3,none⟩ (.slice (some ⟨g9,0,none⟩) (acc.len+1) c9)) o9:=bT _ w9 o9 ⟨n0+1+1,3,none⟩ _ O9.2;have A10:=A9.step s10 (by decide) (by decide);have E10:=E9.step s10 (by decide);have Z10:=Z9.step s10 (by decide);have O10:=O9.set 3 (.slice (some ⟨g9,0,none⟩) (acc.len+1) c9);have B10:=aJ B9 s10 (fun k hk=>by rw[L9.out k hk];decide) (by rw[HB.out];exact Nat.le_refl _);obtain⟨t0,t1,t2,t3,tf⟩:=aI O9.1;have HA3:Hid ((acc.snoc y).app (ofF kr e.k e.nm (done.snoc ⟨kk,kn,km,ka,kks⟩).len bd)=F):=by
      show _=_;rw[Fs.len_snoc,<-HA2.out];unfold Fs.snoc;rw[Fs.app_assoc];rfl
     have hal2:Hid ((acc.snoc y).len=(done.snoc ⟨kk,kn,km,ka,kks⟩).len):=by show _=_;rw[Fs.len_snoc,Fs.len_snoc,hal.out]
     clear A9 E9 Z9 O9 B9 s10 E8 Z8 O8 B8 L8 T8 R8 F8 r9 s9 p0 p1 p2 p3 pf q0 q1 q2 q3 qf K7 HA2 hne2;go_wp2;go_roundw
     case rel=>(try ((repeat apply Exists.intro);refine⟨?_,rfl⟩));exact⟨_,kr,_,o9,_,hk2,by rw[<-hl2],hal2,HA3,E10,Z10,O10,A10,L9,B10⟩
     case measure=>simp[intOf];omega))
theorem tC:∀ N,rV N -- 51
 | 0=>fun e ao cap bd bv w h=>absurd h (Nat.not_lt_zero _)
 | N+1=>we (tC N)
abbrev Er:=Option (Nat × Int)
def stS:Sum (Nat × Int) Int->Er
 | .inl x=>some x
 | .inr _=>none
def dy (st:Er)(k:Int):Sum (Nat × Int) Int :=
 match st with
 | some x=>.inl x
 | none=>.inr k
def bf (st:Er)(m:Int)(e:Ex)(b:List (List UInt8)):Er :=
 match st with
 | some x=>some x
 | none=>stS (eb m e.a (bK e b))
def eg:Fs->Er->List (List UInt8)->Er
 | ⟨none⟩,st,_=>st
 | ⟨some ⟨k,n,nm,a,ks,r⟩⟩,st,b=>eg r (bf st 3 ⟨k,n,nm,a,ks⟩ b) b
theorem ng:∀ (f:Fs) (x:Nat × Int) (b:List (List UInt8)),eg f (some x) b=some x
 | ⟨none⟩,x,b=>rfl
 | ⟨some ⟨k,n,nm,a,ks,r⟩⟩,x,b=>ng r x b
theorem jY:∀ (f:Fs) (y:Ex) (st:Er) (b:List (List UInt8)),eg (f.snoc y) st b=bf (eg f st b) 3 y b
 | ⟨none⟩,y,st,b=>rfl
 | ⟨some ⟨k,n,nm,a,ks,r⟩⟩,y,st,b=>jY r y _ b
theorem ej (m a:Int)(r:Sum (Nat × Int) Int)(hm:m≠0):(∃x,eb m a r=.inl x)\/(eb m a r=.inr m/\r=.inr m):=by
 cases r with
 | inl x=>exact .inl ⟨x,rfl⟩
 | inr is =>
  simp only[eb];by_cases h:is=m
  ·subst h;exact .inr ⟨by rw[if_neg (fun h2=>h2.2 rfl)],rfl⟩
  ·exact .inl ⟨_,by rw[if_pos ⟨hm,h⟩]⟩
theorem eM (x:Ex)(r:Fs)(k n:Int)(nm:List UInt8)(len:Nat)(b:List (List UInt8))(i:Nat)(done:List Int)(hk:k≠21) :
  ch (Fs.ex x r) k n nm len b i done=(match eb (bJ k n len done) x.a (bK x b) with
   | .inl e=>.inl e
   | .inr is=>ch r k n nm len b (i+1) (done++[is])):=by
 have h:=oN x r k n nm len b i done;rw[if_neg (fun h2=>hk h2.1)] at h;exact h
theorem zU (n:Nat)(d:List Int):d++[3]++List.replicate n 3=d++List.replicate (n+1) 3:=by
 rw[List.append_assoc];rfl
theorem mh (k n:Int)(nm:List UInt8)(len:Nat)(b:List (List UInt8))(hk:k≠21):∀ (f:Fs) (i:Nat) (done:List Int),(∀ d:List Int,done.length<=d.length->d.length<done.length+f.len->bJ k n len d=3) ->
  ch f k n nm len b i done=(match eg f none b with|some x=>.inl x|none=>.inr (done++List.replicate f.len 3))
 | ⟨none⟩,i,done,h=>by simp[ch,eg,Fs.len]
 | ⟨some ⟨kk,kn,km,ka,kks,kr⟩⟩,i,done,h=>by
  have e1:=eM ⟨kk,kn,km,ka,kks⟩ kr k n nm len b i done hk;have e2:ch ⟨some ⟨kk,kn,km,ka,kks,kr⟩⟩ k n nm len b i done=_:=e1;rw[e2,h done (Nat.le_refl _) (by simp[Fs.len])];simp only[eg,bf];rcases ej 3 ka (bK ⟨kk,kn,km,ka,kks⟩ b) (by decide) with ⟨x,hx⟩|⟨hx,-⟩
  ·rw[hx];simp only[stS,ng]
  ·rw[hx];simp only[stS];rw[mh k n nm len b hk kr (i+1) (done++[3]) (fun d h1 h2=>h d (by simp at h1;omega) (by simp[Fs.len] at h1 h2 ⊢;omega))];cases eg kr none b with
   | some x=>rfl
   | none=>simp only[Fs.len];rw[zU]
theorem sP {k n:Int}{nm:List UInt8}{a:Int}{x:Ex}{b:List (List UInt8)}(m g:Int)(h4:k≠4)(h21:k≠21)(h0:bJ k n 1 []=m)(hm:m≠0)(h1:bJ k n 1 [m]=g) :
  bK ⟨k,n,nm,a,Fs.ex x .nil⟩ b=dy (bf none m x b) g:=by
 rw[eh _ _ h4];show oO k n 1 (ch (Fs.ex x .nil) k n nm 1 b 0 [])=_;rw[eM _ _ _ _ _ _ _ _ _ h21,h0];unfold bf;simp only;rcases ej m x.a (bK x b) hm with ⟨y,hy⟩|⟨hy,-⟩
 ·rw[hy];rfl
 ·rw[hy];show Sum.inr (bJ k n 1 [m])=_;rw[h1];rfl
theorem eJ {k n:Int}{nm:List UInt8}{a:Int}{x y:Ex}{b:List (List UInt8)}(m g:Int)(h4:k≠4)(h21:k≠21)(h0:bJ k n 2 []=m)(h1:bJ k n 2 [m]=m)(hm:m≠0)(h2:bJ k n 2 [m,m]=g) :
  bK ⟨k,n,nm,a,Fs.ex x (Fs.ex y .nil)⟩ b=dy (bf (bf none m x b) m y b) g:=by
 rw[eh _ _ h4];show oO k n 2 (ch (Fs.ex x (Fs.ex y .nil)) k n nm 2 b 0 [])=_;rw[eM _ _ _ _ _ _ _ _ _ h21,h0];rcases ej m x.a (bK x b) hm with ⟨z,hz⟩|⟨hz,-⟩
 ·unfold bf;simp only;rw[hz];rfl
 ·have e1:bf none m x b=none:=by unfold bf;simp only;rw[hz];rfl
  rw[hz,e1];simp only[List.nil_append];rw[eM _ _ _ _ _ _ _ _ _ h21,h1];unfold bf;simp only;rcases ej m y.a (bK y b) hm with ⟨z,hz⟩|⟨hz,-⟩
  ·rw[hz];rfl
  ·rw[hz];show Sum.inr (bJ k n 2 [m,m])=_;rw[h2];rfl
theorem jS {k n:Int}{nm:List UInt8}{a:Int}{x y:Ex}{b:List (List UInt8)}(hk:k=13\/k=14) :
  bK ⟨k,n,nm,a,Fs.ex x (Fs.ex y .nil)⟩ b=(match bK x b with | .inl e=>.inl e | .inr k0=>dy (bf none k0 y b) 2):=by
 rw[eh _ _ (by show k≠4;omega)];show oO k n 2 (ch (Fs.ex x (Fs.ex y .nil)) k n nm 2 b 0 [])=_;have hr:∀ d,bJ k n 2 d=(match d with | []=>0 | [a]=>a|_=>2):=fun d=>by unfold bJ;rw[if_pos hk];first|done|(rcases d with _|⟨x,_|⟨y,r⟩⟩<;>rfl)
 rw[eM _ _ _ _ _ _ _ _ _ (by omega),hr];simp only;cases hx:bK x b with
 | inl e=>rfl
 | inr k0 =>
  simp only[eb];rw[if_neg (fun h=>h.1 rfl)];simp only[List.nil_append];rw[eM _ _ _ _ _ _ _ _ _ (by omega),hr];unfold bf;simp only;cases eb k0 y.a (bK y b) with
  | inl e=>rfl
  | inr k1 =>
   show Sum.inr (bJ k n 2 [k0,k1])=_;rw[hr];rfl
theorem lR {n:Int}{nm:List UInt8}{a:Int}{x y z:Ex}{b:List (List UInt8)} :
  bK ⟨19,n,nm,a,Fs.ex x (Fs.ex y (Fs.ex z .nil))⟩ b=(match bf none 2 x b with
   | some e=>.inl e
   | none=>match bK y b with | .inl e=>.inl e | .inr k1=>dy (bf none k1 z b) k1):=by
 rw[eh _ _ (by show (19:Int)≠4;omega)];show oO 19 n 3 (ch (Fs.ex x (Fs.ex y (Fs.ex z .nil))) 19 n nm 3 b 0 [])=_;have hr:∀ d,bJ 19 n 3 d=(match d with | []=>2 | [_]=>0|_::b::_=>b):=fun d=>by unfold bJ;rw[if_neg (by omega),if_pos rfl];first|done|(rcases d with _|⟨x,_|⟨y,r⟩⟩<;>rfl)
 rw[eM _ _ _ _ _ _ _ _ _ (by omega),hr];simp only;rcases ej 2 x.a (bK x b) (by decide) with ⟨u,hu⟩|⟨hu,-⟩
 ·unfold bf;simp only;rw[hu];rfl
 ·have e1:bf none 2 x b=none:=by unfold bf;simp only;rw[hu];rfl
  rw[hu,e1];simp only[List.nil_append];rw[eM _ _ _ _ _ _ _ _ _ (by omega),hr];simp only;cases hy:bK y b with
  | inl e=>rfl
  | inr k1 =>
   simp only[eb];rw[if_neg (fun h=>h.1 rfl)];simp only[List.cons_append,List.nil_append];rw[eM _ _ _ _ _ _ _ _ _ (by omega),hr];unfold bf;simp only;cases eb k1 z.a (bK z b) with
   | inl e=>rfl
   | inr k2 =>
    show Sum.inr (bJ 19 n 3 [2,k1,k2])=_;rw[hr];rfl
def fS (n:Int):Int:=if n=1\/n=2 then 2 else if n=10 then 3 else 1
def cG (n:Int):Int:=if n<=3 then 2 else 1
def cm (n:Int):Int:=if n<=2 then 2 else 1
theorem yO {n:Int}{nm:List UInt8}{a:Int}{f:Fs}{b:List (List UInt8)}(hn:1<=n/\n<=10)(hl:(fW 20 n).length=f.len+1) :
  bK ⟨20,n,nm,a,f⟩ b=dy (eg f none b) (fS n):=by
 rw[eh _ _ (by show (20:Int)≠4;omega)];show oO 20 n f.len (ch f 20 n nm f.len b 0 [])=_;have hn2:n=1\/n=2\/n=3\/n=4\/n=5\/n=6\/n=7\/n=8\/n=9\/n=10:=by omega
 have hv:∀ d:List Int,d.length<f.len->bJ 20 n f.len d=3:=fun d hd=>by
  have hr:bJ 20 n f.len d=(fW 20 n)[d.length]?.getD 0:=by
   unfold bJ;rw[if_neg (by omega),if_neg (by omega),if_neg (by omega)]
  rw[hr];generalize d.length=j at hd;generalize f.len=m at hl hd;rcases hn2 with rfl|rfl|rfl|rfl|rfl|rfl|rfl|rfl|rfl|rfl<;>(simp[fW] at hl;subst hl)
  all_goals (
   have hj:j=0\/j=1:=by omega
   rcases hj with rfl|rfl<;>first|rfl|omega)
 rw[mh 20 n nm f.len b (by omega) f 0 [] (fun d _ h2=>hv d (by simpa using h2))];cases eg f none b with
 | some x=>rfl
 | none =>
  show Sum.inr (bJ 20 n f.len ([]++List.replicate f.len 3))=_;have hr:bJ 20 n f.len ([]++List.replicate f.len 3)=(fW 20 n)[f.len]?.getD 0:=by
   unfold bJ;rw[if_neg (by omega),if_neg (by omega),if_neg (by omega)];simp
  rw[hr];generalize f.len=m at hl;rcases hn2 with rfl|rfl|rfl|rfl|rfl|rfl|rfl|rfl|rfl|rfl<;>(simp[fW] at hl;subst hl;rfl)
theorem tX {k n:Int}{nm:List UInt8}{a:Int}{f:Fs}{b:List (List UInt8)}(hk:(k=22\/k=23)/\f.len=0\/k=24/\f.len=1\/k=25) :
  bK ⟨k,n,nm,a,f⟩ b=dy (eg f none b) 4:=by
 rw[eh _ _ (by show k≠4;omega)];show oO k n f.len (ch f k n nm f.len b 0 [])=_;have hv:∀ d:List Int,d.length<f.len->bJ k n f.len d=3:=fun d hd=>by
  rcases hk with ⟨rfl|rfl,h0⟩|⟨rfl,h0⟩|rfl
  ·omega
  ·omega
  ·have:d.length=0:=by omega
   obtain rfl:=List.length_eq_zero_iff.1 this;rfl
  ·unfold bJ;rw[if_neg (by omega),if_neg (by omega),if_pos rfl,if_pos hd]
 rw[mh k n nm f.len b (by omega) f 0 [] (fun d _ h2=>hv d (by simpa using h2))];cases eg f none b with
 | some x=>rfl
 | none =>
  show Sum.inr (bJ k n f.len ([]++List.replicate f.len 3))=Sum.inr 4
  congr 1
  rcases hk with ⟨rfl|rfl,h0⟩|⟨rfl,h0⟩|rfl
  ·rw[h0];rfl
  ·rw[h0];rfl
  ·rw[h0];rfl
  ·unfold bJ;rw[if_neg (by omega),if_neg (by omega),if_pos rfl,if_neg (by simp)]
theorem vG {n:Int}{nm:List UInt8}{a:Int}{s x:Ex}{b:List (List UInt8)}(hn:1<=n/\n<=6)(hs:bK s b=dy (eg s.kids none b) 4) :
  bK ⟨21,n,nm,a,Fs.ex s (Fs.ex x .nil)⟩ b=dy (bf (eg s.kids none b) (cG n) x (b++[nm])) (cm n):=by
 rw[eh _ _ (by show (21:Int)≠4;omega)];show oO 21 n 2 (ch (Fs.ex s (Fs.ex x .nil)) 21 n nm 2 b 0 [])=_;have hn2:n=1\/n=2\/n=3\/n=4\/n=5\/n=6:=by omega
 have r0:bJ 21 n 2 []=4:=by rcases hn2 with rfl|rfl|rfl|rfl|rfl|rfl<;>rfl
 have r1:bJ 21 n 2 [4]=cG n:=by rcases hn2 with rfl|rfl|rfl|rfl|rfl|rfl<;>rfl
 have r2:∀ k,bJ 21 n 2 [4,k]=cm n:=fun k=>by rcases hn2 with rfl|rfl|rfl|rfl|rfl|rfl<;>rfl
 have hb0:cG n≠0:=by unfold cG;split<;>omega
 have e1:=oN s (Fs.ex x .nil) 21 n nm 2 b 0 [];have e2:=oN x .nil 21 n nm 2 b 1 [4];rw[if_neg (by omega),hs,r0] at e1;rw[if_pos (by decide),r1] at e2;show oO 21 n 2 (ch (.cons s.k s.n s.nm s.a s.kids (.cons x.k x.n x.nm x.a x.kids .nil)) 21 n nm 2 b 0 [])=_;rw[show ch (.cons s.k s.n s.nm s.a s.kids (.cons x.k x.n x.nm x.a x.kids .nil)) 21 n nm 2 b 0 []=_ from e1];cases eg s.kids none b with
 | some z=>rfl
 | none =>
  simp only[dy,eb];rw[if_neg (fun h=>h.2 rfl)];simp only[List.nil_append];rw[show ch (Fs.ex x .nil) 21 n nm 2 b 1 [4]=_ from e2];unfold bf;simp only;rcases ej (cG n) x.a (bK x (b++[nm])) hb0 with ⟨z,hz⟩|⟨hz,-⟩
  ·rw[hz];rfl
  ·rw[hz];show Sum.inr (bJ 21 n 2 [4,cG n])=_;rw[r2];rfl
theorem mZ:∀ (f:Fs) (k n:Int) (nm:List UInt8) (len:Nat) (b:List (List UInt8)) (i:Nat) (done d:List Int),ch f k n nm len b i done=.inr d->d.length=done.length+f.len
 | ⟨none⟩,k,n,nm,len,b,i,done,d,h=>by
  simp only[ch] at h;injection h with h
  subst h;rfl
 | ⟨some ⟨kk,kn,km,ka,kks,kr⟩⟩,k,n,nm,len,b,i,done,d,h=>by
  have e1:ch ⟨some ⟨kk,kn,km,ka,kks,kr⟩⟩ k n nm len b i done=_:=oN ⟨kk,kn,km,ka,kks⟩ kr k n nm len b i done;rw[e1] at h;cases hm:eb (bJ k n len done) ka (bK ⟨kk,kn,km,ka,kks⟩ (if k=21/\i≠0 then b++[nm] else b)) with
  | inl z=>simp only at h;rw[hm] at h;cases h
  | inr is =>
   simp only at h;rw[hm] at h
   have:=mZ kr k n nm len b (i+1) (done++[is]) d h
   simp only[List.length_append,List.length_cons,List.length_nil,Fs.len] at this ⊢;omega
def Fs.stk:Fs->Bool->Prop
 | ⟨none⟩,_=>True
 | ⟨some ⟨k,_,_,_,ks,r⟩⟩,first=>bm k=first/\ks.stk (k==21)/\r.stk false
theorem oM:∀ (f:Fs) (b:Bool) (c c':Nat),hFs f b c=some c'->f.stk b
 | ⟨none⟩,b,c,c',h=>trivial
 | ⟨some ⟨k,n,nm,a,ks,r⟩⟩,b,c,c',h=>by
  unfold hFs at h;split at h
  ·cases h
  ·rename_i h0
   split at h
   ·cases h
   ·split at h
    ·split at h
     ·cases h
     ·rename_i c2 h2
      exact⟨by simpa using h0,oM ks _ _ _ h2,oM r _ _ _ h⟩
    ·cases h
theorem Di {e:Ex}{c c':Nat}(h:hE e c=some c'):e.kids.stk (e.k==21):=by
 unfold hE at h;split at h
 ·cases h
 ·split at h
  ·exact oM _ _ _ _ h
  ·cases h
theorem je:∀ (N:Nat) (e:Ex) (b:List (List UInt8)) (k:Int),e.kids.size<N->e.okA->bK e b=.inr k->k≠0
 | 0,e,b,k,hN,_,_=>absurd hN (Nat.not_lt_zero _)
 | N+1,⟨k0,n,nm,a,f⟩,b,k,hN,hok,h=>by
  have ho:=yu hok.1;have hkid:=hok.1.2.2.1;simp only at hN ho hkid;by_cases h13:k0=13\/k0=14
  ·have hl:f.len=2:=by
    rcases h13 with rfl|rfl<;>(simp[aR,dS,eE] at hkid;omega)
   obtain⟨x,y,rfl⟩:=fQ hl;rw[jS h13] at h;cases hx:bK x b with
   | inl z=>rw[hx] at h;cases h
   | inr k1 =>
    rw[hx] at h;simp only at h;cases hm:bf none k1 y b with
    | some z=>rw[hm] at h;cases h
    | none=>rw[hm] at h;injection h with h;omega
  by_cases h19:k0=19
  ·subst h19;have hl:f.len=3:=by simp[aR] at hkid;omega
   obtain⟨x,y,z,rfl⟩:=zL hl;rw[lR] at h;cases hx:bf none 2 x b with
   | some u=>rw[hx] at h;cases h
   | none =>
    rw[hx] at h;simp only at h;cases hy:bK y b with
    | inl u=>rw[hy] at h;cases h
    | inr k1 =>
     rw[hy] at h;simp only at h;cases hm:bf none k1 z b with
     | some u=>rw[hm] at h;cases h
     | none =>
      rw[hm] at h;injection h with h
      subst h;have hsz:y.kids.size<N:=by
       simp only[oe,Fs.size] at hN;omega
      exact je N y b _ hsz (lu (lu hok.2).2).1 hy
  by_cases h25:k0=22\/k0=23\/k0=24\/k0=25
  ·have hl:(k0=22\/k0=23)/\f.len=0\/k0=24/\f.len=1\/k0=25:=by
    rcases h25 with rfl|rfl|rfl|rfl
    ·exact .inl ⟨.inl rfl,by simp[aR] at hkid;first|done|exact hkid|omega⟩
    ·exact .inl ⟨.inr rfl,by simp[aR] at hkid;first|done|exact hkid|omega⟩
    ·exact .inr (.inl ⟨rfl,by simp[aR] at hkid;first|done|exact hkid|omega⟩)
    ·exact .inr (.inr rfl)
   rw[tX hl] at h;cases hm:eg f none b with
   | some z=>rw[hm] at h;cases h
   | none=>rw[hm] at h;injection h with h;omega
  have hpos:∀ (j:Nat) (v:Int),(fW k0 n)[j]?=some v->v≠0:=by
   intro j v hv;have hmem:=List.mem_of_getElem? hv;have hi:∀ (P:Prop) [Decidable P] (a b:List Int),(∀ x,x ∈ a->x≠0)->(∀ x,x ∈ b->x≠0)->∀ x,x ∈ (if P then a else b)->x≠0:=by
    intro P _ a b ha hb;split
    ·exact ha
    ·exact hb
   revert v
   suffices hall:∀ x,x ∈ fW k0 n->x≠0 from fun v _ hm=>hall v hm
   unfold fW
   repeat' apply hi
   all_goals (intro x hx;simp at hx<;>omega)
  have hfl:(fW k0 n).length=f.len+1:=by
   rcases ho with ho|⟨rfl,-,ho⟩|⟨rfl,-,ho⟩|⟨hr,ho⟩
   ·omega
   ·exact ho
   ·exact ho
   ·rw[<-ho];unfold fW;simp only[hr.2.2.2.1,hr.2.2.2.2.1,if_false]
  have hlen:∀ (f:Fs) (i:Nat) (done d:List Int),ch f k0 n nm (f.len+i) b i done=.inr d->True:=fun _ _ _ _ _=>trivial;unfold bK at h;split at h
  ·cases h
  ·cases hc:ch f k0 n nm f.len b 0 [] with
   | inl z=>simp only at h;rw[hc] at h;cases h
   | inr d =>
    simp only at h;rw[hc] at h;injection h with h
    have hd:=mZ f k0 n nm f.len b 0 [] d hc;have hr:bJ k0 n f.len d=(fW k0 n)[d.length]?.getD 0:=by
     unfold bJ;rw[if_neg (by omega),if_neg (by omega),if_neg (by omega)]
    have hx:(fW k0 n)[d.length]?=some ((fW k0 n)[d.length]'(by simp at hd;omega)):=List.getElem?_eq_getElem (by simp at hd;omega);rw[<-h,hr,hx];exact hpos _ _ hx
def erO (st:Er):Nat:=match st with|some x=>x.1|none=>0
def plO (st:Er):Int:=match st with|some x=>x.2|none=>0
def vd (st:Er):Prop:=∀ x,st=some x->x.1≠0
structure Wk (w:World)(wb:Nat)(bv:Value)(st:Er):Prop where
 blk:w.heap[wb]?=some (.cells #[bv,.int .i64 (erO st:Nat),.int .i64 (plO st)] 154 (0,0))
 ok:vd st
theorem vd.none:vd none:=fun x h=>by cases h
theorem it {w:World}{b:Nat}{a0 a1 a2:Value}{t:TypeId}(h:w.heap[b]?=some (.cells #[a0,a1,a2] t (0,0))):w.cell? ⟨b,0,none⟩=some a0/\w.cell? ⟨b,1,none⟩=some a1/\w.cell? ⟨b,2,none⟩=some a2/\∀ j,w.frozen? ⟨b,j,none⟩=false:=by
 refine⟨?_,?_,?_,fun j=>frozen_of_row w b j _ t h⟩<;>simp[cell_of_row w b _ _ t (0,0) h]
theorem AJ {w:World}{b:Nat}{a0 a1 a2:Value}{t:TypeId}(h:w.heap[b]?=some (.cells #[a0,a1,a2] t (0,0)))(v:Value) :
  (w.setCell ⟨b,0,none⟩ v).heap[b]?=some (.cells #[v,a1,a2] t (0,0))/\(w.setCell ⟨b,1,none⟩ v).heap[b]?=some (.cells #[a0,v,a2] t (0,0))/\(w.setCell ⟨b,2,none⟩ v).heap[b]?=some (.cells #[a0,a1,v] t (0,0)) :=
 ⟨(Blk.set (o:=fun _=>0) (i:=0) ⟨h,rfl⟩ 0 v).1,(Blk.set (o:=fun _=>0) (i:=0) ⟨h,rfl⟩ 1 v).1,(Blk.set (o:=fun _=>0) (i:=0) ⟨h,rfl⟩ 2 v).1⟩
def Nmk (wb:Nat)(w:World)(v:Value)(b:List (List UInt8)):Prop:=Nms w v b/\∀ g off n c,v=.slice (some ⟨g,off,none⟩) n c->g≠wb
theorem Nmk.keep {wb:Nat}{w w':World}{v:Value}{b:List (List UInt8)}(h:Nmk wb w v b)(K:au wb w w'):Nmk wb w' v b:=by
 refine⟨?_,h.2⟩;obtain⟨⟨ao,cap,rfl,hc,h1|⟨g,rfl,h2,h0,h3⟩⟩,h4⟩:=h
 ·exact⟨ao,cap,rfl,hc,.inl h1⟩
 ·exact⟨_,cap,rfl,hc,.inr ⟨g,rfl,Nat.lt_of_lt_of_le h2 K.size,h0,fun j t hj=>(K.cell h2 (h4 _ _ _ _ rfl) j).trans (h3 j t hj)⟩⟩
theorem tR (w:World)(wb:Nat)(bv:Value)(er:Nat)(a:Int)(her:er≠0)(h:Wk w wb bv none) :
  Calls Tryz.prog 228 #[.pointer (some ⟨wb,0,none⟩),.int .i64 (er:Nat),.int .i64 a] w fun x w'=>x=.returned (.tuple #[])/\Wk w' wb bv (some (er,a))/\au wb w w':=by
 have h1:=h.blk;simp only[erO,plO] at h1;obtain⟨c0,c1,c2,cf⟩:=it h1;have F1:=(AJ h1 (.int .i64 (er:Nat))).2.1;have F2:=(AJ F1 (.int .i64 a)).2.2;have K:=((au.refl wb w).set ⟨wb,1,none⟩ (.int .i64 (er:Nat)) (.inr rfl)).set ⟨wb,2,none⟩ (.int .i64 a) (.inr rfl);have HZ:Hid (Wk ((w.setCell ⟨wb,1,none⟩ (.int .i64 (er:Nat))).setCell ⟨wb,2,none⟩ (.int .i64 a)) wb bv (some (er,a))/\au wb w ((w.setCell ⟨wb,1,none⟩ (.int .i64 (er:Nat))).setCell ⟨wb,2,none⟩ (.int .i64 a))) :=
  ⟨⟨F2,fun x hx=>by injection hx with hx;subst hx;exact her⟩,K⟩
 clear h F1 F2 K h1;go_enter Tryz.func228,Tryz.ntmps228;go_wp2
 go_end0
 exact⟨rfl,HZ.out.1,HZ.out.2⟩
def CU (w:World)(wb:Nat)(bv:Value)(b:List (List UInt8))(e:Ex)(x:Ending)(w':World):Prop :=
 (∃r,x=.returned (.int .i64 r)/\(e.nm ∈ b->r=3))/\Wk w' wb bv (if e.nm ∈ b then none else some (130,e.a))/\au wb w w'
theorem CI (e:Ex)(ao:Option Addr)(cap:Nat)(w:World)(wb:Nat)(bv:Value)(b:List (List UInt8))(h:Wk w wb bv none)(hn:Nmk wb w bv b)(hl:b.length<=100000) :
  Calls Tryz.prog 161 #[.pointer (some ⟨wb,0,none⟩),exV e ao cap] w (CU w wb bv b e):=by
 have B0:Below w.heap.size w (w.alloc (.cells #[.int .i64 e.k,.int .i64 e.n,stv e.nm,.slice ao e.kids.len cap,.int .i64 e.a] 25)):=(Below.refl _ w).alloc (Nat.le_refl _) _;have E0:(w.alloc (.cells #[.int .i64 e.k,.int .i64 e.n,stv e.nm,.slice ao e.kids.len cap,.int .i64 e.a] 25)).heap[w.heap.size]?=some (.cells #[.int .i64 e.k,.int .i64 e.n,stv e.nm,.slice ao e.kids.len cap,.int .i64 e.a] 25):=heap_alloc_new w _;have hwb:=lt_of_block h.blk;have W0:=(B0.block _ hwb).trans h.blk;have N0:=hn.1.below B0;clear h hn;rw[am];go_enter Tryz.func161,Tryz.ntmps161;go_upto_region 1 with fail;generalize w.alloc (.cells #[.int .i64 e.k,.int .i64 e.n,stv e.nm,.slice ao e.kids.len cap,.int .i64 e.a] 25)=w0 at *;obtain⟨bx,hbx⟩:∃bx,bx=w.heap.size:=⟨_,rfl⟩
 rw[<-hbx] at E0 B0 ⊢;have HB:Hid (bx=w.heap.size):=hbx;clear hbx;have hbx0:=lt_of_block E0;have hwb0:=lt_of_block W0;obtain⟨av,capv,rfl,hcv,hp⟩:=N0;simp only[erO,plO] at W0;go_wp2;go_loopw [5] (fun v wr=>∃k:Nat,k<=b.length/\v=.int .i64 (k:Nat)/\Hid (∀ j,j<k->b[j]?≠some e.nm)/\Below w0.heap.size w0 wr) (fun v _=>b.length-(intOf v).toNat)
 case atStart=>exact⟨0,by omega,by go_num,fun j hj=>absurd hj (Nat.not_lt_zero _),Below.refl _ _⟩
 case round =>
  obtain⟨k,hk,rfl,hno,B1⟩:=hrel;have E1:=(B1.block _ hbx0).trans E0;have W1:=(B1.block _ hwb0).trans W0;obtain⟨p0,p1,p2,p3,p4,pf⟩:=ai E1;obtain⟨q0,q1,q2,qf⟩:=it W1;by_cases hlt:k<b.length
  ·have hx:b[k]?=some b[k]:=List.getElem?_eq_getElem hlt;rcases hp with ⟨rfl,-⟩|⟨g,rfl,hg,-,hcell⟩
   ·simp at hlt
   have c1:=(B1.cell (p:=⟨g,k,none⟩) hg).trans (hcell k _ hx);generalize b[k]=x at c1 hx;have hkI:(k:Int)<(b.length:Int):=by omega
   have HX:Hid (b[k]?=some x):=hx;clear hx hcell;by_cases he:x=e.nm
   ·subst he;have hbe:(e.nm==e.nm)=true:=by simp
    have hmem:e.nm ∈ b:=List.mem_of_getElem? HX.out;have FIN:Hid (e.nm ∈ b):=hmem;clear hno HX hmem;go_wp2_with fail
    go_quiet (fail)
    go_wp2;refine bodyPost_ret (v:=.int .i64 3) (by simp[results,Tryz.results161,go_sem]) rfl ⟨⟨3,rfl,fun _=>rfl⟩,?_,?_⟩
    ·rw[if_pos FIN.out];exact⟨W1,vd.none⟩
    ·refine au.ofBelow ?_;rw[<-HB.out];exact B0.trans ((B1.trans (show Below w0.heap.size wr (wr.drewN nq) from ⟨rfl,rfl,rfl,Nat.le_refl _,fun _ _=>rfl⟩)).mono (Nat.le_of_lt hbx0))
   ·have hbe:(x==e.nm)=false:=by simpa using he
    have hn2:Hid (∀ j,j<k+1->b[j]?≠some e.nm):=by
     intro j hj;rcases Nat.lt_succ_iff_lt_or_eq.1 hj with h1|rfl
     ·exact hno.out j h1
     ·rw[HX.out];intro h2;injection h2 with h2
      exact he h2
    clear hno HX he;go_wp2_with fail
    go_quiet (fail)
    have B2:=B1.trans (show Below w0.heap.size wr (wr.drewN nq) from ⟨rfl,rfl,rfl,Nat.le_refl _,fun _ _=>rfl⟩);go_wp2;go_roundw
    case rel=>exact⟨k+1,by omega,by go_num,hn2,B2⟩
    case measure=>simp[intOf];omega
  ·obtain rfl:k=b.length:=by omega
   have FIN:Hid (¬e.nm ∈ b):=by
    intro h1;obtain⟨j,hj,h2⟩:=List.mem_iff_getElem.1 h1;exact hno.out j hj (by rw[List.getElem?_eq_getElem hj,h2])
   have c1:=tR wr wb (.slice av b.length capv) 130 e.a (by decide) ⟨W1,vd.none⟩;clear hno hp;go_wp2_with fail;refine c1.mono ?_;rintro x w3 ⟨rfl,W3,K3⟩;clear c1 p0 p1 p2 p3 p4 pf q0 q1 q2 qf;go_wp2;refine bodyPost_ret (v:=.int .i64 0) (by simp[results,Tryz.results161,go_sem]) rfl ⟨⟨0,rfl,fun h=>absurd h FIN.out⟩,?_,?_⟩
   ·rw[if_neg FIN.out];exact W3
   ·refine(au.ofBelow ?_).trans K3;rw[<-HB.out];exact B0.trans (B1.mono (Nat.le_of_lt hbx0))
theorem oB (n:Int)(w:World):Calls Tryz.prog 107 #[.int .i64 n] w fun x w'=>x=.returned (.int .i64 (fS n))/\w'=w:=by
 unfold fS;by_cases h1:n=1
 ·subst h1;go_enter Tryz.func107,Tryz.ntmps107;go_wp2;go_ret;exact⟨rfl,rfl⟩
 ·by_cases h2:n=2
  ·subst h2;go_enter Tryz.func107,Tryz.ntmps107;go_wp2;go_ret;exact⟨rfl,rfl⟩
  ·rw[if_neg (by omega)];have b1:(n==1)=false:=by simpa using h1
   have b2:(n==2)=false:=by simpa using h2
   by_cases h3:n=10
   ·subst h3;go_enter Tryz.func107,Tryz.ntmps107;go_wp2;go_ret;exact⟨rfl,rfl⟩
   ·rw[if_neg h3];have b3:(n==10)=false:=by simpa using h3
    clear h1 h2 h3;go_enter Tryz.func107,Tryz.ntmps107;go_wp2;go_ret;exact⟨rfl,rfl⟩
theorem xO (n:Int)(w:World):Calls Tryz.prog 171 #[.int .i64 n] w fun x w'=>x=.returned (.int .i64 (cG n))/\w'=w:=by
 unfold cG;by_cases h1:n<=3
 ·rw[if_pos h1];go_enter Tryz.func171,Tryz.ntmps171;go_wp2;go_ret;exact⟨rfl,rfl⟩
 ·rw[if_neg h1];go_enter Tryz.func171,Tryz.ntmps171;go_wp2;go_ret;exact⟨rfl,rfl⟩
theorem nX (n:Int)(w:World):Calls Tryz.prog 172 #[.int .i64 n] w fun x w'=>x=.returned (.int .i64 (cm n))/\w'=w:=by
 unfold cm;by_cases h1:n<=2
 ·rw[if_pos h1];go_enter Tryz.func172,Tryz.ntmps172;go_wp2;go_ret;exact⟨rfl,rfl⟩
 ·rw[if_neg h1];go_enter Tryz.func172,Tryz.ntmps172;go_wp2;go_ret;exact⟨rfl,rfl⟩
end Go.Proofs.YtbjdkekhnajafaaGreatDoor

import Derived.Test.YtbjdkekhnajafaaGreatDoorApp1
set_option maxRecDepth 100000
set_option maxHeartbeats 8000000
namespace Go.Proofs.YtbjdkekhnajafaaGreatDoor
open Go.ChangeShapes Go.WideShapes Go.ChangeAt Go.RowKit
set_option linter.unusedVariables false
set_option linter.unusedSimpArgs false
def rM (N:Nat):Prop:=∀ (e:Ex) (ao:Option Addr) (cap:Nat) (bd:List (List UInt8)) (bv:Value) (w:World),e.kids.size<N->e.kids.len<=1000000000->e.kids.short->bd.length+e.kids.size<=1000000->Nms w bv bd->SlA w e.kids ao ->
 Calls Tryz.prog 51 #[exV e ao cap,bv] w(wL w(ofE e bd))
theorem Nms.news {w:World}{ao:Option Addr}{cap:Nat}{b:List (List UInt8)}(h:Nms w (.slice ao b.length cap) b):0<b.length->∃ad,ao=some ad/\∀ j u,(b.map fun x=>stv x)[j]?=some u->w.cell? (ad.add j)=some u:=by
 intro h0;obtain⟨ao',cap',hv,hc,h1|⟨g,h1,h2,h3,h4⟩⟩:=h
 ·rw[h1.1] at h0;simp at h0
 ·injection hv with hv1
  subst hv1;refine⟨_,h1,fun j u hj=>?_⟩;rw[List.getElem?_map] at hj;cases hb:b[j]? with
  | none=>rw[hb] at hj;cases hj
  | some t =>
   rw[hb] at hj;injection hj with hj
   subst hj;have h5:((⟨g,0,none⟩:Addr).add j)=⟨g,j,none⟩:=by simp only[Addr.add];split<;>simp_all
   rw[h5];exact h4 j t hb
theorem Nms.ofRowL {w:World}{o:Nat->Nat}{i g cap:Nat}{b:List (List UInt8)}{n:Nat}(h:Row w o i 9 1 (.slice (some ⟨g,0,none⟩) n cap) n (b.map fun x=>stv x))(hn:b.length=n)(h0:0<n):Nms w (.slice (some ⟨g,0,none⟩) n cap) b :=
 Nms.ofRow(o:=fun _=>1)⟨h.1,fun _ _=>rfl⟩ hn h0
theorem wH (b:List (List UInt8)):∀ u ∈ b.map (fun x=>stv x),u.oneCell'=true:=fun u hu=>by
 obtain⟨x,_,rfl⟩:=List.mem_map.1 hu;rfl
theorem uP {N:Nat}(IH:rM N):rM (N+1):=by
 intro e ao cap bd bv w hN hlen hsh hbd HN S;obtain⟨Y,hY⟩:∃Y,Y=ofE e bd:=⟨_,rfl⟩
 have HY:Hid(Y=ofE e bd):=hY;rw[<-hY];clear hY;obtain⟨ii,hii,hzi0,hzi1,hzi2⟩:=aH pR;obtain⟨is,his,hzs0,hzs1,hzs2⟩:=aH ql;obtain⟨w0,hw0⟩:∃w0,w0=((w.alloc(.cells #[.int .i64 e.k,.int .i64 e.n,stv e.nm,.slice ao e.kids.len cap,.int .i64 e.a] 25)).alloc(.cells #[.int .i64 0,.int .i64 0,.string⟨#[]⟩,.slice none 0 0] 34)).alloc(.cells #[.int .i64 e.k,.int .i64 e.n,.string⟨#[]⟩,.slice none 0 0] 34):=⟨_,rfl⟩
 have B0:Below w.heap.size w w0:=by rw[hw0];exact(((Below.refl _ w).alloc(Nat.le_refl _) _).alloc(by simp) _).alloc(by simp;omega) _
 obtain⟨o0,ho0⟩:∃o0:Nat->Nat,o0=fun k=>if k=w.heap.size+1+1 then 1 else if k=w.heap.size+1 then 3 else 0:=⟨_,rfl⟩
 have E0:Blk w0 o0 0 w.heap.size(.cells #[.int .i64 e.k,.int .i64 e.n,stv e.nm,.slice ao e.kids.len cap,.int .i64 e.a] 25):=by
  refine⟨?_,by rw[ho0];simp only;rw[if_neg(by omega),if_neg(by omega)]⟩;rw[hw0];exact(Below.heap_alloc _ _ _(by simp;omega)).trans((Below.heap_alloc _ _ _(by simp)).trans(heap_alloc_new w _))
 have Z0:Blk w0 o0 3(w.heap.size+1)(.cells #[.int .i64 0,.int .i64 0,.string⟨#[]⟩,.slice none 0 0] 34):=by
  refine⟨?_,by rw[ho0];simp⟩;rw[hw0];refine(Below.heap_alloc _ _ _(by simp)).trans ?_
  have:=heap_alloc_new(w.alloc(.cells #[.int .i64 e.k,.int .i64 e.n,stv e.nm,.slice ao e.kids.len cap,.int .i64 e.a] 25))(.cells #[.int .i64 0,.int .i64 0,.string⟨#[]⟩,.slice none 0 0] 34)
  simpa using this
 have O0:Blk w0 o0 1(w.heap.size+1+1)(.cells #[.int .i64 e.k,.int .i64 e.n,.string⟨#[]⟩,.slice none 0 0] 34):=by
  refine⟨?_,by rw[ho0];simp⟩;rw[hw0]
  have:=heap_alloc_new((w.alloc(.cells #[.int .i64 e.k,.int .i64 e.n,stv e.nm,.slice ao e.kids.len cap,.int .i64 e.a] 25)).alloc(.cells #[.int .i64 0,.int .i64 0,.string⟨#[]⟩,.slice none 0 0] 34))(.cells #[.int .i64 e.k,.int .i64 e.n,.string⟨#[]⟩,.slice none 0 0] 34)
  simpa using this
 have L0:∀ k,k<w.heap.size->o0 k=0:=fun k hk=>by rw[ho0];simp only;rw[if_neg(by omega),if_neg(by omega)]
 have A0:=jM.nil w0 o0(fun _=>False) w.heap.size;have N0:=HN.below B0;obtain⟨ab,cb,hbv,hbc,hbx⟩:=HN;have HNM:Hid(Nms w bv bd):=⟨ab,cb,hbv,hbc,hbx⟩
 subst hbv;rw[aq];go_enter Tryz.func51,Tryz.ntmps51;go_upto_region 2 with fail;rw[<-hw0];clear hw0 ho0;obtain⟨n0,hn0⟩:∃n0,n0=w.heap.size:=⟨_,rfl⟩
 unfold wL;rw[<-hn0] at E0 Z0 O0 L0 A0 B0 ⊢;have HB:Hid(n0=w.heap.size):=hn0;clear hn0 hbx;obtain⟨p0,p1,p2,p3,p4,pf⟩:=am E0.1;have HNW:Hid(∀ W,Below n0 w W->Nms W(.slice ab bd.length cb) bd):=fun W b=>Nms.below HNM.out(by rw[<-HB.out];exact b);by_cases h4:e.k=4
 ·have hb4:(e.k==4)=true:=by simpa using h4
  have HY4:Hid(Y=⟨5,ew bd e.nm 0 e.n,[],0,.nil⟩):=by show _=_;rw[HY.out];unfold ofE;rw[if_pos h4]
  have s1:aa(fun k=>k=1) w0 o0(w0.setCell⟨n0+1+1,0,none⟩(.int .i64 5)) o0:=bU _ w0 o0⟨n0+1+1,0,none⟩ _ O0.2;have O1:=O0.set 0(.int .i64 5);have E1:=E0.step s1(by decide);have Z1:=Z0.step s1(by decide);have B1:=aJ B0 s1(fun k hk=>by rw[L0 k hk];decide)(by rw[HB.out];exact Nat.le_refl _);have LH:Hid(∀ k,k<n0->o0 k=0):=L0;obtain⟨t0,t1,t2,t3,tf⟩:=aI O0.1;clear s1 E0 Z0 O0 A0 B0 HY L0 N0;go_wp2;clear p0 p1 p2 p3 p4 pf t0 t1 t2 t3 tf;go_loopw [6](fun v wr=>∃(j:Nat)(n1:Int),v=.int .i64(j:Nat)/\j<=bd.length/\Hid(ew(bd.drop j) e.nm j n1=ew bd e.nm 0 e.n)/\Blk wr o0 0 n0(.cells #[.int .i64 e.k,.int .i64 e.n,stv e.nm,.slice ao e.kids.len cap,.int .i64 e.a] 25)/\Blk wr o0 3(n0+1)(.cells #[.int .i64 0,.int .i64 0,.string⟨#[]⟩,.slice none 0 0] 34)/\Blk wr o0 1(n0+1+1)(.cells #[.int .i64 5,.int .i64 n1,.string⟨#[]⟩,.slice none 0 0] 34)/\Below n0 w wr)(fun v _=>bd.length-(intOf v).toNat)
  case atStart=>exact⟨0,e.n,by show _=Value.int .i64((0:Nat):Int);rfl,by omega,rfl,E1,Z1,O1,B1⟩
  case round =>
   clear E1 Z1 O1 B1;obtain⟨j,n1,rfl,hj,HL,E1,Z1,O1,B1⟩:=hrel;obtain⟨p0,p1,p2,p3,p4,pf⟩:=am E1.1;obtain⟨t0,t1,t2,t3,tf⟩:=aI O1.1;by_cases hlt:j<bd.length
   ·have hx:bd[j]?=some bd[j]:=List.getElem?_eq_getElem hlt;have hdrop:bd.drop j=bd[j]::bd.drop(j+1):=List.drop_eq_getElem_cons hlt;obtain⟨_,_,hv,-,h1|⟨gb,h1,hgb,-,hcell⟩⟩:=HNW.out wr B1
    ·rw[h1.1] at hlt;simp at hlt
    injection hv with hv1
    subst hv1;subst h1;have hcj:=hcell j _ hx;have HLD:Hid(ew(bd[j]::bd.drop(j+1)) e.nm j n1=ew bd e.nm 0 e.n):=by show _=_;rw[<-hdrop];exact HL.out
    generalize bd[j]=x at hcj HLD;have hltI:(j:Int)<(bd.length:Int):=by omega
    have hjb:j<1000000:=by omega
    clear hx hdrop hcell HL;go_upto_region 8 with fail;by_cases hxe:x=e.nm
    ·have hbe:(x==e.nm)=true:=by simpa using hxe
     have HL2:Hid(ew(bd.drop(j+1)) e.nm(j+1)(j:Int)=ew bd e.nm 0 e.n):=by
      have h:ew(bd.drop(j+1)) e.nm(j+1)(if x=e.nm then(j:Int) else n1)=ew bd e.nm 0 e.n:=HLD.out;rw[if_pos hxe] at h;exact h
     clear hxe HLD
     go_quiet(fail)
     have bq:Below wr.heap.size wr(wr.drewN nq):=bdr(Below.refl _ _) nq;have sq:aa(fun _=>False) wr o0(wr.drewN nq) o0:=(aa.refl _ wr o0).drewN nq;have E2:=E1.step sq id;have Z2:=Z1.step sq id;have O2:=O1.step sq id;have B2:=aJ B1 sq(fun _ _=>id)(by rw[HB.out];exact Nat.le_refl _);generalize wr.drewN nq=wq at *;clear E1 Z1 O1 B1 bq sq p0 p1 p2 p3 p4 pf t0 t1 t2 t3 tf hcj;obtain⟨t0,t1,t2,t3,tf⟩:=aI O2.1;have s3:aa(fun k=>k=1) wq o0(wq.setCell⟨n0+1+1,1,none⟩(.int .i64(j:Nat))) o0:=bU _ wq o0⟨n0+1+1,1,none⟩ _ O2.2;have O3:=O2.set 1(.int .i64(j:Nat));have E3:=E2.step s3(by decide);have Z3:=Z2.step s3(by decide);have B3:=aJ B2 s3(fun k hk=>by rw[LH.out k hk];decide)(by rw[HB.out];exact Nat.le_refl _);clear s3 E2 Z2 O2 B2;go_wp2;go_roundw
     case rel=>(try((repeat apply Exists.intro);refine⟨?_,rfl⟩));exact⟨j+1,_,by go_num,by omega,HL2,E3,Z3,O3,B3⟩
     case measure=>simp[intOf];omega
    ·have hbe:(x==e.nm)=false:=by simpa using hxe
     have HL2:Hid(ew(bd.drop(j+1)) e.nm(j+1) n1=ew bd e.nm 0 e.n):=by
      have h:ew(bd.drop(j+1)) e.nm(j+1)(if x=e.nm then(j:Int) else n1)=ew bd e.nm 0 e.n:=HLD.out;rw[if_neg hxe] at h;exact h
     clear hxe HLD
     go_quiet(fail)
     have sq:aa(fun _=>False) wr o0(wr.drewN nq) o0:=(aa.refl _ wr o0).drewN nq;have E2:=E1.step sq id;have Z2:=Z1.step sq id;have O2:=O1.step sq id;have B2:=aJ B1 sq(fun _ _=>id)(by rw[HB.out];exact Nat.le_refl _);generalize wr.drewN nq=wq at *;clear E1 Z1 O1 B1 sq p0 p1 p2 p3 p4 pf t0 t1 t2 t3 tf hcj;go_wp2;go_roundw
     case rel=>(try((repeat apply Exists.intro);refine⟨?_,rfl⟩));exact⟨j+1,_,by go_num,by omega,HL2,E2,Z2,O2,B2⟩
     case measure=>simp[intOf];omega
   ·have hltI:¬(j:Int)<(bd.length:Int):=by omega
    have HN1:Hid(n1=ew bd e.nm 0 e.n):=by
     have h:=HL.out;rw[List.drop_eq_nil_of_le(by omega)] at h;exact h
    have HU:Hid(∃wz,wz=((((wr.setCell⟨n0+1,0,none⟩(.int .i64 5)).setCell⟨n0+1,1,none⟩(.int .i64 n1)).setCell⟨n0+1,2,none⟩(.string⟨#[]⟩)).setCell⟨n0+1,3,none⟩(.slice none 0 0))/\wz.cell?⟨n0+1,0,none⟩=some(.int .i64 5)/\wz.cell?⟨n0+1,1,none⟩=some(.int .i64 n1)/\wz.cell?⟨n0+1,2,none⟩=some(.string⟨#[]⟩)/\wz.cell?⟨n0+1,3,none⟩=some(.slice none 0 0)/\Below n0 w wz):=by
     obtain⟨u0,u1,u2,u3,-⟩:=aI(wG(b0:=.int .i64 5)(b1:=.int .i64 n1)(b2:=.string⟨#[]⟩)(b3:=.slice none 0 0) Z1.1);exact⟨_,rfl,u0,u1,u2,u3,(((B1.setCell(p:=⟨n0+1,0,none⟩)(Nat.le_succ _) _).setCell(p:=⟨n0+1,1,none⟩)(Nat.le_succ _) _).setCell(p:=⟨n0+1,2,none⟩)(Nat.le_succ _) _).setCell(p:=⟨n0+1,3,none⟩)(Nat.le_succ _) _⟩
    obtain⟨z0,z1,z2,z3,zf⟩:=aI Z1.1;clear E1 Z1 O1 B1 HL;go_wp2;obtain⟨wz,hwz,v0,v1,v2,v3,BZ⟩:=HU.out;rw[<-hwz];refine bodyPost_ret(v:=exN Y none 0) ?_ rfl⟨none,0,rfl,by rw[HY4.out];exact SlN.nil _ _ _,by rw[<-HB.out];exact BZ⟩;rw[HY4.out,<-HN1.out];simp[results,Tryz.results51,go_sem,v0,v1,v2,v3,exN];rfl
 have hb4:(e.k==4)=false:=by simpa using h4
 obtain⟨onm,honm⟩:∃onm,onm=if e.k=23 then e.nm else([]:List UInt8):=⟨_,rfl⟩
 obtain⟨F,hF⟩:∃F,F=ofF e.kids e.k e.nm 0 bd:=⟨_,rfl⟩
 have HYN:Hid(Y=⟨e.k,e.n,onm,0,F⟩):=by show _=_;rw[HY.out,honm,hF];unfold ofE;rw[if_neg h4]
 have HF:Hid(F=ofF e.kids e.k e.nm 0 bd):=hF;have HOM:Hid(onm=if e.k=23 then e.nm else([]:List UInt8)):=honm;have LH:Hid(∀ k,k<n0->o0 k=0):=L0;clear honm hF HY h4 N0 L0;have hcase:((e.k==23)=true/\onm=e.nm)\/((e.k==23)=false/\onm=[]):=by
  by_cases h23:e.k=23
  ·exact .inl⟨by simpa using h23,by rw[HOM.out,if_pos h23]⟩
  ·exact .inr⟨by simpa using h23,by rw[HOM.out,if_neg h23]⟩
 rcases hcase with⟨hb23,ho1⟩|⟨hb23,ho1⟩
 focus
  obtain⟨t0,t1,t2,t3,tf⟩:=aI O0.1;have s1:aa(fun k=>k=1) w0 o0(w0.setCell⟨n0+1+1,2,none⟩(stv e.nm)) o0:=bU _ w0 o0⟨n0+1+1,2,none⟩ _ O0.2;have O1:Blk(w0.setCell⟨n0+1+1,2,none⟩(stv e.nm)) o0 1(n0+1+1)(.cells #[.int .i64 e.k,.int .i64 e.n,stv onm,.slice none 0 0] 34):=by rw[ho1];exact O0.set 2(stv e.nm)
  have E1:=E0.step s1(by decide);have Z1:=Z0.step s1(by decide);have A1:=A0.step s1(by decide)(by decide);have B1:=aJ B0 s1(fun k hk=>by rw[LH.out k hk];decide)(by rw[HB.out];exact Nat.le_refl _);clear s1 O0 E0 Z0 A0 B0 ho1;go_upto_region 13 with fail;generalize w0.setCell⟨n0+1+1,2,none⟩(stv e.nm)=w1 at *;clear t0 t1 t2 t3 tf
 rotate_left
 focus
  have O1:Blk w0 o0 1(n0+1+1)(.cells #[.int .i64 e.k,.int .i64 e.n,stv onm,.slice none 0 0] 34):=by rw[ho1];exact O0
  have E1:=E0;have Z1:=Z0;have A1:=A0;have B1:=B0;clear O0 E0 Z0 A0 B0 ho1;go_upto_region 13 with fail
 all_goals(
  clear p0 p1 p2 p3 p4 pf HOM;go_wp2;go_loopw [7](fun v wr=>∃(done r acc:Fs)(o:Nat->Nat)(va:Value),Hid(e.kids=done.app r)/\v=.int .i64(done.len:Nat)/\Hid(acc.len=done.len)/\Hid(acc.app(ofF r e.k e.nm done.len bd)=F)/\Blk wr o 0 n0(.cells #[.int .i64 e.k,.int .i64 e.n,stv e.nm,.slice ao e.kids.len cap,.int .i64 e.a] 25)/\Blk wr o 3(n0+1)(.cells #[.int .i64 0,.int .i64 0,.string⟨#[]⟩,.slice none 0 0] 34)/\Blk wr o 1(n0+1+1)(.cells #[.int .i64 e.k,.int .i64 e.n,stv onm,va] 34)/\jM wr o(fun _=>False) n0 acc va/\Hid(∀ k,k<n0->o k=0)/\Below n0 w wr)(fun v _=>e.kids.len-(intOf v).toNat)
  case atStart=>exact⟨.nil,e.kids,.nil,o0,.slice none 0 0,rfl,by show _=Value.int .i64((0:Nat):Int);rfl,rfl,HF.out.symm,E1,Z1,O1,A1,LH,B1⟩
  case round =>
   clear E1 Z1 O1 A1 B1 HF LH;obtain⟨done,r,acc,o,va,hk,rfl,hal,HA,E1,Z1,O1,A1,L1,B1⟩:=hrel;have hlk:e.kids.len=done.len+r.len:=by rw[hk.out,Fs.len_app]
   obtain⟨p0,p1,p2,p3,p4,pf⟩:=am E1.1;cases r using Fs.on with
   | nil =>
    have hl0:¬(done.len:Int)<(e.kids.len:Int):=by simp only[Fs.len] at hlk;omega
    have HDN:Hid(acc=F):=by
     show _=_;rw[<-HA.out];exact(jG acc).symm
    obtain⟨ad,cd,rfl,SD⟩:=A1.sl;have HU:Hid(∃wz,wz=((((wr.setCell⟨n0+1,0,none⟩(.int .i64 e.k)).setCell⟨n0+1,1,none⟩(.int .i64 e.n)).setCell⟨n0+1,2,none⟩(stv onm)).setCell⟨n0+1,3,none⟩(.slice ad acc.len cd))/\wz.cell?⟨n0+1,0,none⟩=some(.int .i64 e.k)/\wz.cell?⟨n0+1,1,none⟩=some(.int .i64 e.n)/\wz.cell?⟨n0+1,2,none⟩=some(stv onm)/\wz.cell?⟨n0+1,3,none⟩=some(.slice ad acc.len cd)/\SlN wz(Nw n0) acc ad/\Below n0 w wz):=by
     obtain⟨u0,u1,u2,u3,-⟩:=aI(wG(b0:=.int .i64 e.k)(b1:=.int .i64 e.n)(b2:=stv onm)(b3:=.slice ad acc.len cd) Z1.1);refine⟨_,rfl,u0,u1,u2,u3,?_,(((B1.setCell(p:=⟨n0+1,0,none⟩)(Nat.le_succ _) _).setCell(p:=⟨n0+1,1,none⟩)(Nat.le_succ _) _).setCell(p:=⟨n0+1,2,none⟩)(Nat.le_succ _) _).setCell(p:=⟨n0+1,3,none⟩)(Nat.le_succ _) _⟩;exact SD.mono(fun i hp hl=>nC wr(n0+1) i _ _ _ _(fun ee=>by
      have h2:=Z1.2;rw[<-ee] at h2;rcases hp.1 with h|h<;>omega))(by simp)(fun i hp _=>by
       rcases hp.2 with h|h
       ·exact h.1.elim
       ·exact h)
    obtain⟨z0,z1,z2,z3,zf⟩:=aI Z1.1;obtain⟨t0,t1,t2,t3,tf⟩:=aI O1.1;clear E1 Z1 O1 A1 B1 SD HA hk hlk;go_wp2;obtain⟨wz,hwz,v0,v1,v2,v3,SZ,BZ⟩:=HU.out;rw[<-hwz];refine bodyPost_ret(v:=exN Y ad cd) ?_ rfl⟨ad,cd,rfl,by rw[HYN.out,<-HDN.out,<-HB.out];exact SZ,by rw[<-HB.out];exact BZ⟩;rw[HYN.out,<-HDN.out];simp[results,Tryz.results51,go_sem,v0,v1,v2,v3,exN]
   | cons kk kn km ka kks kr =>
    have hl0:(done.len:Int)<(e.kids.len:Int):=by simp only[Fs.len] at hlk;omega
    have hl1:done.len<e.kids.len:=by omega
    have hsz:e.kids.size=done.size+(kks.size+kr.size+1):=by rw[hk.out,Fs.size_app];rfl
    have hsk:(Fs.cons kk kn km ka kks kr).short:=Fs.app_short(by rw[<-hk.out];exact hsh);have hk2:Hid(e.kids=(done.snoc⟨kk,kn,km,ka,kks⟩).app kr):=by show e.kids=_;rw[hk.out];unfold Fs.snoc;rw[Fs.app_assoc];rfl
    have hl2:(done.len:Int)+1=((done.snoc⟨kk,kn,km,ka,kks⟩).len:Nat):=by rw[Fs.len_snoc];rfl
    have HA2:Hid(acc.app(Fs.ex(ofE⟨kk,kn,km,ka,kks⟩(iu e.k e.nm done.len bd))(ofF kr e.k e.nm(done.len+1) bd))=F):=by
     have h:=HA.out;rw[tH] at h;exact h
    have hbl:(iu e.k e.nm done.len bd).length<=bd.length+1:=by unfold iu;split<;>simp
    have HS1:Hid(∀ W,Below n0 w W->SlA W(done.app(.cons kk kn km ka kks kr)) ao):=fun W b=>by rw[<-hk.out];exact SlT.below S(by rw[<-HB.out];exact b)
    by_cases hA:e.k=21/\done.len=1
    focus
     have hk21:(e.k==21)=true:=by simpa using hA.1
     have hd1:((done.len:Int)==1)=true:=by simp;omega
     have HIN:Hid(iu e.k e.nm done.len bd=bd++[e.nm]):=by show _=_;unfold iu;rw[if_pos hA]
     have hnews:=Nms.news(HNW.out wr B1);have hone:=wH bd;have hE1:=E1.lt;clear hA hk hlk;go_wp2_with(first|(at_builtin;refine fe rfl(.tmp 57)(.tmp 58) 40 rfl 9 is(.string⟨#[]⟩) 1 16 Tryz.underlying40 his hzs0 hzs1 hzs2 rfl(by decide) o 7 _ 0 [] rfl(Row.nil _ _ _ _ _) ab bd.length cb(bd.map fun x=>stv x) rfl ?c1 hnews hone ?c3 ?c4 ?_)|go_in)
     case c1=>simp
     case c3=>unfold maxLen;omega
     case c4=>omega
     intro a2 c2 w2 o2 R2 s2;try simp only[Nat.zero_add,List.nil_append] at R2
     try simp only[Nat.zero_add,List.nil_append]
     have E2:=E1.step s2(by decide);have Z2:=Z1.step s2(by decide);have O2:=O1.step s2(by decide);have A2:=A1.step s2(by decide)(by decide);have L2:Hid(∀ k,k<n0->o2 k=0):=fun k hk=>(s2.lab k(by omega)).trans(L1.out k hk);have B2:=aJ B1 s2(fun k hk=>by rw[L1.out k hk];decide)(by rw[HB.out];exact Nat.le_refl _);clear hnews hone s2 E1 Z1 O1 A1 L1 B1 p0 p1 p2 p3 p4 pf;obtain⟨p0,p1,p2,p3,p4,pf⟩:=am E2.1;have s3:=aO(fun _=>False) w2 o2(.cells #[stv e.nm] 9);have R3:=R2.step s3 id;have E3:=E2.step s3 id;have Z3:=Z2.step s3 id;have O3:=O2.step s3 id;have A3:=A2.step s3 id id;have hE2:=E2.lt;have L3:Hid(∀ k,k<n0->ae w2 o2 0 k=0):=fun k hk=>by rw[aC(by omega)];exact L2.out k hk
     have B3:=aJ B2 s3(fun _ _=>id)(by rw[HB.out];exact Nat.le_refl _);have hone:∀ u ∈ [stv e.nm],u.oneCell'=true:=by intro u hu;simp at hu;subst hu;rfl
     have q1:bd.length+1<=maxLen:=by unfold maxLen;omega
     have q2:(bd.length+1)*16<=140737488355328:=by omega
     clear s3 E2 Z2 O2 A2 L2 B2 R2;go_wp2_with(first|(at_builtin;refine aB rfl(.tmp 60)(.tmp 63) 40 rfl 9 is(.string⟨#[]⟩) 1 16 Tryz.underlying40 his hzs0 hzs1 hzs2 rfl(by decide)(ae w2 o2 0) 7 _ bd.length(bd.map fun x=>stv x) rfl R3⟨w2.heap.size,0,none⟩ 1 1 [stv e.nm] rfl rfl(cJ w2 _ _) hone(by decide) q1 q2 ?_)|go_in);intro g9 c9 w9 o9 r9 s9;have hml:(bd++[e.nm]).map(fun x=>stv x)=(bd.map fun x=>stv x)++[stv e.nm]:=by simp
     have N4:Nms w9(.slice(some⟨g9,0,none⟩)(bd.length+1) c9)(iu e.k e.nm done.len bd):=by rw[HIN.out];exact Nms.ofRowL(by rw[hml];exact r9)(by simp)(by omega)
     have E4:=E3.step s9(by decide);have Z4:=Z3.step s9(by decide);have O4:=O3.step s9(by decide);have A4:=A3.step s9(by decide)(by decide);have L4:Hid(∀ k,k<n0->o9 k=0):=fun k hk=>(s9.lab k(by simp;omega)).trans(L3.out k hk);have B4:=aJ B3 s9(fun k hk=>by rw[L3.out k hk];decide)(by rw[HB.out];exact Nat.le_refl _);clear hml r9 s9 R3 E3 Z3 O3 A3 L3 B3 hone p0 p1 p2 p3 p4 pf HA;go_upto_region 21 with fail;generalize o9=o4 at *;generalize w9=w4 at *
    rotate_left
    focus
     have hgd:(e.k==21)=false\/((e.k==21)=true/\((done.len:Int)==1)=false):=by
      rcases Classical.em(e.k=21) with h21|h21
      ·exact .inr⟨by simpa using h21,by have h3:done.len≠1:=fun h=>hA⟨h21,h⟩;simp;omega⟩
      ·exact .inl(by simpa using h21)
     have HIN:Hid(iu e.k e.nm done.len bd=bd):=by show _=_;unfold iu;rw[if_neg hA]
     have N4:Nms wr(.slice ab bd.length cb)(iu e.k e.nm done.len bd):=by rw[HIN.out];exact HNW.out wr B1
     have E4:=E1;have Z4:=Z1;have O4:=O1;have A4:=A1;have L4:=L1;have B4:=B1;clear E1 Z1 O1 A1 L1 B1 hA hk hlk HA;rcases hgd with hk21|⟨hk21,hd1⟩
     all_goals(
      go_upto_region 21 with fail;clear p0 p1 p2 p3 p4 pf;generalize o=o4 at *;generalize wr=w4 at *)
    all_goals(
     obtain⟨p0,p1,p2,p3,p4,pf⟩:=am E4.1;obtain⟨b,off,ak,ck,hao,lb1,-,x0,x1,x2,x3,x4,SK⟩:=Sl.kidQ(HS1.out w4 B4);have hc:=IH⟨kk,kn,km,ka,kks⟩ ak ck(iu e.k e.nm done.len bd) _ w4(by show kks.size<N;omega) hsk.2.1 hsk.2.2.1(by show _+kks.size<=1000000;omega) N4 SK;generalize ofE⟨kk,kn,km,ka,kks⟩(iu e.k e.nm done.len bd)=y at *;generalize(iu e.k e.nm done.len bd).length=nb at *;rw[aq] at hc;simp only at hc;subst hao;have hn0:n0<=w4.heap.size:=by have:=E4.lt;omega
     clear hsz hsk SK N4 hbl;go_wp2_with fail;refine hc.mono ?_;rintro x w6⟨ay,cy,rfl,S6,b6⟩;have s6:aa(fun _=>False) w4 o4 w6(ae w4 o4 0):=Below.toStepC b6;have T6:SlN w6(PD(fun _=>False) n0(ae w4 o4 0)) y.kids ay:=S6.mono(fun _ _ _=>rfl)(Nat.le_refl _)(fun i hp hl=>⟨ax hp,.inr(Nat.le_trans hn0 hp)⟩);have L6:Hid(∀ k,k<n0->ae w4 o4 0 k=0):=fun k hk=>by rw[aC(by omega)];exact L4.out k hk
     have E6:=E4.step s6 id;have Z6:=Z4.step s6 id;have O6:=O4.step s6 id;have A6:=A4.step s6 id id;have B6:=aJ B4 s6(fun _ _=>id)(by rw[HB.out];exact Nat.le_refl _);generalize ae w4 o4 0=o6 at *;clear hc S6 b6 s6 E4 Z4 O4 A4 B4 L4 x0 x1 x2 x3 x4 p0 p1 p2 p3 p4 pf;have s7:=aO(fun _=>False) w6 o6(.cells #[.int .i64 y.k,.int .i64 y.n,stv y.nm,.slice ay y.kids.len cy] 34);have K7:=fE w6 o6 #[.int .i64 y.k,.int .i64 y.n,stv y.nm,.slice ay y.kids.len cy] 34;have T7:=T6.labD s7 id;have hs6:n0<=w6.heap.size:=by have:=E6.lt;omega
     have L7:Hid(∀ k,k<n0->ae w6 o6 0 k=0):=fun k hk=>by rw[aC(by omega)];exact L6.out k hk
     have E7:=E6.step s7 id;have Z7:=Z6.step s7 id;have O7:=O6.step s7 id;have A7:=A6.step s7 id id;have B7:=aJ B6 s7(fun _ _=>id)(by rw[HB.out];exact Nat.le_refl _);rw[ah];go_upto_region 22 with fail;generalize ae w6 o6 0=o7 at *;generalize w6.alloc(.cells #[.int .i64 y.k,.int .i64 y.n,stv y.nm,.slice ay y.kids.len cy] 34)=w7 at *;generalize w6.heap.size=bk at *;clear s7 T6 E6 Z6 O6 A6 B6 L6;obtain⟨p0,p1,p2,p3,pf⟩:=aI O7.1;obtain⟨q0,q1,q2,q3,qf⟩:=aI K7.1;have s8:=aO(fun _=>False) w7 o7(.cells #[.int .i64 y.k,.int .i64 y.n,stv y.nm,.slice ay y.kids.len cy] 34);have T8:=T7.labD s8 id;have hE7:=E7.lt;have L8:Hid(∀ k,k<n0->ae w7 o7 0 k=0):=fun k hk=>by rw[aC(by omega)];exact L7.out k hk
     have E8:=E7.step s8 id;have Z8:=Z7.step s8 id;have O8:=O7.step s8 id;have A8:=A7.step s8 id id;have B8:=aJ B7 s8(fun _ _=>id)(by rw[HB.out];exact Nat.le_refl _);obtain⟨xs,R8,F8,-⟩:=A8;obtain⟨a8,c8,rfl⟩:=R8.form;have b1:acc.len+1<=maxLen:=by have:=hal.out;unfold maxLen;omega
     have b2:(acc.len+1)*56<=140737488355328:=by have:=hal.out;omega
     have hone:∀ u ∈ [Value.int .i64 y.k,.int .i64 y.n,stv y.nm,.slice ay y.kids.len cy],u.oneCell'=true:=by intro u hu;simp at hu;rcases hu with rfl|rfl|rfl|rfl<;>rfl
     have hw8:n0<=(w7.alloc(.cells #[.int .i64 y.k,.int .i64 y.n,stv y.nm,.slice ay y.kids.len cy] 34)).heap.size:=by simp;omega
     have hne2:∀ k,k<n0->ae w7 o7 0 k≠2:=fun k hk=>by rw[L8.out k hk];decide
     clear E7 Z7 O7 A7 B7 L7 T7 s8;go_wp2_with(first|(at_builtin;refine aB rfl(.tmp 73)(.tmp 75) 32 rfl 34 ii _ 4 56 Tryz.underlying32 hii hzi0 hzi1 hzi2 rfl(by decide)(ae w7 o7 0) 2 _ acc.len xs rfl R8⟨w7.heap.size,0,none⟩ 1 1 [Value.int .i64 y.k,.int .i64 y.n,stv y.nm,.slice ay y.kids.len cy] rfl rfl(dj w7 _ _) hone(by decide) b1 b2 ?_)|go_in);intro g9 c9 w9 o9 r9 s9;have A9:jM w9 o9(fun _=>False) n0(acc.snoc y)(.slice(some⟨g9,0,none⟩)(acc.len+1) c9):=jM.push F8 T8 s9 hne2 hw8 r9;have E9:=E8.step s9(by decide);have Z9:=Z8.step s9(by decide);have O9:=O8.step s9(by decide);have L9:Hid(∀ k,k<n0->o9 k=0):=fun k hk=>(s9.lab k(by omega)).trans(L8.out k hk);have B9:=aJ B8 s9(fun k hk=>by rw[L8.out k hk];decide)(by rw[HB.out];exact Nat.le_refl _);have s10:aa(fun k=>k=1) w9 o9(w9.setCell⟨n0+1+1,3,none⟩(.slice(some⟨g9,0,none⟩)(acc.len+1) c9)) o9:=bU _ w9 o9⟨n0+1+1,3,none⟩ _ O9.2;have A10:=A9.step s10(by decide)(by decide);have E10:=E9.step s10(by decide);have Z10:=Z9.step s10(by decide);have O10:=O9.set 3(.slice(some⟨g9,0,none⟩)(acc.len+1) c9);have B10:=aJ B9 s10(fun k hk=>by rw[L9.out k hk];decide)(by rw[HB.out];exact Nat.le_refl _);obtain⟨t0,t1,t2,t3,tf⟩:=aI O9.1;have HA3:Hid((acc.snoc y).app(ofF kr e.k e.nm(done.snoc⟨kk,kn,km,ka,kks⟩).len bd)=F):=by
      show _=_;rw[Fs.len_snoc,<-HA2.out];unfold Fs.snoc;rw[Fs.app_assoc];rfl
     have hal2:Hid((acc.snoc y).len=(done.snoc⟨kk,kn,km,ka,kks⟩).len):=by show _=_;rw[Fs.len_snoc,Fs.len_snoc,hal.out]
     clear A9 E9 Z9 O9 B9 s10 E8 Z8 O8 B8 L8 T8 R8 F8 r9 s9 p0 p1 p2 p3 pf q0 q1 q2 q3 qf K7 HA2 hne2;go_wp2;go_roundw
     case rel=>(try((repeat apply Exists.intro);refine⟨?_,rfl⟩));exact⟨_,kr,_,o9,_,hk2,by rw[<-hl2],hal2,HA3,E10,Z10,O10,A10,L9,B10⟩
     case measure=>simp[intOf];omega))
theorem tI:∀ N,rM N -- 51
 | 0=>fun e ao cap bd bv w h=>absurd h(Nat.not_lt_zero _)
 | N+1=>uP(tI N)
abbrev Er:=Option (Nat × Int)
def stS:Sum (Nat × Int) Int->Er
 | .inl x=>some x
 | .inr _=>none
def dz (st:Er)(k:Int):Sum (Nat × Int) Int :=
 match st with
 | some x=>.inl x
 | none=>.inr k
def bf (st:Er)(m:Int)(e:Ex)(b:List (List UInt8)):Er :=
 match st with
 | some x=>some x
 | none=>stS(eb m e.a(bK e b))
def eh:Fs->Er->List (List UInt8)->Er
 | ⟨none⟩,st,_=>st
 | ⟨some⟨k,n,nm,a,ks,r⟩⟩,st,b=>eh r(bf st 3⟨k,n,nm,a,ks⟩ b) b
theorem m4:∀ (f:Fs) (x:Nat × Int) (b:List (List UInt8)),eh f (some x) b=some x
 | ⟨none⟩,x,b=>rfl
 | ⟨some⟨k,n,nm,a,ks,r⟩⟩,x,b=>m4 r x b
theorem jL:∀ (f:Fs) (y:Ex) (st:Er) (b:List (List UInt8)),eh (f.snoc y) st b=bf (eh f st b) 3 y b
 | ⟨none⟩,y,st,b=>rfl
 | ⟨some⟨k,n,nm,a,ks,r⟩⟩,y,st,b=>jL r y _ b
theorem el (m a:Int)(r:Sum (Nat × Int) Int)(hm:m≠0):(∃x,eb m a r=.inl x)\/(eb m a r=.inr m/\r=.inr m):=by
 cases r with
 | inl x=>exact .inl⟨x,rfl⟩
 | inr is =>
  simp only[eb];by_cases h:is=m
  ·subst h;exact .inr⟨by rw[if_neg(fun h2=>h2.2 rfl)],rfl⟩
  ·exact .inl⟨_,by rw[if_pos⟨hm,h⟩]⟩
theorem eL (x:Ex)(r:Fs)(k n:Int)(nm:List UInt8)(len:Nat)(b:List (List UInt8))(i:Nat)(done:List Int)(hk:k≠21) :
  ch(Fs.ex x r) k n nm len b i done=(match eb(bJ k n len done) x.a(bK x b) with
   | .inl e=>.inl e
   | .inr is=>ch r k n nm len b(i+1)(done++[is])):=by
 have h:=oB x r k n nm len b i done;rw[if_neg(fun h2=>hk h2.1)] at h;exact h
theorem Bl (n:Nat)(d:List Int):d++[3]++List.replicate n 3=d++List.replicate (n+1) 3:=by
 rw[List.append_assoc];rfl
theorem lK (k n:Int)(nm:List UInt8)(len:Nat)(b:List (List UInt8))(hk:k≠21):∀ (f:Fs) (i:Nat) (done:List Int),(∀ d:List Int,done.length<=d.length->d.length<done.length+f.len->bJ k n len d=3) ->
  ch f k n nm len b i done=(match eh f none b with|some x=>.inl x|none=>.inr(done++List.replicate f.len 3))
 | ⟨none⟩,i,done,h=>by simp[ch,eh,Fs.len]
 | ⟨some⟨kk,kn,km,ka,kks,kr⟩⟩,i,done,h=>by
  have e1:=eL⟨kk,kn,km,ka,kks⟩ kr k n nm len b i done hk;have e2:ch⟨some⟨kk,kn,km,ka,kks,kr⟩⟩ k n nm len b i done=_:=e1;rw[e2,h done(Nat.le_refl _)(by simp[Fs.len])];simp only[eh,bf];rcases el 3 ka(bK⟨kk,kn,km,ka,kks⟩ b)(by decide) with⟨x,hx⟩|⟨hx,-⟩
  ·rw[hx];simp only[stS,m4]
  ·rw[hx];simp only[stS];rw[lK k n nm len b hk kr(i+1)(done++[3])(fun d h1 h2=>h d(by simp at h1;omega)(by simp[Fs.len] at h1 h2 ⊢;omega))];cases eh kr none b with
   | some x=>rfl
   | none=>simp only[Fs.len];rw[Bl]
theorem sX {k n:Int}{nm:List UInt8}{a:Int}{x:Ex}{b:List (List UInt8)}(m g:Int)(h4:k≠4)(h21:k≠21)(h0:bJ k n 1 []=m)(hm:m≠0)(h1:bJ k n 1 [m]=g) :
  bK⟨k,n,nm,a,Fs.ex x .nil⟩ b=dz(bf none m x b) g:=by
 rw[eo _ _ h4];show nV k n 1(ch(Fs.ex x .nil) k n nm 1 b 0 [])=_;rw[eL _ _ _ _ _ _ _ _ _ h21,h0];unfold bf;simp only;rcases el m x.a(bK x b) hm with⟨y,hy⟩|⟨hy,-⟩
 ·rw[hy];rfl
 ·rw[hy];show Sum.inr(bJ k n 1 [m])=_;rw[h1];rfl
theorem eM {k n:Int}{nm:List UInt8}{a:Int}{x y:Ex}{b:List (List UInt8)}(m g:Int)(h4:k≠4)(h21:k≠21)(h0:bJ k n 2 []=m)(h1:bJ k n 2 [m]=m)(hm:m≠0)(h2:bJ k n 2 [m,m]=g) :
  bK⟨k,n,nm,a,Fs.ex x(Fs.ex y .nil)⟩ b=dz(bf(bf none m x b) m y b) g:=by
 rw[eo _ _ h4];show nV k n 2(ch(Fs.ex x(Fs.ex y .nil)) k n nm 2 b 0 [])=_;rw[eL _ _ _ _ _ _ _ _ _ h21,h0];rcases el m x.a(bK x b) hm with⟨z,hz⟩|⟨hz,-⟩
 ·unfold bf;simp only;rw[hz];rfl
 ·have e1:bf none m x b=none:=by unfold bf;simp only;rw[hz];rfl
  rw[hz,e1];simp only[List.nil_append];rw[eL _ _ _ _ _ _ _ _ _ h21,h1];unfold bf;simp only;rcases el m y.a(bK y b) hm with⟨z,hz⟩|⟨hz,-⟩
  ·rw[hz];rfl
  ·rw[hz];show Sum.inr(bJ k n 2 [m,m])=_;rw[h2];rfl
theorem jY {k n:Int}{nm:List UInt8}{a:Int}{x y:Ex}{b:List (List UInt8)}(hk:k=13\/k=14) :
  bK⟨k,n,nm,a,Fs.ex x(Fs.ex y .nil)⟩ b=(match bK x b with | .inl e=>.inl e | .inr k0=>dz(bf none k0 y b) 2):=by
 rw[eo _ _(by show k≠4;omega)];show nV k n 2(ch(Fs.ex x(Fs.ex y .nil)) k n nm 2 b 0 [])=_;have hr:∀ d,bJ k n 2 d=(match d with | []=>0 | [a]=>a|_=>2):=fun d=>by unfold bJ;rw[if_pos hk];first|done|(rcases d with _|⟨x,_|⟨y,r⟩⟩<;>rfl)
 rw[eL _ _ _ _ _ _ _ _ _(by omega),hr];simp only;cases hx:bK x b with
 | inl e=>rfl
 | inr k0 =>
  simp only[eb];rw[if_neg(fun h=>h.1 rfl)];simp only[List.nil_append];rw[eL _ _ _ _ _ _ _ _ _(by omega),hr];unfold bf;simp only;cases eb k0 y.a(bK y b) with
  | inl e=>rfl
  | inr k1 =>
   show Sum.inr(bJ k n 2 [k0,k1])=_;rw[hr];rfl
theorem lQ {n:Int}{nm:List UInt8}{a:Int}{x y z:Ex}{b:List (List UInt8)} :
  bK⟨19,n,nm,a,Fs.ex x(Fs.ex y(Fs.ex z .nil))⟩ b=(match bf none 2 x b with
   | some e=>.inl e
   | none=>match bK y b with | .inl e=>.inl e | .inr k1=>dz(bf none k1 z b) k1):=by
 rw[eo _ _(by show(19:Int)≠4;omega)];show nV 19 n 3(ch(Fs.ex x(Fs.ex y(Fs.ex z .nil))) 19 n nm 3 b 0 [])=_;have hr:∀ d,bJ 19 n 3 d=(match d with | []=>2 | [_]=>0|_::b::_=>b):=fun d=>by unfold bJ;rw[if_neg(by omega),if_pos rfl];first|done|(rcases d with _|⟨x,_|⟨y,r⟩⟩<;>rfl)
 rw[eL _ _ _ _ _ _ _ _ _(by omega),hr];simp only;rcases el 2 x.a(bK x b)(by decide) with⟨u,hu⟩|⟨hu,-⟩
 ·unfold bf;simp only;rw[hu];rfl
 ·have e1:bf none 2 x b=none:=by unfold bf;simp only;rw[hu];rfl
  rw[hu,e1];simp only[List.nil_append];rw[eL _ _ _ _ _ _ _ _ _(by omega),hr];simp only;cases hy:bK y b with
  | inl e=>rfl
  | inr k1 =>
   simp only[eb];rw[if_neg(fun h=>h.1 rfl)];simp only[List.cons_append,List.nil_append];rw[eL _ _ _ _ _ _ _ _ _(by omega),hr];unfold bf;simp only;cases eb k1 z.a(bK z b) with
   | inl e=>rfl
   | inr k2 =>
    show Sum.inr(bJ 19 n 3 [2,k1,k2])=_;rw[hr];rfl
def fS (n:Int):Int:=if n=1\/n=2 then 2 else if n=10 then 3 else 1
def cG (n:Int):Int:=if n<=3 then 2 else 1
def cq (n:Int):Int:=if n<=2 then 2 else 1
theorem yF {n:Int}{nm:List UInt8}{a:Int}{f:Fs}{b:List (List UInt8)}(hn:1<=n/\n<=10)(hl:(fY 20 n).length=f.len+1) :
  bK⟨20,n,nm,a,f⟩ b=dz(eh f none b)(fS n):=by
 rw[eo _ _(by show(20:Int)≠4;omega)];show nV 20 n f.len(ch f 20 n nm f.len b 0 [])=_;have hn2:n=1\/n=2\/n=3\/n=4\/n=5\/n=6\/n=7\/n=8\/n=9\/n=10:=by omega
 have hv:∀ d:List Int,d.length<f.len->bJ 20 n f.len d=3:=fun d hd=>by
  have hr:bJ 20 n f.len d=(fY 20 n)[d.length]?.getD 0:=by
   unfold bJ;rw[if_neg(by omega),if_neg(by omega),if_neg(by omega)]
  rw[hr];generalize d.length=j at hd;generalize f.len=m at hl hd;rcases hn2 with rfl|rfl|rfl|rfl|rfl|rfl|rfl|rfl|rfl|rfl<;>(simp[fY] at hl;subst hl)
  all_goals(
   have hj:j=0\/j=1:=by omega
   rcases hj with rfl|rfl<;>first|rfl|omega)
 rw[lK 20 n nm f.len b(by omega) f 0 [](fun d _ h2=>hv d(by simpa using h2))];cases eh f none b with
 | some x=>rfl
 | none =>
  show Sum.inr(bJ 20 n f.len([]++List.replicate f.len 3))=_;have hr:bJ 20 n f.len([]++List.replicate f.len 3)=(fY 20 n)[f.len]?.getD 0:=by
   unfold bJ;rw[if_neg(by omega),if_neg(by omega),if_neg(by omega)];simp
  rw[hr];generalize f.len=m at hl;rcases hn2 with rfl|rfl|rfl|rfl|rfl|rfl|rfl|rfl|rfl|rfl<;>(simp[fY] at hl;subst hl;rfl)
theorem ta {k n:Int}{nm:List UInt8}{a:Int}{f:Fs}{b:List (List UInt8)}(hk:(k=22\/k=23)/\f.len=0\/k=24/\f.len=1\/k=25) :
  bK⟨k,n,nm,a,f⟩ b=dz(eh f none b) 4:=by
 rw[eo _ _(by show k≠4;omega)];show nV k n f.len(ch f k n nm f.len b 0 [])=_;have hv:∀ d:List Int,d.length<f.len->bJ k n f.len d=3:=fun d hd=>by
  rcases hk with⟨rfl|rfl,h0⟩|⟨rfl,h0⟩|rfl
  ·omega
  ·omega
  ·have:d.length=0:=by omega
   obtain rfl:=List.length_eq_zero_iff.1 this;rfl
  ·unfold bJ;rw[if_neg(by omega),if_neg(by omega),if_pos rfl,if_pos hd]
 rw[lK k n nm f.len b(by omega) f 0 [](fun d _ h2=>hv d(by simpa using h2))];cases eh f none b with
 | some x=>rfl
 | none =>
  show Sum.inr(bJ k n f.len([]++List.replicate f.len 3))=Sum.inr 4
  congr 1
  rcases hk with⟨rfl|rfl,h0⟩|⟨rfl,h0⟩|rfl
  ·rw[h0];rfl
  ·rw[h0];rfl
  ·rw[h0];rfl
  ·unfold bJ;rw[if_neg(by omega),if_neg(by omega),if_pos rfl,if_neg(by simp)]
theorem vq {n:Int}{nm:List UInt8}{a:Int}{s x:Ex}{b:List (List UInt8)}(hn:1<=n/\n<=6)(hs:bK s b=dz (eh s.kids none b) 4) :
  bK⟨21,n,nm,a,Fs.ex s(Fs.ex x .nil)⟩ b=dz(bf(eh s.kids none b)(cG n) x(b++[nm]))(cq n):=by
 rw[eo _ _(by show(21:Int)≠4;omega)];show nV 21 n 2(ch(Fs.ex s(Fs.ex x .nil)) 21 n nm 2 b 0 [])=_;have hn2:n=1\/n=2\/n=3\/n=4\/n=5\/n=6:=by omega
 have r0:bJ 21 n 2 []=4:=by rcases hn2 with rfl|rfl|rfl|rfl|rfl|rfl<;>rfl
 have r1:bJ 21 n 2 [4]=cG n:=by rcases hn2 with rfl|rfl|rfl|rfl|rfl|rfl<;>rfl
 have r2:∀ k,bJ 21 n 2 [4,k]=cq n:=fun k=>by rcases hn2 with rfl|rfl|rfl|rfl|rfl|rfl<;>rfl
 have hb0:cG n≠0:=by unfold cG;split<;>omega
 have e1:=oB s(Fs.ex x .nil) 21 n nm 2 b 0 [];have e2:=oB x .nil 21 n nm 2 b 1 [4];rw[if_neg(by omega),hs,r0] at e1;rw[if_pos(by decide),r1] at e2;show nV 21 n 2(ch(.cons s.k s.n s.nm s.a s.kids(.cons x.k x.n x.nm x.a x.kids .nil)) 21 n nm 2 b 0 [])=_;rw[show ch(.cons s.k s.n s.nm s.a s.kids(.cons x.k x.n x.nm x.a x.kids .nil)) 21 n nm 2 b 0 []=_ from e1];cases eh s.kids none b with
 | some z=>rfl
 | none =>
  simp only[dz,eb];rw[if_neg(fun h=>h.2 rfl)];simp only[List.nil_append];rw[show ch(Fs.ex x .nil) 21 n nm 2 b 1 [4]=_ from e2];unfold bf;simp only;rcases el(cG n) x.a(bK x(b++[nm])) hb0 with⟨z,hz⟩|⟨hz,-⟩
  ·rw[hz];rfl
  ·rw[hz];show Sum.inr(bJ 21 n 2 [4,cG n])=_;rw[r2];rfl
theorem nK:∀ (f:Fs) (k n:Int) (nm:List UInt8) (len:Nat) (b:List (List UInt8)) (i:Nat) (done d:List Int),ch f k n nm len b i done=.inr d->d.length=done.length+f.len
 | ⟨none⟩,k,n,nm,len,b,i,done,d,h=>by
  simp only[ch] at h;injection h with h
  subst h;rfl
 | ⟨some⟨kk,kn,km,ka,kks,kr⟩⟩,k,n,nm,len,b,i,done,d,h=>by
  have e1:ch⟨some⟨kk,kn,km,ka,kks,kr⟩⟩ k n nm len b i done=_:=oB⟨kk,kn,km,ka,kks⟩ kr k n nm len b i done;rw[e1] at h;cases hm:eb(bJ k n len done) ka(bK⟨kk,kn,km,ka,kks⟩(if k=21/\i≠0 then b++[nm] else b)) with
  | inl z=>simp only at h;rw[hm] at h;cases h
  | inr is =>
   simp only at h;rw[hm] at h
   have:=nK kr k n nm len b(i+1)(done++[is]) d h
   simp only[List.length_append,List.length_cons,List.length_nil,Fs.len] at this ⊢;omega
def Fs.stk:Fs->Bool->Prop
 | ⟨none⟩,_=>True
 | ⟨some⟨k,_,_,_,ks,r⟩⟩,first=>bm k=first/\ks.stk(k==21)/\r.stk false
theorem oX:∀ (f:Fs) (b:Bool) (c c':Nat),hFs f b c=some c'->f.stk b
 | ⟨none⟩,b,c,c',h=>trivial
 | ⟨some⟨k,n,nm,a,ks,r⟩⟩,b,c,c',h=>by
  unfold hFs at h;split at h
  ·cases h
  ·rename_i h0
   split at h
   ·cases h
   ·split at h
    ·split at h
     ·cases h
     ·rename_i c2 h2
      exact⟨by simpa using h0,oX ks _ _ _ h2,oX r _ _ _ h⟩
    ·cases h
theorem CD {e:Ex}{c c':Nat}(h:hE e c=some c'):e.kids.stk (e.k==21):=by
 unfold hE at h;split at h
 ·cases h
 ·split at h
  ·exact oX _ _ _ _ h
  ·cases h
theorem iY:∀ (N:Nat) (e:Ex) (b:List (List UInt8)) (k:Int),e.kids.size<N->e.okA->bK e b=.inr k->k≠0
 | 0,e,b,k,hN,_,_=>absurd hN(Nat.not_lt_zero _)
 | N+1,⟨k0,n,nm,a,f⟩,b,k,hN,hok,h=>by
  have ho:=xK hok.1;have hkid:=hok.1.2.2.1;simp only at hN ho hkid;by_cases h13:k0=13\/k0=14
  ·have hl:f.len=2:=by
    rcases h13 with rfl|rfl<;>(simp[aR,dU,eB] at hkid;omega)
   obtain⟨x,y,rfl⟩:=fI hl;rw[jY h13] at h;cases hx:bK x b with
   | inl z=>rw[hx] at h;cases h
   | inr k1 =>
    rw[hx] at h;simp only at h;cases hm:bf none k1 y b with
    | some z=>rw[hm] at h;cases h
    | none=>rw[hm] at h;injection h with h;omega
  by_cases h19:k0=19
  ·subst h19;have hl:f.len=3:=by simp[aR] at hkid;omega
   obtain⟨x,y,z,rfl⟩:=Bg hl;rw[lQ] at h;cases hx:bf none 2 x b with
   | some u=>rw[hx] at h;cases h
   | none =>
    rw[hx] at h;simp only at h;cases hy:bK y b with
    | inl u=>rw[hy] at h;cases h
    | inr k1 =>
     rw[hy] at h;simp only at h;cases hm:bf none k1 z b with
     | some u=>rw[hm] at h;cases h
     | none =>
      rw[hm] at h;injection h with h
      subst h;have hsz:y.kids.size<N:=by
       simp only[nZ,Fs.size] at hN;omega
      exact iY N y b _ hsz(mi(mi hok.2).2).1 hy
  by_cases h25:k0=22\/k0=23\/k0=24\/k0=25
  ·have hl:(k0=22\/k0=23)/\f.len=0\/k0=24/\f.len=1\/k0=25:=by
    rcases h25 with rfl|rfl|rfl|rfl
    ·exact .inl⟨.inl rfl,by simp[aR] at hkid;first|done|exact hkid|omega⟩
    ·exact .inl⟨.inr rfl,by simp[aR] at hkid;first|done|exact hkid|omega⟩
    ·exact .inr(.inl⟨rfl,by simp[aR] at hkid;first|done|exact hkid|omega⟩)
    ·exact .inr(.inr rfl)
   rw[ta hl] at h;cases hm:eh f none b with
   | some z=>rw[hm] at h;cases h
   | none=>rw[hm] at h;injection h with h;omega
  have hpos:∀ (j:Nat)(v:Int),(fY k0 n)[j]?=some v->v≠0:=by
   intro j v hv;have hmem:=List.mem_of_getElem? hv;have hi:∀ (P:Prop) [Decidable P](a b:List Int),(∀ x,x ∈ a->x≠0)->(∀ x,x ∈ b->x≠0)->∀ x,x ∈ (if P then a else b)->x≠0:=by
    intro P _ a b ha hb;split
    ·exact ha
    ·exact hb
   revert v
   suffices hall:∀ x,x ∈ fY k0 n->x≠0 from fun v _ hm=>hall v hm
   unfold fY
   repeat' apply hi
   all_goals(intro x hx;simp at hx<;>omega)
  have hfl:(fY k0 n).length=f.len+1:=by
   rcases ho with ho|⟨rfl,-,ho⟩|⟨rfl,-,ho⟩|⟨hr,ho⟩
   ·omega
   ·exact ho
   ·exact ho
   ·rw[<-ho];unfold fY;simp only[hr.2.2.2.1,hr.2.2.2.2.1,if_false]
  have hlen:∀ (f:Fs)(i:Nat)(done d:List Int),ch f k0 n nm(f.len+i) b i done=.inr d->True:=fun _ _ _ _ _=>trivial;unfold bK at h;split at h
  ·cases h
  ·cases hc:ch f k0 n nm f.len b 0 [] with
   | inl z=>simp only at h;rw[hc] at h;cases h
   | inr d =>
    simp only at h;rw[hc] at h;injection h with h
    have hd:=nK f k0 n nm f.len b 0 [] d hc;have hr:bJ k0 n f.len d=(fY k0 n)[d.length]?.getD 0:=by
     unfold bJ;rw[if_neg(by omega),if_neg(by omega),if_neg(by omega)]
    have hx:(fY k0 n)[d.length]?=some((fY k0 n)[d.length]'(by simp at hd;omega)):=List.getElem?_eq_getElem(by simp at hd;omega);rw[<-h,hr,hx];exact hpos _ _ hx
def erO (st:Er):Nat:=match st with|some x=>x.1|none=>0
def plO (st:Er):Int:=match st with|some x=>x.2|none=>0
def vt (st:Er):Prop:=∀ x,st=some x->x.1≠0
structure Wk (w:World)(wb:Nat)(bv:Value)(st:Er):Prop where
 blk:w.heap[wb]?=some(.cells #[bv,.int .i64(erO st:Nat),.int .i64(plO st)] 154(0,0))
 ok:vt st
theorem vt.none:vt none:=fun x h=>by cases h
theorem it {w:World}{b:Nat}{a0 a1 a2:Value}{t:TypeId}(h:w.heap[b]?=some (.cells #[a0,a1,a2] t (0,0))):w.cell? ⟨b,0,none⟩=some a0/\w.cell? ⟨b,1,none⟩=some a1/\w.cell? ⟨b,2,none⟩=some a2/\∀ j,w.frozen? ⟨b,j,none⟩=false:=by
 refine⟨?_,?_,?_,fun j=>frozen_of_row w b j _ t h⟩<;>simp[cell_of_row w b _ _ t(0,0) h]
theorem Bh {w:World}{b:Nat}{a0 a1 a2:Value}{t:TypeId}(h:w.heap[b]?=some (.cells #[a0,a1,a2] t (0,0)))(v:Value) :
  (w.setCell⟨b,0,none⟩ v).heap[b]?=some(.cells #[v,a1,a2] t(0,0))/\(w.setCell⟨b,1,none⟩ v).heap[b]?=some(.cells #[a0,v,a2] t(0,0))/\(w.setCell⟨b,2,none⟩ v).heap[b]?=some(.cells #[a0,a1,v] t(0,0)) :=
 ⟨(Blk.set(o:=fun _=>0)(i:=0)⟨h,rfl⟩ 0 v).1,(Blk.set(o:=fun _=>0)(i:=0)⟨h,rfl⟩ 1 v).1,(Blk.set(o:=fun _=>0)(i:=0)⟨h,rfl⟩ 2 v).1⟩
def Nmk (wb:Nat)(w:World)(v:Value)(b:List (List UInt8)):Prop:=Nms w v b/\∀ g off n c,v=.slice (some ⟨g,off,none⟩) n c->g≠wb
theorem Nmk.keep {wb:Nat}{w w':World}{v:Value}{b:List (List UInt8)}(h:Nmk wb w v b)(K:au wb w w'):Nmk wb w' v b:=by
 refine⟨?_,h.2⟩;obtain⟨⟨ao,cap,rfl,hc,h1|⟨g,rfl,h2,h0,h3⟩⟩,h4⟩:=h
 ·exact⟨ao,cap,rfl,hc,.inl h1⟩
 ·exact⟨_,cap,rfl,hc,.inr⟨g,rfl,Nat.lt_of_lt_of_le h2 K.size,h0,fun j t hj=>(K.cell h2(h4 _ _ _ _ rfl) j).trans(h3 j t hj)⟩⟩
theorem tU (w:World)(wb:Nat)(bv:Value)(er:Nat)(a:Int)(her:er≠0)(h:Wk w wb bv none) :
  Calls Tryz.prog 228 #[.pointer(some⟨wb,0,none⟩),.int .i64(er:Nat),.int .i64 a] w fun x w'=>x=.returned(.tuple #[])/\Wk w' wb bv(some(er,a))/\au wb w w':=by
 have h1:=h.blk;simp only[erO,plO] at h1;obtain⟨c0,c1,c2,cf⟩:=it h1;have F1:=(Bh h1(.int .i64(er:Nat))).2.1;have F2:=(Bh F1(.int .i64 a)).2.2;have K:=((au.refl wb w).set⟨wb,1,none⟩(.int .i64(er:Nat))(.inr rfl)).set⟨wb,2,none⟩(.int .i64 a)(.inr rfl);have HZ:Hid(Wk((w.setCell⟨wb,1,none⟩(.int .i64(er:Nat))).setCell⟨wb,2,none⟩(.int .i64 a)) wb bv(some(er,a))/\au wb w((w.setCell⟨wb,1,none⟩(.int .i64(er:Nat))).setCell⟨wb,2,none⟩(.int .i64 a))) :=
  ⟨⟨F2,fun x hx=>by injection hx with hx;subst hx;exact her⟩,K⟩
 clear h F1 F2 K h1;go_enter Tryz.func228,Tryz.ntmps228;go_wp2
 go_end0
 exact⟨rfl,HZ.out.1,HZ.out.2⟩
def Dd (w:World)(wb:Nat)(bv:Value)(b:List (List UInt8))(e:Ex)(x:Ending)(w':World):Prop :=
 (∃r,x=.returned(.int .i64 r)/\(e.nm ∈ b->r=3))/\Wk w' wb bv(if e.nm ∈ b then none else some(130,e.a))/\au wb w w'
theorem Cn (e:Ex)(ao:Option Addr)(cap:Nat)(w:World)(wb:Nat)(bv:Value)(b:List (List UInt8))(h:Wk w wb bv none)(hn:Nmk wb w bv b)(hl:b.length<=100000) :
  Calls Tryz.prog 161 #[.pointer(some⟨wb,0,none⟩),exV e ao cap] w(Dd w wb bv b e):=by
 have B0:Below w.heap.size w(w.alloc(.cells #[.int .i64 e.k,.int .i64 e.n,stv e.nm,.slice ao e.kids.len cap,.int .i64 e.a] 25)):=(Below.refl _ w).alloc(Nat.le_refl _) _;have E0:(w.alloc(.cells #[.int .i64 e.k,.int .i64 e.n,stv e.nm,.slice ao e.kids.len cap,.int .i64 e.a] 25)).heap[w.heap.size]?=some(.cells #[.int .i64 e.k,.int .i64 e.n,stv e.nm,.slice ao e.kids.len cap,.int .i64 e.a] 25):=heap_alloc_new w _;have hwb:=lt_of_block h.blk;have W0:=(B0.block _ hwb).trans h.blk;have N0:=hn.1.below B0;clear h hn;rw[aq];go_enter Tryz.func161,Tryz.ntmps161;go_upto_region 1 with fail;generalize w.alloc(.cells #[.int .i64 e.k,.int .i64 e.n,stv e.nm,.slice ao e.kids.len cap,.int .i64 e.a] 25)=w0 at *;obtain⟨bx,hbx⟩:∃bx,bx=w.heap.size:=⟨_,rfl⟩
 rw[<-hbx] at E0 B0 ⊢;have HB:Hid(bx=w.heap.size):=hbx;clear hbx;have hbx0:=lt_of_block E0;have hwb0:=lt_of_block W0;obtain⟨av,capv,rfl,hcv,hp⟩:=N0;simp only[erO,plO] at W0;go_wp2;go_loopw [5](fun v wr=>∃k:Nat,k<=b.length/\v=.int .i64(k:Nat)/\Hid(∀ j,j<k->b[j]?≠some e.nm)/\Below w0.heap.size w0 wr)(fun v _=>b.length-(intOf v).toNat)
 case atStart=>exact⟨0,by omega,by go_num,fun j hj=>absurd hj(Nat.not_lt_zero _),Below.refl _ _⟩
 case round =>
  obtain⟨k,hk,rfl,hno,B1⟩:=hrel;have E1:=(B1.block _ hbx0).trans E0;have W1:=(B1.block _ hwb0).trans W0;obtain⟨p0,p1,p2,p3,p4,pf⟩:=am E1;obtain⟨q0,q1,q2,qf⟩:=it W1;by_cases hlt:k<b.length
  ·have hx:b[k]?=some b[k]:=List.getElem?_eq_getElem hlt;rcases hp with⟨rfl,-⟩|⟨g,rfl,hg,-,hcell⟩
   ·simp at hlt
   have c1:=(B1.cell(p:=⟨g,k,none⟩) hg).trans(hcell k _ hx);generalize b[k]=x at c1 hx;have hkI:(k:Int)<(b.length:Int):=by omega
   have HX:Hid(b[k]?=some x):=hx;clear hx hcell;by_cases he:x=e.nm
   ·subst he;have hbe:(e.nm==e.nm)=true:=by simp
    have hmem:e.nm ∈ b:=List.mem_of_getElem? HX.out;have FIN:Hid(e.nm ∈ b):=hmem;clear hno HX hmem;go_wp2_with fail
    go_quiet(fail)
    go_wp2;refine bodyPost_ret(v:=.int .i64 3)(by simp[results,Tryz.results161,go_sem]) rfl⟨⟨3,rfl,fun _=>rfl⟩,?_,?_⟩
    ·rw[if_pos FIN.out];exact⟨W1,vt.none⟩
    ·refine au.ofBelow ?_;rw[<-HB.out];exact B0.trans((B1.trans(show Below w0.heap.size wr(wr.drewN nq) from⟨rfl,rfl,rfl,Nat.le_refl _,fun _ _=>rfl⟩)).mono(Nat.le_of_lt hbx0))
   ·have hbe:(x==e.nm)=false:=by simpa using he
    have hn2:Hid(∀ j,j<k+1->b[j]?≠some e.nm):=by
     intro j hj;rcases Nat.lt_succ_iff_lt_or_eq.1 hj with h1|rfl
     ·exact hno.out j h1
     ·rw[HX.out];intro h2;injection h2 with h2
      exact he h2
    clear hno HX he;go_wp2_with fail
    go_quiet(fail)
    have B2:=B1.trans(show Below w0.heap.size wr(wr.drewN nq) from⟨rfl,rfl,rfl,Nat.le_refl _,fun _ _=>rfl⟩);go_wp2;go_roundw
    case rel=>exact⟨k+1,by omega,by go_num,hn2,B2⟩
    case measure=>simp[intOf];omega
  ·obtain rfl:k=b.length:=by omega
   have FIN:Hid(¬e.nm ∈ b):=by
    intro h1;obtain⟨j,hj,h2⟩:=List.mem_iff_getElem.1 h1;exact hno.out j hj(by rw[List.getElem?_eq_getElem hj,h2])
   have c1:=tU wr wb(.slice av b.length capv) 130 e.a(by decide)⟨W1,vt.none⟩;clear hno hp;go_wp2_with fail;refine c1.mono ?_;rintro x w3⟨rfl,W3,K3⟩;clear c1 p0 p1 p2 p3 p4 pf q0 q1 q2 qf;go_wp2;refine bodyPost_ret(v:=.int .i64 0)(by simp[results,Tryz.results161,go_sem]) rfl⟨⟨0,rfl,fun h=>absurd h FIN.out⟩,?_,?_⟩
   ·rw[if_neg FIN.out];exact W3
   ·refine(au.ofBelow ?_).trans K3;rw[<-HB.out];exact B0.trans(B1.mono(Nat.le_of_lt hbx0))
theorem oH (n:Int)(w:World):Calls Tryz.prog 107 #[.int .i64 n] w fun x w'=>x=.returned (.int .i64 (fS n))/\w'=w:=by
 unfold fS;by_cases h1:n=1
 ·subst h1;go_enter Tryz.func107,Tryz.ntmps107;go_wp2;go_ret;exact⟨rfl,rfl⟩
 ·by_cases h2:n=2
  ·subst h2;go_enter Tryz.func107,Tryz.ntmps107;go_wp2;go_ret;exact⟨rfl,rfl⟩
  ·rw[if_neg(by omega)];have b1:(n==1)=false:=by simpa using h1
   have b2:(n==2)=false:=by simpa using h2
   by_cases h3:n=10
   ·subst h3;go_enter Tryz.func107,Tryz.ntmps107;go_wp2;go_ret;exact⟨rfl,rfl⟩
   ·rw[if_neg h3];have b3:(n==10)=false:=by simpa using h3
    clear h1 h2 h3;go_enter Tryz.func107,Tryz.ntmps107;go_wp2;go_ret;exact⟨rfl,rfl⟩
theorem xY (n:Int)(w:World):Calls Tryz.prog 171 #[.int .i64 n] w fun x w'=>x=.returned (.int .i64 (cG n))/\w'=w:=by
 unfold cG;by_cases h1:n<=3
 ·rw[if_pos h1];go_enter Tryz.func171,Tryz.ntmps171;go_wp2;go_ret;exact⟨rfl,rfl⟩
 ·rw[if_neg h1];go_enter Tryz.func171,Tryz.ntmps171;go_wp2;go_ret;exact⟨rfl,rfl⟩
theorem oO (n:Int)(w:World):Calls Tryz.prog 172 #[.int .i64 n] w fun x w'=>x=.returned (.int .i64 (cq n))/\w'=w:=by
 unfold cq;by_cases h1:n<=2
 ·rw[if_pos h1];go_enter Tryz.func172,Tryz.ntmps172;go_wp2;go_ret;exact⟨rfl,rfl⟩
 ·rw[if_neg h1];go_enter Tryz.func172,Tryz.ntmps172;go_wp2;go_ret;exact⟨rfl,rfl⟩
structure mS (N:Nat)(e:Ex)(nb:Nat):Prop where
 sz:e.kids.size<N
 ok:e.okA
 st:bm e.k=false
 sk:e.kids.stk(e.k==21)
 len:e.kids.len<=1000000000
 sh:e.kids.short
 bl:nb+e.kids.size<=3000
def bX (w:World)(wb:Nat)(bv:Value)(r:Sum (Nat × Int) Int)(x:Ending)(w':World):Prop :=
 (∃k',x=.returned(.int .i64 k')/\∀ k,r=.inr k->k'=k)/\Wk w' wb bv(stS r)/\au wb w w'
def jN (N:Nat):Prop:=∀ (e:Ex) (ao:Option Addr) (cap wb:Nat) (bv:Value) (b:List (List UInt8)) (w:World),mS N e b.length->Wk w wb bv none->Nmk wb w bv b->Sl w (Nf wb) e.kids ao ->
 Calls Tryz.prog 100 #[.pointer(some⟨wb,0,none⟩),exV e ao cap] w(bX w wb bv(bK e b))
def lH (w:World)(wb:Nat)(bv:Value)(st:Er)(x:Ending)(w':World):Prop:=x=.returned (.tuple #[])/\Wk w' wb bv st/\au wb w w'
theorem Sl.belowF {fb:Nat}{w w':World}{f:Fs}{ao:Option Addr}(h:Sl w (Nf fb) f ao)(b:Below w.heap.size w w'):Sl w' (Nf fb) f ao:=h.mono (fun i _ hl=>b.block i hl) b.size (fun _ h _=>h)
theorem Nmk.below {wb:Nat}{w w':World}{v:Value}{b:List (List UInt8)}(h:Nmk wb w v b)(B:Below w.heap.size w w'):Nmk wb w' v b:=⟨h.1.below B,h.2⟩
theorem Wk.below {w w':World}{wb:Nat}{bv:Value}{st:Er}(h:Wk w wb bv st)(B:Below w.heap.size w w'):Wk w' wb bv st:=⟨(B.block _ (lt_of_block h.blk)).trans h.blk,h.ok⟩
theorem au.bel {rb:Nat}{w a b:World}(B:Below w.heap.size w a)(K:au rb a b):au rb w b:=(au.ofBelow B).trans K
theorem eQ {N:Nat}(IH:jN N)(e:Ex)(ao:Option Addr)(cap wb:Nat)(bv:Value)(b:List (List UInt8))(m:Int)(st:Er)(w:World)(hr:mS N e b.length)(hm:st=none->m≠0)(h:Wk w wb bv st)(hn:st=none->Nmk wb w bv b)(S:Sl w (Nf wb) e.kids ao) :
  Calls Tryz.prog 162 #[.pointer(some⟨wb,0,none⟩),exV e ao cap,.int .i64 m] w(lH w wb bv(bf st m e b)):=by
 have B0:Below w.heap.size w(w.alloc(.cells #[.int .i64 e.k,.int .i64 e.n,stv e.nm,.slice ao e.kids.len cap,.int .i64 e.a] 25)):=(Below.refl _ w).alloc(Nat.le_refl _) _;have E0:(w.alloc(.cells #[.int .i64 e.k,.int .i64 e.n,stv e.nm,.slice ao e.kids.len cap,.int .i64 e.a] 25)).heap[w.heap.size]?=some(.cells #[.int .i64 e.k,.int .i64 e.n,stv e.nm,.slice ao e.kids.len cap,.int .i64 e.a] 25):=heap_alloc_new w _;have W0:=h.below B0;have S0:=Sl.belowF S B0;have hwb:=lt_of_block h.blk;have N0:=fun hs=>(hn hs).below B0;clear h hn S;rw[aq];go_enter Tryz.func162,Tryz.ntmps162;go_upto_region 1 with fail;generalize w.alloc(.cells #[.int .i64 e.k,.int .i64 e.n,stv e.nm,.slice ao e.kids.len cap,.int .i64 e.a] 25)=w0 at *;obtain⟨bx,hbx⟩:∃bx,bx=w.heap.size:=⟨_,rfl⟩
 have hwbx:wb≠bx:=by omega
 rw[<-hbx] at E0 B0 ⊢;have HB:Hid(bx=w.heap.size):=hbx;clear hbx;obtain⟨p0,p1,p2,p3,p4,pf⟩:=am E0;obtain⟨q0,q1,q2,qf⟩:=it W0.blk;cases st with
 | some z =>
  have hz:=W0.ok z rfl;obtain⟨er,pa⟩:=z;simp only[erO,plO] at q1 q2 hz;have hne:((er:Int) != 0)=true:=by simp;omega
  have HZ:Hid(lH w wb bv(bf(some(er,pa)) m e b)(.returned(.tuple #[])) w0):=⟨rfl,W0,au.ofBelow(by rw[<-HB.out];exact B0)⟩
  clear W0 N0 S0 hr;go_wp2
  go_end0
  exact HZ.out
 | none =>
  have HM:Hid(m≠0):=hm rfl;simp only[erO,plO] at q1 q2;have c1:=IH e ao cap wb bv b w0 hr W0(N0 rfl) S0;rw[aq] at c1;go_wp2_with fail;refine c1.mono ?_;rintro x w1⟨⟨k',rfl,hk'⟩,W1,K1⟩;have E1:=(K1.block _(lt_of_block E0)(Ne.symm hwbx)).trans E0;have KW:au wb w w1:=au.bel(by rw[<-HB.out];exact B0) K1;clear c1 p0 p1 p2 p3 p4 pf q0 q1 q2 qf W0 N0 S0 E0 B0 K1;obtain⟨p0,p1,p2,p3,p4,pf⟩:=am E1;obtain⟨q0,q1,q2,qf⟩:=it W1.blk;cases hc:bK e b with
  | inl z =>
   obtain⟨er,pa⟩:=z;have her:=tN hc;rw[hc] at W1 q1 q2;simp only[stS,erO,plO] at q1 q2;have hne:((er:Int)==0)=false:=by simp;omega
   have HZ:Hid(lH w wb bv(bf none m e b)(.returned(.tuple #[])) w1):=⟨rfl,by unfold bf;simp only;rw[hc];exact W1,KW⟩
   clear W1 hr hc hk' her KW;go_wp2
   go_end0
   exact HZ.out
  | inr k =>
   obtain rfl:=hk' k hc;rw[hc] at W1 q1 q2;simp only[stS,erO,plO] at q1 q2 W1;by_cases hkm:k'=m
   ·have hne:(k' != m)=false:=by simpa using hkm
    have HZ:Hid(lH w wb bv(bf none m e b)(.returned(.tuple #[])) w1):=by
     refine⟨rfl,?_,KW⟩;unfold bf;simp only;rw[hc];simp only[eb];rw[if_neg(fun h=>h.2 hkm)];exact W1
    clear W1 hr hc hk' KW hkm;go_wp2
    go_end0
    exact HZ.out
   ·have hne:(k' != m)=true:=by simpa using hkm
    have c2:=tU w1 wb bv 131 e.a(by decide) W1;have hmu:Hid(bf none m e b=some(131,e.a)):=by
     show _=_;unfold bf;simp only;rw[hc];simp only[eb];rw[if_pos⟨HM.out,hkm⟩];rfl
    clear W1 hr hc hk' hkm;go_wp2_with fail;refine c2.mono ?_;rintro x w3⟨rfl,W3,K3⟩;have HZ:Hid(lH w wb bv(bf none m e b)(.returned(.tuple #[])) w3):=⟨rfl,by rw[hmu.out];exact W3,KW.trans K3⟩
    clear c2 W3 K3 KW;go_wp2
    go_end0
    exact HZ.out
theorem dQ {N:Nat}(IH:jN N)(e x y:Ex)(ao:Option Addr)(cap wb:Nat)(bv:Value)(b:List (List UInt8))(m g:Int)(w:World)(hk:e.kids=Fs.ex x (Fs.ex y .nil))(hx:mS N x b.length)(hy:mS N y b.length)(hm:m≠0)(h:Wk w wb bv none)(hn:Nmk wb w bv b)(S:Sl w (Nf wb) e.kids ao) :
  Calls Tryz.prog 163 #[.pointer(some⟨wb,0,none⟩),exV e ao cap,.int .i64 m,.int .i64 g] w fun z w'=>z=.returned(.int .i64 g)/\Wk w' wb bv(bf(bf none m x b) m y b)/\au wb w w':=by
 have hlen:e.kids.len=2:=by rw[hk];rfl
 have HK:Hid(e.kids=Fs.ex x(Fs.ex y .nil)):=hk;have HL:Hid(e.kids.len=2):=hlen;clear hk hlen;have B0:Below w.heap.size w(w.alloc(.cells #[.int .i64 e.k,.int .i64 e.n,stv e.nm,.slice ao e.kids.len cap,.int .i64 e.a] 25)):=(Below.refl _ w).alloc(Nat.le_refl _) _;have E0:(w.alloc(.cells #[.int .i64 e.k,.int .i64 e.n,stv e.nm,.slice ao e.kids.len cap,.int .i64 e.a] 25)).heap[w.heap.size]?=some(.cells #[.int .i64 e.k,.int .i64 e.n,stv e.nm,.slice ao e.kids.len cap,.int .i64 e.a] 25):=heap_alloc_new w _;have W0:=h.below B0;have S0:=Sl.belowF S B0;have hwb:=lt_of_block h.blk;have N0:=hn.below B0;clear h hn S;rw[aq];go_enter Tryz.func163,Tryz.ntmps163;go_upto_region 1 with fail;generalize w.alloc(.cells #[.int .i64 e.k,.int .i64 e.n,stv e.nm,.slice ao e.kids.len cap,.int .i64 e.a] 25)=w0 at *;obtain⟨bx,hbx⟩:∃bx,bx=w.heap.size:=⟨_,rfl⟩
 have hwbx:wb≠bx:=by omega
 rw[<-hbx] at E0 B0 ⊢;have HB:Hid(bx=w.heap.size):=hbx;clear hbx;rw[HL.out] at E0 ⊢;obtain⟨p0,p1,p2,p3,p4,pf⟩:=am E0;have S0x:Sl w0(Nf wb)(Fs.nil.app(Fs.ex x(Fs.ex y .nil))) ao:=by rw[HK.out] at S0;exact S0
 obtain⟨kb,off,ak,ck,hao,x0,x1,x2,x3,x4,SK⟩:=Sl.kidP S0x 0 rfl;subst hao;simp only[Nat.zero_mul,Nat.add_zero] at x0 x1 x2 x3 x4;have c1:=eQ IH x ak ck wb bv b m none w0 hx(fun _=>hm) W0(fun _=>N0) SK;rw[aq] at c1;go_wp2_with fail;refine c1.mono ?_;rintro z w1⟨rfl,W1,K1⟩;have E1:=(K1.block _(lt_of_block E0)(Ne.symm hwbx)).trans E0;have S1:Sl w1(Nf wb)((Fs.ex x .nil).app(Fs.ex y .nil))(some⟨kb,off,none⟩):=by
  have:=Sl.keepF S0 K1
  rw[HK.out] at this;exact this
 have N1:=N0.keep K1;have KW:au wb w w1:=au.bel(by rw[<-HB.out];exact B0) K1;clear c1 p0 p1 p2 p3 p4 pf x0 x1 x2 x3 x4 SK S0x S0 W0 N0 E0 B0 K1;obtain⟨p0,p1,p2,p3,p4,pf⟩:=am E1;obtain⟨kb',off',ak,ck,hao,x0,x1,x2,x3,x4,SK⟩:=Sl.kidP S1 1 rfl;injection hao with hao
 injection hao with h1 h2
 subst h1;subst h2;have c2:=eQ IH y ak ck wb bv b m _ w1 hy(fun _=>hm) W1(fun _=>N1) SK;rw[aq] at c2;go_wp2_with fail;refine c2.mono ?_;rintro z w2⟨rfl,W2,K2⟩;have HZ:Hid(Wk w2 wb bv(bf(bf none m x b) m y b)/\au wb w w2):=⟨W2,KW.trans K2⟩
 clear c2 W2 K2 KW p0 p1 p2 p3 p4 pf x0 x1 x2 x3 x4 SK S1 W1 N1 E1;go_wp2;refine bodyPost_ret(v:=.int .i64 g)(by simp[results,Tryz.results163,go_sem]) rfl⟨rfl,HZ.out.1,HZ.out.2⟩
theorem qr:∀ {x y:Fs},(x.app y).okA->y.okA
 | ⟨none⟩,y,h=>h
 | ⟨some⟨k,n,nm,a,ks,r⟩⟩,y,h=>qr h.2.2
theorem jH:∀ (x:Fs),x.app .nil=x
 | ⟨none⟩=>rfl
 | ⟨some⟨k,n,nm,a,ks,r⟩⟩=>by simp only[Fs.app];rw[jH r]
def Kds (N:Nat)(f:Fs)(nb:Nat):Prop:=∀ (d r:Fs) (y:Ex),f=d.app (Fs.ex y r)->mS N y nb
theorem Fs.app_stk:∀ {x y:Fs}{first:Bool},(x.app y).stk first->x.len≠0->y.stk false
 | ⟨none⟩,y,first,h,h0=>absurd rfl h0
 | ⟨some⟨k,n,nm,a,ks,⟨none⟩⟩⟩,y,first,h,h0=>h.2.2
 | ⟨some⟨k,n,nm,a,ks,⟨some r⟩⟩⟩,y,first,h,h0=>Fs.app_stk(x:=⟨some r⟩) h.2.2(by simp[Fs.len])
theorem Fs.app_stkF {x y:Fs}(h:(x.app y).stk false):y.stk false:=by
 by_cases h0:x.len=0
 ·cases x using Fs.on with
  | nil=>exact h
  | cons k n nm a ks r=>simp[Fs.len] at h0
 ·exact Fs.app_stk h h0
theorem Kds.of {N:Nat}{f:Fs}{nb:Nat}(hs:f.size<=N)(hok:f.okA)(hsk:f.stk false)(hsh:f.short)(hbl:nb+f.size<=3000):Kds N f nb:=by
 intro d r y hf;subst hf;rw[Fs.size_app,nZ] at hs hbl;have h1:=Fs.app_short hsh;have h2:=Fs.app_stkF hsk;have h3:(Fs.ex y r).okA:=qr hok;exact⟨by omega,(mi h3).1,h2.1,h2.2.1,h1.2.1,h1.2.2.1,by omega⟩
theorem Bv {N:Nat}(IH:jN N)(e s x:Ex)(ao:Option Addr)(cap wb:Nat)(bv:Value)(b:List (List UInt8))(w:World)(hk:e.kids=Fs.ex s (Fs.ex x .nil))(hs:Kds N s.kids b.length)(hsl:s.kids.len<=1000000000)(hx:mS N x (b.length+1))(h:Wk w wb bv none)(hn:Nmk wb w bv b)(S:Sl w (Nf wb) e.kids ao) :
  Calls Tryz.prog 164 #[.pointer(some⟨wb,0,none⟩),exV e ao cap] w fun z w'=>z=.returned(.int .i64(cq e.n))/\Wk w' wb bv(bf(eh s.kids none b)(cG e.n) x(b++[e.nm]))/\au wb w w':=by
 obtain⟨ii,hii,hzi0,hzi1,hzi2⟩:=aH ql;have hlen:e.kids.len=2:=by rw[hk];rfl
 have HK:Hid(e.kids=Fs.ex s(Fs.ex x .nil)):=hk;have HL:Hid(e.kids.len=2):=hlen;clear hk hlen;have B0:Below w.heap.size w(w.alloc(.cells #[.int .i64 e.k,.int .i64 e.n,stv e.nm,.slice ao e.kids.len cap,.int .i64 e.a] 25)):=(Below.refl _ w).alloc(Nat.le_refl _) _;have E0:(w.alloc(.cells #[.int .i64 e.k,.int .i64 e.n,stv e.nm,.slice ao e.kids.len cap,.int .i64 e.a] 25)).heap[w.heap.size]?=some(.cells #[.int .i64 e.k,.int .i64 e.n,stv e.nm,.slice ao e.kids.len cap,.int .i64 e.a] 25):=heap_alloc_new w _;have W0:=h.below B0;have S0:=Sl.belowF S B0;have hwb:=lt_of_block h.blk;have N0:=hn.below B0;clear h hn S;rw[aq];go_enter Tryz.func164,Tryz.ntmps164;go_upto_region 1 with fail;generalize w.alloc(.cells #[.int .i64 e.k,.int .i64 e.n,stv e.nm,.slice ao e.kids.len cap,.int .i64 e.a] 25)=w0 at *;obtain⟨bx,hbx⟩:∃bx,bx=w.heap.size:=⟨_,rfl⟩
 have hwbx:wb≠bx:=by omega
 rw[<-hbx] at E0 B0 ⊢;have HB:Hid(bx=w.heap.size):=hbx;clear hbx;rw[HL.out] at E0 ⊢;obtain⟨p0,p1,p2,p3,p4,pf⟩:=am E0;have S0x:Sl w0(Nf wb)(Fs.nil.app(Fs.ex s(Fs.ex x .nil))) ao:=by rw[HK.out] at S0;exact S0
 obtain⟨kb,off,as',cs',hao,x0,x1,x2,x3,x4,SK⟩:=Sl.kidP S0x 0 rfl;subst hao;simp only[Nat.zero_mul,Nat.add_zero] at x0 x1 x2 x3 x4
 -- the set's box
 have B1:Below w0.heap.size w0(w0.alloc(.cells #[.int .i64 s.k,.int .i64 s.n,stv s.nm,.slice as' s.kids.len cs',.int .i64 s.a] 25)):=(Below.refl _ w0).alloc(Nat.le_refl _) _;have Z1:(w0.alloc(.cells #[.int .i64 s.k,.int .i64 s.n,stv s.nm,.slice as' s.kids.len cs',.int .i64 s.a] 25)).heap[w0.heap.size]?=some(.cells #[.int .i64 s.k,.int .i64 s.n,stv s.nm,.slice as' s.kids.len cs',.int .i64 s.a] 25):=heap_alloc_new w0 _;have E1:=(B1.block _(lt_of_block E0)).trans E0;have W1:=W0.below B1;have N1:=N0.below B1;have S1:=Sl.belowF S0 B1;have SK1:=Sl.belowF SK B1;have hwb1:wb<w0.heap.size:=lt_of_block W0.blk;go_upto_region 2 with fail;generalize w0.alloc(.cells #[.int .i64 s.k,.int .i64 s.n,stv s.nm,.slice as' s.kids.len cs',.int .i64 s.a] 25)=w1 at *;obtain⟨sb,hsb⟩:∃sb,sb=w0.heap.size:=⟨_,rfl⟩
 have hwsb:wb≠sb:=by omega
 rw[<-hsb] at Z1 ⊢;have BW1:Below bx w w1:=B0.trans(B1.mono(Nat.le_of_lt(lt_of_block E0)));clear hsb p0 p1 p2 p3 p4 pf x0 x1 x2 x3 x4 S0x S0 W0 N0 E0 B0 B1 SK;go_wp2;go_loopw [6](fun v wr=>∃(d r:Fs),Hid(s.kids=d.app r)/\v=.int .i64(d.len:Nat)/\Wk wr wb bv(eh d none b)/\au wb w1 wr)(fun v _=>s.kids.len-(intOf v).toNat)
 case atStart=>exact⟨.nil,s.kids,rfl,by show _=Value.int .i64((0:Nat):Int);rfl,W1,au.refl _ _⟩
 case round =>
  obtain⟨d,r,hf,rfl,W2,K2⟩:=hrel;have hlk:s.kids.len=d.len+r.len:=by rw[hf.out,Fs.len_app]
  have Z2:=(K2.block _(lt_of_block Z1)(Ne.symm hwsb)).trans Z1;have E2:=(K2.block _(lt_of_block E1)(Ne.symm hwbx)).trans E1;obtain⟨p0,p1,p2,p3,p4,pf⟩:=am Z2;cases r using Fs.on with
  | nil =>
   have hl0:¬(d.len:Int)<(s.kids.len:Int):=by simp only[Fs.len] at hlk;omega
   have hdn:s.kids=d:=by rw[hf.out];clear hf hlk hl0 W2;exact jH d
   have W2':Wk wr wb bv(eh s.kids none b):=by rw[hdn];exact W2
   generalize hst:eh s.kids none b=st at W2';have HST:Hid(eh s.kids none b=st):=hst;have N2:=N1.keep K2;have S2:=Sl.keepF S1 K2;have KW2:au wb w wr:=au.bel(by rw[<-HB.out];exact BW1) K2;obtain⟨⟨av,capv,rfl,hcv,hp⟩,hpb⟩:=N2;obtain⟨q0,q1,q2,qf⟩:=it W2'.blk;clear hf hlk hdn hst W2 N1 S1 SK1 K2 W1 Z1 E1 BW1 hs;go_upto_region 8 with fail;go_cut [8](fun v wx=>∃ao' cap' o',v=.slice ao' b.length cap'/\Row wx o' 1 9 1 v b.length(b.map fun x=>stv x)/\aa I1n wr(fun _=>0) wx o')
   case first =>
    rcases hp with⟨hb0,rfl⟩|⟨g,rfl,hg,hpos,hcell⟩
    ·subst hb0;go_wp2;go_meet;exact⟨none,0,fun _=>0,by first|rfl|simp,Row.nil _ _ _ _ _,aa.refl _ _ _⟩
    ·have hnews:∀ j u,(b.map fun x=>stv x)[j]?=some u->wr.cell?((⟨g,0,none⟩:Addr).add j)=some u:=fun j u hj=>by
      rw[List.getElem?_map] at hj;cases hb:b[j]? with
      | none=>rw[hb] at hj;cases hj
      | some t =>
       rw[hb] at hj;injection hj with hj
       subst hj;have h3:((⟨g,0,none⟩:Addr).add j)=⟨g,j,none⟩:=by simp[Addr.add];exact Eq.symm
       rw[h3];exact hcell j t hb
     have hone:∀ u ∈ (b.map fun x=>stv x),u.oneCell'=true:=fun u hu=>by
      obtain⟨x,_,rfl⟩:=List.mem_map.1 hu;rfl
     have hlb:(b.map fun x=>stv x).length=b.length:=List.length_map _;have hbl:=hx.bl;generalize(b.map fun x=>stv x)=xs at *;clear hcell;go_wp2_with(first|(at_builtin;refine aB rfl(.tmp 31)(.tmp 32) 40 rfl 9 ii(.string⟨#[]⟩) 1 16 Tryz.underlying40 hii hzi0 hzi1 hzi2 rfl(by decide)(fun _=>0) 1 _ 0 [] rfl(Row.nil _ _ _ _ _)⟨g,0,none⟩ b.length capv xs rfl(by first|omega|(rw[hlb];omega)) hnews hone(by omega) ?c3 ?c4 ?_)|go_in)
     case c3=>unfold maxLen;omega
     case c4=>omega
     intro g7 c7 w7 o7 r7 s7;have HS:Hid(aa I1n wr(fun _=>0) w7 o7/\Row w7 o7 1 9 1(.slice(some⟨g7,0,none⟩) b.length c7) b.length xs):=⟨s7,by simpa using r7⟩
     clear s7 r7 hnews hone;go_wp2;go_meet;exact⟨some⟨g7,0,none⟩,c7,o7,by simp,HS.out.2,HS.out.1⟩
   case rest =>
    obtain⟨ao8,cap8,o8,rfl,R8,s8⟩:=hcut;have B8:Below wr.heap.size wr wc:=s8.below(fun _ _=>by decide);have E8:=(B8.block _(lt_of_block E2)).trans E2;have W8:=W2'.below B8;have L8:Hid(∀ k,k<wr.heap.size->o8 k=0):=fun k hk=>s8.lab k hk;have hwbr:wb<wr.heap.size:=lt_of_block W2'.blk;clear q0 q1 q2 qf p0 p1 p2 p3 p4 pf;obtain⟨p0,p1,p2,p3,p4,pf⟩:=am E8;obtain⟨q0,q1,q2,qf⟩:=it W8.blk;have s10:=aO(fun _=>False) wc o8(.cells #[stv e.nm] 9);have R10:=R8.step s10 id;have hrc:wr.heap.size<=wc.heap.size:=B8.size;have L10:Hid(∀ k,k<wr.heap.size->ae wc o8 0 k=0):=fun k hk=>by rw[aC(by omega)];exact L8.out k hk
    have hbl:=hx.bl;have b1:b.length+1<=maxLen:=by unfold maxLen;omega
    have b2:(b.length+1)*16<=140737488355328:=by omega
    have hone:∀ u ∈ [stv e.nm],u.oneCell'=true:=by intro u hu;simp at hu;subst hu;rfl
    go_upto_region 9 with fail;go_cut [](fun wx=>∃g11 c11,Wk wx wb(.slice(some⟨g11,0,none⟩)(b.length+1) c11) st/\Nmk wb wx(.slice(some⟨g11,0,none⟩)(b.length+1) c11)(b++[e.nm])/\au wb wr wx)
    case first =>
     go_wp2_with(first|(at_builtin;refine aB rfl(.tmp 35)(.tmp 38) 40 rfl 9 ii(.string⟨#[]⟩) 1 16 Tryz.underlying40 hii hzi0 hzi1 hzi2 rfl(by decide)(ae wc o8 0) 1 _ b.length(b.map fun x=>stv x) rfl R10⟨wc.heap.size,0,none⟩ 1 1 [stv e.nm] rfl rfl(cJ wc _ _) hone(by decide) b1 b2 ?_)|go_in);intro g11 c11 w11 o11 r11 s11;have B11:Below wr.heap.size wr w11:=j9(j9 B8 s10(fun _ _=>id)(Nat.le_refl _)) s11(fun k hk=>by show ¬_=1;rw[L10.out k hk];decide)(Nat.le_refl _);have W11:=W2'.below B11;have hgo:o11 g11=1:=r11.2 g11 rfl;have hwo:o11 wb=0:=(s11.lab wb(by simp;omega)).trans(L10.out wb hwbr);have hgw:g11≠wb:=by intro h;rw[h] at hgo;omega
     have NM11:Nms w11(.slice(some⟨g11,0,none⟩)(b.length+1) c11)(b++[e.nm]):=Nms.ofRow(by rw[List.map_append];exact r11)(by simp)(by omega);have K12:au wb wr(w11.setCell⟨wb,0,none⟩(.slice(some⟨g11,0,none⟩)(b.length+1) c11)):=(au.ofBelow B11).set⟨wb,0,none⟩ _(.inr rfl);have HZ:Hid(Wk(w11.setCell⟨wb,0,none⟩(.slice(some⟨g11,0,none⟩)(b.length+1) c11)) wb(.slice(some⟨g11,0,none⟩)(b.length+1) c11) st/\Nmk wb(w11.setCell⟨wb,0,none⟩(.slice(some⟨g11,0,none⟩)(b.length+1) c11))(.slice(some⟨g11,0,none⟩)(b.length+1) c11)(b++[e.nm])/\au wb wr(w11.setCell⟨wb,0,none⟩(.slice(some⟨g11,0,none⟩)(b.length+1) c11))):=by
      refine⟨⟨(Bh W11.blk _).1,W11.ok⟩,Nmk.keep⟨NM11,fun g off n c h=>by injection h with h1;injection h1 with h1;injection h1 with h1;rw[<-h1];exact hgw⟩((au.refl wb w11).set⟨wb,0,none⟩ _(.inr rfl)),K12⟩
     obtain⟨t0,t1,t2,tf⟩:=it W11.blk;clear s11 r11 B11 hgo hwo hgw NM11 K12 W11 p0 p1 p2 p3 p4 pf q0 q1 q2 qf;go_wp2;go_meet;exact⟨g11,c11,HZ.out.1,HZ.out.2.1,HZ.out.2.2⟩
    case rest =>
     obtain⟨g11,c11,W12,N12,K12⟩:=hcut;have E12:=(K12.block _(lt_of_block E2)(Ne.symm hwbx)).trans E2;have S12:Sl wc(Nf wb)((Fs.ex s .nil).app(.cons x.k x.n x.nm x.a x.kids .nil))(some⟨kb,off,none⟩):=by
      have:=Sl.keepF S2 K12
      rw[HK.out] at this;exact this
     have KW12:=KW2.trans K12;clear p0 p1 p2 p3 p4 pf q0 q1 q2 qf R8 s8 B8 E8 W8 L8 s10 R10 hrc L10 b1 b2 hone E2 S2 W2' hp hpb hcv KW2 K12 Z2;obtain⟨p0,p1,p2,p3,p4,pf⟩:=am E12;obtain⟨kb',off',ak,ck,hao,hk13,hkw,x0,x1,x2,x3,x4,SK⟩:=Sl.kidQ S12;injection hao with hao
     injection hao with h1 h2
     subst h1;subst h2;simp only[Fs.len,Fs.ex,Nat.zero_add,Nat.one_mul] at x0 x1 x2 x3 x4;have hb13:=lt_of_block E12;have hx':mS N x(b++[e.nm]).length:=by rw[List.length_append];exact hx
     have hbo:cG e.n≠0:=by unfold cG;split<;>omega
     have bdT:Below wc.heap.size wc wc.drew:=⟨rfl,rfl,rfl,Nat.le_refl _,fun _ _=>rfl⟩
     have c3:=eQ IH x ak ck wb _(b++[e.nm])(cG e.n) st wc.drew hx'(fun _=>hbo)(W12.below bdT)(fun _=>N12.below bdT)(Sl.belowF SK bdT);rw[aq] at c3;have hbq:=fun wy=>xY e.n wy;obtain⟨bo,hbo'⟩:∃bo,bo=cG e.n:=⟨_,rfl⟩
     rw[<-hbo'] at c3 hbq;have HBO:Hid(cG e.n=bo):=hbo'.symm;clear hbo' hbo;go_upto_region 10 with fail;go_cut [](fun wx=>Wk wx wb(.slice(some⟨g11,0,none⟩)(b.length+1) c11)(bf st bo x(b++[e.nm]))/\au wb wc wx)
     case first =>
      go_wp2_with fail;go_region_held3(fun wx=>wx.cell?⟨bx,1,none⟩=some(.int .i64 e.n)/\wx.cell?⟨bx,3,none⟩=some(.slice(some⟨kb,off,none⟩) 2 cap)/\wx.cell?⟨kb,off+5,none⟩=some(.int .i64 x.k)/\wx.cell?⟨kb,off+5+1,none⟩=some(.int .i64 x.n)/\wx.cell?⟨kb,off+5+2,none⟩=some(stv x.nm)/\wx.cell?⟨kb,off+5+3,none⟩=some(.slice ak x.kids.len ck)/\wx.cell?⟨kb,off+5+4,none⟩=some(.int .i64 x.a))
       (first|exact KA|go_keep)
       (first
        | (go_at_call 171;refine(hbq _).mono ?_;rintro z w3⟨rfl,rfl⟩)
        | (go_at_call 162;refine c3.mono ?_;rintro z w3⟨rfl,W3,K3⟩;have KA:w3.cell?⟨bx,1,none⟩=some(.int .i64 e.n)/\w3.cell?⟨bx,3,none⟩=some(.slice(some⟨kb,off,none⟩) 2 cap)/\w3.cell?⟨kb,off+5,none⟩=some(.int .i64 x.k)/\w3.cell?⟨kb,off+5+1,none⟩=some(.int .i64 x.n)/\w3.cell?⟨kb,off+5+2,none⟩=some(stv x.nm)/\w3.cell?⟨kb,off+5+3,none⟩=some(.slice ak x.kids.len ck)/\w3.cell?⟨kb,off+5+4,none⟩=some(.int .i64 x.a):=⟨(K3.cell hb13(Ne.symm hwbx) _).trans p1,(K3.cell hb13(Ne.symm hwbx) _).trans p3,(K3.cell hk13 hkw _).trans x0,(K3.cell hk13 hkw _).trans x1,(K3.cell hk13 hkw _).trans x2,(K3.cell hk13 hkw _).trans x3,(K3.cell hk13 hkw _).trans x4⟩))
      all_goals(
       have HZ:Hid(Wk w3 wb(.slice(some⟨g11,0,none⟩)(b.length+1) c11)(bf st bo x(b++[e.nm]))/\au wb wc w3):=⟨W3,au.bel bdT K3⟩
       clear KA W3 K3 c3 hbq;go_wp2;go_meet;exact HZ.out)
     case rest =>
      obtain⟨W13,K13⟩:=hcut;have E13:=(K13.block _ hb13(Ne.symm hwbx)).trans E12;have KW13:=KW12.trans K13;have W14:Wk(wc.setCell⟨wb,0,none⟩(.slice av b.length capv)) wb(.slice av b.length capv)(bf st bo x(b++[e.nm])):=⟨(Bh W13.blk _).1,W13.ok⟩
      have K14:=KW13.trans((au.refl wb wc).set⟨wb,0,none⟩(.slice av b.length capv)(.inr rfl));have E14:=(heap_setCell_other wc⟨wb,0,none⟩ bx(.slice av b.length capv)(Ne.symm hwbx)).trans E13;obtain⟨q0,q1,q2,qf⟩:=it W13.blk;clear c3 hbq x0 x1 x2 x3 x4 SK S12 p0 p1 p2 p3 p4 pf E13 E12 KW12 KW13 K13 N12 W12 bdT W13;go_upto_region 12 with fail;generalize wc.setCell⟨wb,0,none⟩(.slice av b.length capv)=w14 at *;obtain⟨p0,p1,p2,p3,p4,pf⟩:=am E14;have c5:=oO e.n w14;obtain⟨wo,hwo⟩:∃wo,wo=cq e.n:=⟨_,rfl⟩
      rw[<-hwo] at c5;have HWO:Hid(cq e.n=wo):=hwo.symm;clear hwo;go_wp2_with fail;refine c5.mono ?_;rintro z w15⟨rfl,rfl⟩;have HZ:Hid(Wk w15 wb(.slice av b.length capv)(bf st bo x(b++[e.nm]))/\au wb w w15):=⟨W14,K14⟩
      clear c5 W14 K14;go_wp2;refine bodyPost_ret(v:=.int .i64 wo)(by simp[results,Tryz.results164,go_sem]) rfl⟨by first|rfl|rw[HWO.out],by rw[HST.out,HBO.out];exact HZ.out.1,HZ.out.2⟩
  | cons kk kn km ka kks kr =>
   have hl0:(d.len:Int)<(s.kids.len:Int):=by simp only[Fs.len] at hlk;omega
   have hl1:d.len<s.kids.len:=by simp only[Fs.len] at hlk;omega
   have SK2:Sl wr(Nf wb)(d.app(Fs.ex⟨kk,kn,km,ka,kks⟩ kr)) as':=by
    have:=Sl.keepF SK1 K2
    rw[hf.out] at this;exact this
   obtain⟨gb,go,ak,ck,hao,x0,x1,x2,x3,x4,SKK⟩:=Sl.kidP SK2 d.len rfl;subst hao;have c1:=eQ IH⟨kk,kn,km,ka,kks⟩ ak ck wb bv b 3 _ wr(hs d kr _ hf.out)(fun _=>by decide) W2(fun _=>N1.keep K2) SKK;rw[aq] at c1;simp only at c1 x0 x1 x2 x3 x4;have hf2:Hid(s.kids=(d.snoc⟨kk,kn,km,ka,kks⟩).app kr):=by show s.kids=_;rw[hf.out];unfold Fs.snoc;rw[Fs.app_assoc];rfl
   have hl2:(d.len:Int)+1=((d.snoc⟨kk,kn,km,ka,kks⟩).len:Nat):=by rw[Fs.len_snoc];rfl
   clear hf hlk SK2 SKK;go_wp2_with fail;refine c1.mono ?_;rintro z w3⟨rfl,W3,K3⟩;have W4:Wk w3 wb bv(eh(d.snoc⟨kk,kn,km,ka,kks⟩) none b):=by rw[jL];exact W3
   have K4:=K2.trans K3;clear c1 W3 K3 W2 K2 p0 p1 p2 p3 p4 pf x0 x1 x2 x3 x4 Z2 E2;go_wp2;go_roundw
   case rel=>exact⟨_,kr,hf2,by rw[<-hl2],W4,K4⟩
   case measure=>simp[intOf];omega
theorem cW {w w':World}{wb:Nat}{bv:Value}{st:Er}{g:Int}{r:Sum (Nat × Int) Int}(hc:r=dz st g)(W:Wk w' wb bv st)(K:au wb w w'):bX w wb bv r (.returned (.int .i64 g)) w':=by
 subst hc;cases st with
 | some x=>exact⟨⟨g,rfl,fun k h=>by cases h⟩,W,K⟩
 | none=>exact⟨⟨g,rfl,fun k h=>by injection h⟩,W,K⟩
theorem Cr {w w':World}{wb:Nat}{bv:Value}{x:Nat × Int}{g:Int}{r:Sum (Nat × Int) Int}(hc:r=.inl x)(W:Wk w' wb bv (some x))(K:au wb w w'):bX w wb bv r (.returned (.int .i64 g)) w':=by
 subst hc;exact⟨⟨g,rfl,fun k h=>by cases h⟩,W,K⟩
theorem qp:∀ {f:Fs},f.len=0->f=.nil
 | ⟨none⟩,_=>rfl
 | ⟨some⟨k,n,nm,a,ks,r⟩⟩,h=>by simp[Fs.len] at h
theorem wm {n:Int}{nm:List UInt8}{a:Int}{b:List (List UInt8)}:bK ⟨4,n,nm,a,.nil⟩ b=if nm ∈ b then .inr 3 else .inl (130,a):=by
 unfold bK;by_cases h:nm ∈ b
 ·rw[if_neg(fun h2=>h2.2 h),if_pos h];rfl
 ·rw[if_pos⟨rfl,h⟩,if_neg h]
theorem mS.kids {N:Nat}{k n:Int}{nm:List UInt8}{a:Int}{f:Fs}{nb:Nat}(h:mS (N+1) ⟨k,n,nm,a,f⟩ nb)(hk:k≠21):Kds N f nb :=
 Kds.of(by have:=h.sz;simp only at this;omega) h.ok.2(by have:=h.sk;simp only at this;rw[show(k==21)=false by simpa using hk] at this;exact this) h.sh(by have:=h.bl;simp only at this;omega)
theorem Ct {w w':World}{wb:Nat}{bv:Value}{b:List (List UInt8)}{n:Int}{nm:List UInt8}{a:Int}{r:Int}{x:Sum (Nat × Int) Int}(hc:x=bK ⟨4,n,nm,a,.nil⟩ b)(h3:nm ∈ b->r=3)(W:Wk w' wb bv (if nm ∈ b then none else some (130,a)))(K:au wb w w'):bX w wb bv x (.returned (.int .i64 r)) w':=by
 subst hc;rw[wm];by_cases h:nm ∈ b
 ·rw[if_pos h] at W ⊢;obtain rfl:=h3 h;exact⟨⟨3,rfl,fun k h=>by injection h⟩,W,K⟩
 ·rw[if_neg h] at W ⊢;exact⟨⟨r,rfl,fun k h=>by cases h⟩,W,K⟩
theorem uD {N:Nat}(IH:jN N):jN (N+1):=by
 intro e ao cap wb bv b w hr h hn S;obtain⟨k0,n,nm,a,f⟩:=e;have hok:=hr.ok.1;have ho:=xK hok;have hkb:=hok.2.2.1;have hst:=hr.st;simp only at ho hkb hst;have hkk:k0=1\/k0=2\/k0=3\/k0=4\/k0=6\/k0=7\/k0=8\/k0=9\/k0=10\/k0=11\/k0=12\/k0=13\/k0=14\/k0=15\/k0=16\/k0=17\/k0=18\/k0=19\/k0=20\/k0=21:=by
  have h1:=xL ho;have h2:k0≠22/\k0≠23/\k0≠24/\k0≠25:=by
   unfold bm at hst;simp at hst;omega
  omega
 obtain⟨W,hW⟩:∃W,W=bK⟨k0,n,nm,a,f⟩ b:=⟨_,rfl⟩
 rw[<-hW];have HW:Hid(W=bK⟨k0,n,nm,a,f⟩ b):=hW;clear hW hok hst;have B0:Below w.heap.size w(w.alloc(.cells #[.int .i64 k0,.int .i64 n,stv nm,.slice ao f.len cap,.int .i64 a] 25)):=(Below.refl _ w).alloc(Nat.le_refl _) _;have E0:(w.alloc(.cells #[.int .i64 k0,.int .i64 n,stv nm,.slice ao f.len cap,.int .i64 a] 25)).heap[w.heap.size]?=some(.cells #[.int .i64 k0,.int .i64 n,stv nm,.slice ao f.len cap,.int .i64 a] 25):=heap_alloc_new w _;have W0:=h.below B0;have S0:=Sl.belowF S B0;have hwb:=lt_of_block h.blk;have N0:=hn.below B0;clear h hn S;rw[aq];go_enter Tryz.func100,Tryz.ntmps100;go_upto_region 1 with fail;generalize w.alloc(.cells #[.int .i64 k0,.int .i64 n,stv nm,.slice ao f.len cap,.int .i64 a] 25)=w0 at *;obtain⟨bx,hbx⟩:∃bx,bx=w.heap.size:=⟨_,rfl⟩
 have hwbx:wb≠bx:=by omega
 rw[<-hbx] at E0 B0 ⊢;have HB:Hid(bx=w.heap.size):=hbx;clear hbx;have KW0:au wb w w0:=au.ofBelow(by rw[<-HB.out];exact B0);simp only at S0;rcases hkk with rfl|rfl|rfl|rfl|rfl|rfl|rfl|rfl|rfl|rfl|rfl|rfl|rfl|rfl|rfl|rfl|rfl|rfl|rfl|rfl
 ·have hl:f.len=0:=by simp[aR] at hkb;omega
  obtain rfl:=qp hl;have HZ:Hid(bX w wb bv W(.returned(.int .i64 1)) w0):=cW(st:=none)(HW.out.trans rfl) W0 KW0;obtain⟨p0,p1,p2,p3,p4,pf⟩:=am E0;clear HW hr ho hkb S0 W0 N0 E0 B0 KW0;go_wp2;exact bodyPost_ret(v:=.int .i64 1)(by simp[results,Tryz.results100,go_sem]) rfl HZ.out
 ·have hl:f.len=0:=by simp[aR] at hkb;omega
  obtain rfl:=qp hl;have HZ:Hid(bX w wb bv W(.returned(.int .i64 2)) w0):=cW(st:=none)(HW.out.trans rfl) W0 KW0;obtain⟨p0,p1,p2,p3,p4,pf⟩:=am E0;clear HW hr ho hkb S0 W0 N0 E0 B0 KW0;go_wp2;exact bodyPost_ret(v:=.int .i64 2)(by simp[results,Tryz.results100,go_sem]) rfl HZ.out
 ·have hl:f.len=0:=by simp[aR] at hkb;omega
  obtain rfl:=qp hl;have HZ:Hid(bX w wb bv W(.returned(.int .i64 3)) w0):=cW(st:=none)(HW.out.trans rfl) W0 KW0;obtain⟨p0,p1,p2,p3,p4,pf⟩:=am E0;clear HW hr ho hkb S0 W0 N0 E0 B0 KW0;go_wp2;exact bodyPost_ret(v:=.int .i64 3)(by simp[results,Tryz.results100,go_sem]) rfl HZ.out
 ·have hl:f.len=0:=by simp[aR] at hkb;omega
  obtain rfl:=qp hl;have c1:=fun k=>Cn⟨k,n,nm,a,.nil⟩ ao cap w0 wb bv b W0 N0(by have:=hr.bl;simp only at this;omega);simp only[aq] at c1;obtain⟨p0,p1,p2,p3,p4,pf⟩:=am E0;clear hr ho hkb;go_wp2_with fail;refine(c1 _).mono ?_;rintro z w1⟨⟨r,rfl,h3⟩,W1,K1⟩;simp only at h3 W1;have HZ:Hid(bX w wb bv W(.returned(.int .i64 r)) w1):=Ct HW.out h3 W1(KW0.trans K1);clear c1 W1 K1 h3 p0 p1 p2 p3 p4 pf S0 W0 N0 E0 B0 KW0 HW;go_wp2;exact bodyPost_ret(v:=.int .i64 r)(by simp[results,Tryz.results100,go_sem]) rfl HZ.out
 ·have hl:f.len=1:=by simp[aR] at hkb;omega
  obtain⟨x,rfl⟩:=qX hl;have hx:=hr.kids(by decide) .nil .nil x rfl;have HC:Hid(W=dz(bf none 1 x b) 1):=HW.out.trans(sX 1 1(by decide)(by decide) rfl(by decide) rfl);obtain⟨p0,p1,p2,p3,p4,pf⟩:=am E0;obtain⟨kb,off,ak,ck,hao,x0,x1,x2,x3,x4,SK⟩:=Sl.kidP(x:=.nil)(r:=.nil)(y:=x) S0 0 rfl;subst hao;simp only[Nat.zero_mul,Nat.add_zero] at x0 x1 x2 x3 x4;have hlen:(Fs.ex x .nil).len=1:=rfl;have c1:=eQ IH x ak ck wb bv b 1 none w0 hx(fun _=>by decide) W0(fun _=>N0) SK;rw[aq] at c1;clear HW hr ho hkb;simp only[hlen] at p3 ⊢;go_wp2_with fail;refine c1.mono ?_;rintro z w1⟨rfl,W1,K1⟩;have HZ:Hid(bX w wb bv W(.returned(.int .i64 1)) w1):=cW HC.out W1(KW0.trans K1);clear c1 W1 K1 HC p0 p1 p2 p3 p4 pf x0 x1 x2 x3 x4 SK S0 W0 N0 E0 B0 KW0;go_wp2;exact bodyPost_ret(v:=.int .i64 1)(by simp[results,Tryz.results100,go_sem]) rfl HZ.out
 ·have hl:f.len=1:=by simp[aR] at hkb;omega
  obtain⟨x,rfl⟩:=qX hl;have hx:=hr.kids(by decide) .nil .nil x rfl;have HC:Hid(W=dz(bf none 2 x b) 2):=HW.out.trans(sX 2 2(by decide)(by decide) rfl(by decide) rfl);obtain⟨p0,p1,p2,p3,p4,pf⟩:=am E0;obtain⟨kb,off,ak,ck,hao,x0,x1,x2,x3,x4,SK⟩:=Sl.kidP(x:=.nil)(r:=.nil)(y:=x) S0 0 rfl;subst hao;simp only[Nat.zero_mul,Nat.add_zero] at x0 x1 x2 x3 x4;have hlen:(Fs.ex x .nil).len=1:=rfl;have c1:=eQ IH x ak ck wb bv b 2 none w0 hx(fun _=>by decide) W0(fun _=>N0) SK;rw[aq] at c1;clear HW hr ho hkb;simp only[hlen] at p3 ⊢;go_wp2_with fail;refine c1.mono ?_;rintro z w1⟨rfl,W1,K1⟩;have HZ:Hid(bX w wb bv W(.returned(.int .i64 2)) w1):=cW HC.out W1(KW0.trans K1);clear c1 W1 K1 HC p0 p1 p2 p3 p4 pf x0 x1 x2 x3 x4 SK S0 W0 N0 E0 B0 KW0;go_wp2;exact bodyPost_ret(v:=.int .i64 2)(by simp[results,Tryz.results100,go_sem]) rfl HZ.out
 ·have hl:f.len=2:=by simp[aR,dU,eB] at hkb;omega
  obtain⟨x,y,rfl⟩:=fI hl;have hx:=hr.kids(by decide) .nil(Fs.ex y .nil) x rfl;have hy:=hr.kids(by decide)(Fs.ex x .nil) .nil y rfl;have HC:Hid(W=dz(bf(bf none 1 x b) 1 y b) 1):=HW.out.trans(eM 1 1(by decide)(by decide) rfl rfl(by decide) rfl);obtain⟨p0,p1,p2,p3,p4,pf⟩:=am E0;have c1:=fun k=>dQ IH⟨k,n,nm,a,Fs.ex x(Fs.ex y .nil)⟩ x y ao cap wb bv b 1 1 w0 rfl hx hy(by decide) W0 N0 S0;simp only[aq] at c1;clear HW hr ho hkb;go_wp2_with fail;refine(c1 _).mono ?_;rintro z w1⟨rfl,W1,K1⟩;have HZ:Hid(bX w wb bv W(.returned(.int .i64 1)) w1):=cW HC.out W1(KW0.trans K1);clear c1 W1 K1 HC p0 p1 p2 p3 p4 pf S0 W0 N0 E0 B0 KW0;go_wp2;exact bodyPost_ret(v:=.int .i64 1)(by simp[results,Tryz.results100,go_sem]) rfl HZ.out
 ·have hl:f.len=2:=by simp[aR,dU,eB] at hkb;omega
  obtain⟨x,y,rfl⟩:=fI hl;have hx:=hr.kids(by decide) .nil(Fs.ex y .nil) x rfl;have hy:=hr.kids(by decide)(Fs.ex x .nil) .nil y rfl;have HC:Hid(W=dz(bf(bf none 1 x b) 1 y b) 1):=HW.out.trans(eM 1 1(by decide)(by decide) rfl rfl(by decide) rfl);obtain⟨p0,p1,p2,p3,p4,pf⟩:=am E0;have c1:=fun k=>dQ IH⟨k,n,nm,a,Fs.ex x(Fs.ex y .nil)⟩ x y ao cap wb bv b 1 1 w0 rfl hx hy(by decide) W0 N0 S0;simp only[aq] at c1;clear HW hr ho hkb;go_wp2_with fail;refine(c1 _).mono ?_;rintro z w1⟨rfl,W1,K1⟩;have HZ:Hid(bX w wb bv W(.returned(.int .i64 1)) w1):=cW HC.out W1(KW0.trans K1);clear c1 W1 K1 HC p0 p1 p2 p3 p4 pf S0 W0 N0 E0 B0 KW0;go_wp2;exact bodyPost_ret(v:=.int .i64 1)(by simp[results,Tryz.results100,go_sem]) rfl HZ.out
 ·have hl:f.len=2:=by simp[aR,dU,eB] at hkb;omega
  obtain⟨x,y,rfl⟩:=fI hl;have hx:=hr.kids(by decide) .nil(Fs.ex y .nil) x rfl;have hy:=hr.kids(by decide)(Fs.ex x .nil) .nil y rfl;have HC:Hid(W=dz(bf(bf none 1 x b) 1 y b) 1):=HW.out.trans(eM 1 1(by decide)(by decide) rfl rfl(by decide) rfl);obtain⟨p0,p1,p2,p3,p4,pf⟩:=am E0;have c1:=fun k=>dQ IH⟨k,n,nm,a,Fs.ex x(Fs.ex y .nil)⟩ x y ao cap wb bv b 1 1 w0 rfl hx hy(by decide) W0 N0 S0;simp only[aq] at c1;clear HW hr ho hkb;go_wp2_with fail;refine(c1 _).mono ?_;rintro z w1⟨rfl,W1,K1⟩;have HZ:Hid(bX w wb bv W(.returned(.int .i64 1)) w1):=cW HC.out W1(KW0.trans K1);clear c1 W1 K1 HC p0 p1 p2 p3 p4 pf S0 W0 N0 E0 B0 KW0;go_wp2;exact bodyPost_ret(v:=.int .i64 1)(by simp[results,Tryz.results100,go_sem]) rfl HZ.out
 ·have hl:f.len=2:=by simp[aR,dU,eB] at hkb;omega
  obtain⟨x,y,rfl⟩:=fI hl;have hx:=hr.kids(by decide) .nil(Fs.ex y .nil) x rfl;have hy:=hr.kids(by decide)(Fs.ex x .nil) .nil y rfl;have HC:Hid(W=dz(bf(bf none 1 x b) 1 y b) 1):=HW.out.trans(eM 1 1(by decide)(by decide) rfl rfl(by decide) rfl);obtain⟨p0,p1,p2,p3,p4,pf⟩:=am E0;have c1:=fun k=>dQ IH⟨k,n,nm,a,Fs.ex x(Fs.ex y .nil)⟩ x y ao cap wb bv b 1 1 w0 rfl hx hy(by decide) W0 N0 S0;simp only[aq] at c1;clear HW hr ho hkb;go_wp2_with fail;refine(c1 _).mono ?_;rintro z w1⟨rfl,W1,K1⟩;have HZ:Hid(bX w wb bv W(.returned(.int .i64 1)) w1):=cW HC.out W1(KW0.trans K1);clear c1 W1 K1 HC p0 p1 p2 p3 p4 pf S0 W0 N0 E0 B0 KW0;go_wp2;exact bodyPost_ret(v:=.int .i64 1)(by simp[results,Tryz.results100,go_sem]) rfl HZ.out
 ·have hl:f.len=2:=by simp[aR,dU,eB] at hkb;omega
  obtain⟨x,y,rfl⟩:=fI hl;have hx:=hr.kids(by decide) .nil(Fs.ex y .nil) x rfl;have hy:=hr.kids(by decide)(Fs.ex x .nil) .nil y rfl;have HC:Hid(W=dz(bf(bf none 1 x b) 1 y b) 1):=HW.out.trans(eM 1 1(by decide)(by decide) rfl rfl(by decide) rfl);obtain⟨p0,p1,p2,p3,p4,pf⟩:=am E0;have c1:=fun k=>dQ IH⟨k,n,nm,a,Fs.ex x(Fs.ex y .nil)⟩ x y ao cap wb bv b 1 1 w0 rfl hx hy(by decide) W0 N0 S0;simp only[aq] at c1;clear HW hr ho hkb;go_wp2_with fail;refine(c1 _).mono ?_;rintro z w1⟨rfl,W1,K1⟩;have HZ:Hid(bX w wb bv W(.returned(.int .i64 1)) w1):=cW HC.out W1(KW0.trans K1);clear c1 W1 K1 HC p0 p1 p2 p3 p4 pf S0 W0 N0 E0 B0 KW0;go_wp2;exact bodyPost_ret(v:=.int .i64 1)(by simp[results,Tryz.results100,go_sem]) rfl HZ.out
 ·have hl:f.len=2:=by simp[aR,dU,eB] at hkb;omega
  obtain⟨x,y,rfl⟩:=fI hl;have hx:=hr.kids(by decide) .nil(Fs.ex y .nil) x rfl;have hy:=hr.kids(by decide)(Fs.ex x .nil) .nil y rfl;have HC:Hid(W=(match bK x b with | .inl e=>.inl e | .inr k0=>dz(bf none k0 y b) 2)):=HW.out.trans(jY(by decide));have hpos:=iY N x b;have hxs:=hx.sz;have hxo:=hx.ok;obtain⟨p0,p1,p2,p3,p4,pf⟩:=am E0;obtain⟨kb,off,ak,ck,hao,x0,x1,x2,x3,x4,SK⟩:=Sl.kidP(x:=.nil)(r:=Fs.ex y .nil)(y:=x) S0 0 rfl;subst hao;simp only[Nat.zero_mul,Nat.add_zero] at x0 x1 x2 x3 x4;have hlen:(Fs.ex x(Fs.ex y .nil)).len=2:=rfl;have c1:=IH x ak ck wb bv b w0 hx W0 N0 SK;rw[aq] at c1;clear HW hr ho hkb;simp only[hlen] at p3 E0 ⊢;go_wp2_with fail;refine c1.mono ?_;rintro z w1⟨⟨k',rfl,hk'⟩,W1,K1⟩;have E1:=(K1.block _(lt_of_block E0)(Ne.symm hwbx)).trans E0;have S1:=Sl.keepF S0 K1;have N1:=N0.keep K1;have KW1:=KW0.trans K1;clear c1 p0 p1 p2 p3 p4 pf x0 x1 x2 x3 x4 SK S0 W0 N0 E0 B0 KW0 K1;obtain⟨p0,p1,p2,p3,p4,pf⟩:=am E1;obtain⟨kb2,off2,ak,ck,hao,x0,x1,x2,x3,x4,SK⟩:=Sl.kidP(x:=Fs.ex x .nil)(r:=.nil)(y:=y) S1 1 rfl;injection hao with hao
  injection hao with h1 h2
  subst h1;subst h2;simp only[Nat.one_mul] at x0 x1 x2 x3 x4;have hm:stS(bK x b)=none->k'≠0:=by
   intro hs;cases hc:bK x b with
   | inl z=>rw[hc] at hs;cases hs
   | inr k1 =>
    rw[hk' k1 hc];exact hpos k1 hxs hxo hc
  have c2:=eQ IH y ak ck wb bv b k' _ w1 hy hm W1(fun _=>N1) SK;rw[aq] at c2;have HC2:Hid(W=dz(bf(stS(bK x b)) k' y b) 2):=by
   show W=_;rw[HC.out];cases hc:bK x b with
   | inl z=>rfl
   | inr k1=>rw[hk' k1 hc];rfl
  clear HC hm hpos hk' hxs hxo;go_wp2_with fail;refine c2.mono ?_;rintro z w2⟨rfl,W2,K2⟩;have HZ:Hid(bX w wb bv W(.returned(.int .i64 2)) w2):=cW HC2.out W2(KW1.trans K2);clear c2 W2 K2 HC2 p0 p1 p2 p3 p4 pf x0 x1 x2 x3 x4 SK S1 W1 N1 E1 KW1;go_wp2;exact bodyPost_ret(v:=.int .i64 2)(by simp[results,Tryz.results100,go_sem]) rfl HZ.out
 ·have hl:f.len=2:=by simp[aR,dU,eB] at hkb;omega
  obtain⟨x,y,rfl⟩:=fI hl;have hx:=hr.kids(by decide) .nil(Fs.ex y .nil) x rfl;have hy:=hr.kids(by decide)(Fs.ex x .nil) .nil y rfl;have HC:Hid(W=(match bK x b with | .inl e=>.inl e | .inr k0=>dz(bf none k0 y b) 2)):=HW.out.trans(jY(by decide));have hpos:=iY N x b;have hxs:=hx.sz;have hxo:=hx.ok;obtain⟨p0,p1,p2,p3,p4,pf⟩:=am E0;obtain⟨kb,off,ak,ck,hao,x0,x1,x2,x3,x4,SK⟩:=Sl.kidP(x:=.nil)(r:=Fs.ex y .nil)(y:=x) S0 0 rfl;subst hao;simp only[Nat.zero_mul,Nat.add_zero] at x0 x1 x2 x3 x4;have hlen:(Fs.ex x(Fs.ex y .nil)).len=2:=rfl;have c1:=IH x ak ck wb bv b w0 hx W0 N0 SK;rw[aq] at c1;clear HW hr ho hkb;simp only[hlen] at p3 E0 ⊢;go_wp2_with fail;refine c1.mono ?_;rintro z w1⟨⟨k',rfl,hk'⟩,W1,K1⟩;have E1:=(K1.block _(lt_of_block E0)(Ne.symm hwbx)).trans E0;have S1:=Sl.keepF S0 K1;have N1:=N0.keep K1;have KW1:=KW0.trans K1;clear c1 p0 p1 p2 p3 p4 pf x0 x1 x2 x3 x4 SK S0 W0 N0 E0 B0 KW0 K1;obtain⟨p0,p1,p2,p3,p4,pf⟩:=am E1;obtain⟨kb2,off2,ak,ck,hao,x0,x1,x2,x3,x4,SK⟩:=Sl.kidP(x:=Fs.ex x .nil)(r:=.nil)(y:=y) S1 1 rfl;injection hao with hao
  injection hao with h1 h2
  subst h1;subst h2;simp only[Nat.one_mul] at x0 x1 x2 x3 x4;have hm:stS(bK x b)=none->k'≠0:=by
   intro hs;cases hc:bK x b with
   | inl z=>rw[hc] at hs;cases hs
   | inr k1 =>
    rw[hk' k1 hc];exact hpos k1 hxs hxo hc
  have c2:=eQ IH y ak ck wb bv b k' _ w1 hy hm W1(fun _=>N1) SK;rw[aq] at c2;have HC2:Hid(W=dz(bf(stS(bK x b)) k' y b) 2):=by
   show W=_;rw[HC.out];cases hc:bK x b with
   | inl z=>rfl
   | inr k1=>rw[hk' k1 hc];rfl
  clear HC hm hpos hk' hxs hxo;go_wp2_with fail;refine c2.mono ?_;rintro z w2⟨rfl,W2,K2⟩;have HZ:Hid(bX w wb bv W(.returned(.int .i64 2)) w2):=cW HC2.out W2(KW1.trans K2);clear c2 W2 K2 HC2 p0 p1 p2 p3 p4 pf x0 x1 x2 x3 x4 SK S1 W1 N1 E1 KW1;go_wp2;exact bodyPost_ret(v:=.int .i64 2)(by simp[results,Tryz.results100,go_sem]) rfl HZ.out
 ·have hl:f.len=2:=by simp[aR,dU,eB] at hkb;omega
  obtain⟨x,y,rfl⟩:=fI hl;have hx:=hr.kids(by decide) .nil(Fs.ex y .nil) x rfl;have hy:=hr.kids(by decide)(Fs.ex x .nil) .nil y rfl;have HC:Hid(W=dz(bf(bf none 1 x b) 1 y b) 2):=HW.out.trans(eM 1 2(by decide)(by decide) rfl rfl(by decide) rfl);obtain⟨p0,p1,p2,p3,p4,pf⟩:=am E0;have c1:=fun k=>dQ IH⟨k,n,nm,a,Fs.ex x(Fs.ex y .nil)⟩ x y ao cap wb bv b 1 2 w0 rfl hx hy(by decide) W0 N0 S0;simp only[aq] at c1;clear HW hr ho hkb;go_wp2_with fail;refine(c1 _).mono ?_;rintro z w1⟨rfl,W1,K1⟩;have HZ:Hid(bX w wb bv W(.returned(.int .i64 2)) w1):=cW HC.out W1(KW0.trans K1);clear c1 W1 K1 HC p0 p1 p2 p3 p4 pf S0 W0 N0 E0 B0 KW0;go_wp2;exact bodyPost_ret(v:=.int .i64 2)(by simp[results,Tryz.results100,go_sem]) rfl HZ.out
 ·have hl:f.len=2:=by simp[aR,dU,eB] at hkb;omega
  obtain⟨x,y,rfl⟩:=fI hl;have hx:=hr.kids(by decide) .nil(Fs.ex y .nil) x rfl;have hy:=hr.kids(by decide)(Fs.ex x .nil) .nil y rfl;have HC:Hid(W=dz(bf(bf none 1 x b) 1 y b) 2):=HW.out.trans(eM 1 2(by decide)(by decide) rfl rfl(by decide) rfl);obtain⟨p0,p1,p2,p3,p4,pf⟩:=am E0;have c1:=fun k=>dQ IH⟨k,n,nm,a,Fs.ex x(Fs.ex y .nil)⟩ x y ao cap wb bv b 1 2 w0 rfl hx hy(by decide) W0 N0 S0;simp only[aq] at c1;clear HW hr ho hkb;go_wp2_with fail;refine(c1 _).mono ?_;rintro z w1⟨rfl,W1,K1⟩;have HZ:Hid(bX w wb bv W(.returned(.int .i64 2)) w1):=cW HC.out W1(KW0.trans K1);clear c1 W1 K1 HC p0 p1 p2 p3 p4 pf S0 W0 N0 E0 B0 KW0;go_wp2;exact bodyPost_ret(v:=.int .i64 2)(by simp[results,Tryz.results100,go_sem]) rfl HZ.out
 ·have hl:f.len=2:=by simp[aR,dU,eB] at hkb;omega
  obtain⟨x,y,rfl⟩:=fI hl;have hx:=hr.kids(by decide) .nil(Fs.ex y .nil) x rfl;have hy:=hr.kids(by decide)(Fs.ex x .nil) .nil y rfl;have HC:Hid(W=dz(bf(bf none 2 x b) 2 y b) 2):=HW.out.trans(eM 2 2(by decide)(by decide) rfl rfl(by decide) rfl);obtain⟨p0,p1,p2,p3,p4,pf⟩:=am E0;have c1:=fun k=>dQ IH⟨k,n,nm,a,Fs.ex x(Fs.ex y .nil)⟩ x y ao cap wb bv b 2 2 w0 rfl hx hy(by decide) W0 N0 S0;simp only[aq] at c1;clear HW hr ho hkb;go_wp2_with fail;refine(c1 _).mono ?_;rintro z w1⟨rfl,W1,K1⟩;have HZ:Hid(bX w wb bv W(.returned(.int .i64 2)) w1):=cW HC.out W1(KW0.trans K1);clear c1 W1 K1 HC p0 p1 p2 p3 p4 pf S0 W0 N0 E0 B0 KW0;go_wp2;exact bodyPost_ret(v:=.int .i64 2)(by simp[results,Tryz.results100,go_sem]) rfl HZ.out
 ·have hl:f.len=2:=by simp[aR,dU,eB] at hkb;omega
  obtain⟨x,y,rfl⟩:=fI hl;have hx:=hr.kids(by decide) .nil(Fs.ex y .nil) x rfl;have hy:=hr.kids(by decide)(Fs.ex x .nil) .nil y rfl;have HC:Hid(W=dz(bf(bf none 2 x b) 2 y b) 2):=HW.out.trans(eM 2 2(by decide)(by decide) rfl rfl(by decide) rfl);obtain⟨p0,p1,p2,p3,p4,pf⟩:=am E0;have c1:=fun k=>dQ IH⟨k,n,nm,a,Fs.ex x(Fs.ex y .nil)⟩ x y ao cap wb bv b 2 2 w0 rfl hx hy(by decide) W0 N0 S0;simp only[aq] at c1;clear HW hr ho hkb;go_wp2_with fail;refine(c1 _).mono ?_;rintro z w1⟨rfl,W1,K1⟩;have HZ:Hid(bX w wb bv W(.returned(.int .i64 2)) w1):=cW HC.out W1(KW0.trans K1);clear c1 W1 K1 HC p0 p1 p2 p3 p4 pf S0 W0 N0 E0 B0 KW0;go_wp2;exact bodyPost_ret(v:=.int .i64 2)(by simp[results,Tryz.results100,go_sem]) rfl HZ.out
 ·have hl:f.len=3:=by simp[aR] at hkb;omega
  obtain⟨x,y,u,rfl⟩:=Bg hl;have hx:=hr.kids(by decide) .nil(Fs.ex y(Fs.ex u .nil)) x rfl;have hy:=hr.kids(by decide)(Fs.ex x .nil)(Fs.ex u .nil) y rfl;have hu:=hr.kids(by decide)(Fs.ex x(Fs.ex y .nil)) .nil u rfl;have HC:Hid(W=(match bf none 2 x b with|some e=>.inl e|none=>match bK y b with | .inl e=>.inl e | .inr k1=>dz(bf none k1 u b) k1)):=HW.out.trans lQ;have hpos:=iY N y b;have hys:=hy.sz;have hyo:=hy.ok;obtain⟨p0,p1,p2,p3,p4,pf⟩:=am E0;obtain⟨kb,off,ak,ck,hao,x0,x1,x2,x3,x4,SK⟩:=Sl.kidP(x:=.nil)(r:=Fs.ex y(Fs.ex u .nil))(y:=x) S0 0 rfl;subst hao;simp only[Nat.zero_mul,Nat.add_zero] at x0 x1 x2 x3 x4;have hlen:(Fs.ex x(Fs.ex y(Fs.ex u .nil))).len=3:=rfl;have c1:=eQ IH x ak ck wb bv b 2 none w0 hx(fun _=>by decide) W0(fun _=>N0) SK;rw[aq] at c1;clear HW hr ho hkb;simp only[hlen] at p3 E0 ⊢;go_wp2_with fail;refine c1.mono ?_;rintro z w1⟨rfl,W1,K1⟩;have E1:=(K1.block _(lt_of_block E0)(Ne.symm hwbx)).trans E0;have S1:=Sl.keepF S0 K1;have N1:=N0.keep K1;have KW1:=KW0.trans K1;clear c1 p0 p1 p2 p3 p4 pf x0 x1 x2 x3 x4 SK S0 W0 N0 E0 B0 KW0 K1;obtain⟨p0,p1,p2,p3,p4,pf⟩:=am E1;obtain⟨q0,q1,q2,qf⟩:=it W1.blk;cases hmx:bf none 2 x b with
  | some z =>
   rw[hmx] at W1 q1 q2;have hz:=W1.ok z rfl;obtain⟨er,pa⟩:=z;simp only[erO,plO] at q1 q2 hz;have hne:((er:Int) != 0)=true:=by simp;omega
   have HZ:Hid(bX w wb bv W(.returned(.int .i64 0)) w1):=Cr(by rw[HC.out,hmx]) W1 KW1;clear HC hpos W1 KW1 N1 S1 hmx;go_wp2;exact bodyPost_ret(v:=.int .i64 0)(by simp[results,Tryz.results100,go_sem]) rfl HZ.out
  | none =>
   rw[hmx] at W1 q1 q2;simp only[erO,plO] at q1 q2;have HC1:Hid(W=(match bK y b with | .inl e=>.inl e | .inr k1=>dz(bf none k1 u b) k1)):=by show W=_;rw[HC.out,hmx]
   obtain⟨kb2,off2,ak,ck,hao,x0,x1,x2,x3,x4,SK⟩:=Sl.kidP(x:=Fs.ex x .nil)(r:=Fs.ex u .nil)(y:=y) S1 1 rfl;injection hao with hao
   injection hao with h1 h2
   subst h1;subst h2;simp only[Nat.one_mul] at x0 x1 x2 x3 x4;have c2:=IH y ak ck wb bv b w1 hy W1 N1 SK;rw[aq] at c2;clear HC hmx;go_wp2_with fail;refine c2.mono ?_;rintro z w2⟨⟨k',rfl,hk'⟩,W2,K2⟩;have E2:=(K2.block _(lt_of_block E1)(Ne.symm hwbx)).trans E1;have S2:=Sl.keepF S1 K2;have N2:=N1.keep K2;have KW2:=KW1.trans K2;clear c2 p0 p1 p2 p3 p4 pf q0 q1 q2 qf x0 x1 x2 x3 x4 SK S1 W1 N1 E1 KW1 K2;obtain⟨p0,p1,p2,p3,p4,pf⟩:=am E2;obtain⟨kb2,off2,ak,ck,hao,x0,x1,x2,x3,x4,SK⟩:=Sl.kidP(x:=Fs.ex x(Fs.ex y .nil))(r:=.nil)(y:=u) S2 2 rfl;injection hao with hao
   injection hao with h1 h2
   subst h1;subst h2;simp only[Nat.reduceMul] at x0 x1 x2 x3 x4;have hm:stS(bK y b)=none->k'≠0:=by
    intro hs;cases hc:bK y b with
    | inl z=>rw[hc] at hs;cases hs
    | inr k1 =>
     rw[hk' k1 hc];exact hpos k1 hys hyo hc
   have c3:=eQ IH u ak ck wb bv b k' _ w2 hu hm W2(fun _=>N2) SK;rw[aq] at c3;have HC2:Hid(W=dz(bf(stS(bK y b)) k' u b) k'):=by
    show W=_;rw[HC1.out];cases hc:bK y b with
    | inl z=>rfl
    | inr k1=>rw[hk' k1 hc];rfl
   clear HC1 hm hpos hk' hys hyo;go_wp2_with fail;refine c3.mono ?_;rintro z w3⟨rfl,W3,K3⟩;have HZ:Hid(bX w wb bv W(.returned(.int .i64 k')) w3):=cW HC2.out W3(KW2.trans K3);clear c3 W3 K3 HC2 p0 p1 p2 p3 p4 pf x0 x1 x2 x3 x4 SK S2 W2 N2 E2 KW2;go_wp2;exact bodyPost_ret(v:=.int .i64 k')(by simp[results,Tryz.results100,go_sem]) rfl HZ.out
 ·have hs:=hr.kids(by decide);have hlen1:=hr.len;simp only at hlen1;have HC:Hid(W=dz(eh f none b)(fS n)):=by
   rcases ho with ho|⟨-,h1,h2⟩|⟨ho,-⟩|⟨ho,-⟩
   ·omega
   ·exact HW.out.trans(yF h1 h2)
   ·omega
   ·omega
  obtain⟨p0,p1,p2,p3,p4,pf⟩:=am E0;clear HW hr ho hkb;go_upto_region 42 with fail;clear p0 p1 p2 p3 p4 pf;go_loopw [7](fun v wr=>∃(d r:Fs),Hid(f=d.app r)/\v=.int .i64(d.len:Nat)/\Wk wr wb bv(eh d none b)/\au wb w0 wr)(fun v _=>f.len-(intOf v).toNat)
  case atStart=>exact⟨.nil,f,rfl,by show _=Value.int .i64((0:Nat):Int);rfl,W0,au.refl _ _⟩
  case round =>
   obtain⟨d,r,hf,rfl,W2,K2⟩:=hrel;have hlk:f.len=d.len+r.len:=by rw[hf.out,Fs.len_app]
   have E2:=(K2.block _(lt_of_block E0)(Ne.symm hwbx)).trans E0;obtain⟨p0,p1,p2,p3,p4,pf⟩:=am E2;cases r using Fs.on with
   | nil =>
    have hl0:¬(d.len:Int)<(f.len:Int):=by simp only[Fs.len] at hlk;omega
    have hdn:f=d:=by rw[hf.out];clear hf hlk hl0 W2;exact jH d
    have c2:=oH n wr;obtain⟨gv,hgv⟩:∃gv,gv=fS n:=⟨_,rfl⟩
    rw[<-hgv] at c2;have HZ:Hid(bX w wb bv W(.returned(.int .i64 gv)) wr):=cW(by rw[HC.out,hdn,hgv]) W2(KW0.trans K2);clear HC hgv hdn hf hlk W2 K2;go_wp2_with fail;refine c2.mono ?_;rintro z w3⟨rfl,rfl⟩;clear c2;go_wp2;exact bodyPost_ret(v:=.int .i64 gv)(by simp[results,Tryz.results100,go_sem]) rfl HZ.out
   | cons kk kn km ka kks kr =>
    have hl0:(d.len:Int)<(f.len:Int):=by simp only[Fs.len] at hlk;omega
    have hl1:d.len<f.len:=by simp only[Fs.len] at hlk;omega
    have SK2:Sl wr(Nf wb)(d.app(Fs.ex⟨kk,kn,km,ka,kks⟩ kr)) ao:=by
     have:=Sl.keepF S0 K2
     rw[hf.out] at this;exact this
    obtain⟨gb,go,ak,ck,hao,x0,x1,x2,x3,x4,SKK⟩:=Sl.kidP SK2 d.len rfl;subst hao;have c1:=eQ IH⟨kk,kn,km,ka,kks⟩ ak ck wb bv b 3 _ wr(hs d kr _ hf.out)(fun _=>by decide) W2(fun _=>N0.keep K2) SKK;rw[aq] at c1;simp only at c1 x0 x1 x2 x3 x4;have hf2:Hid(f=(d.snoc⟨kk,kn,km,ka,kks⟩).app kr):=by show f=_;rw[hf.out];unfold Fs.snoc;rw[Fs.app_assoc];rfl
    have hl2:(d.len:Int)+1=((d.snoc⟨kk,kn,km,ka,kks⟩).len:Nat):=by rw[Fs.len_snoc];rfl
    clear hf hlk SK2 SKK;go_wp2_with fail;refine c1.mono ?_;rintro z w3⟨rfl,W3,K3⟩;have W4:Wk w3 wb bv(eh(d.snoc⟨kk,kn,km,ka,kks⟩) none b):=by rw[jL];exact W3
    have K4:=K2.trans K3;clear c1 W3 K3 W2 K2 p0 p1 p2 p3 p4 pf x0 x1 x2 x3 x4 E2;go_wp2;go_roundw
    case rel=>exact⟨_,kr,hf2,by rw[<-hl2],W4,K4⟩
    case measure=>simp[intOf];omega
 ·have hl:f.len=2:=by simp[aR] at hkb;omega
  obtain⟨s,x,rfl⟩:=fI hl;have hok:=hr.ok.2;have hsk:=hr.sk;have hsz:=hr.sz;have hsh:=hr.sh;have hbl:=hr.bl;simp only at hok hsk hsz hsh hbl;have hsk':(Fs.ex s(Fs.ex x .nil)).stk true:=hsk;have hoks:=mi hok;have hokx:=mi hoks.2;simp only[nZ,Fs.size] at hsz hbl;have hx:mS N x(b.length+1):=⟨by omega,hokx.1,hsk'.2.2.1,hsk'.2.2.2.1,hsh.2.2.2.2.1,hsh.2.2.2.2.2.1,by omega⟩
  have hs21:s.k≠21:=by
   intro h
   have:=hsk'.1
   rw[h] at this;cases this
  have hs:Kds N s.kids b.length:=Kds.of(by omega) hoks.1.2(by have:=hsk'.2.1;rw[show(s.k==21)=false by simpa using hs21] at this;exact this) hsh.2.2.1(by omega);have hset:(s.k=22\/s.k=23)/\s.kids.len=0\/s.k=24/\s.kids.len=1\/s.k=25:=by
   have h1:=hsk'.1;have h2:=hoks.1.1.2.2.1;unfold bm at h1;simp at h1;rcases h1 with((h1|h1)|h1)|h1<;>rw[h1] at h2<;>(simp[aR] at h2;omega)
  have hcs:bK s b=dz(eh s.kids none b) 4:=ta hset;have HC:Hid(W=dz(bf(eh s.kids none b)(cG n) x(b++[nm]))(cq n)):=by
   rcases ho with ho|⟨ho,-⟩|⟨-,h1,-⟩|⟨ho,-⟩
   ·omega
   ·omega
   ·exact HW.out.trans(vq h1 hcs)
   ·omega
  obtain⟨p0,p1,p2,p3,p4,pf⟩:=am E0;have c1:=fun k=>Bv IH⟨k,n,nm,a,Fs.ex s(Fs.ex x .nil)⟩ s x ao cap wb bv b w0 rfl hs hsh.2.1 hx W0 N0 S0;simp only[aq] at c1;obtain⟨wo,hwo⟩:∃wo,wo=cq n:=⟨_,rfl⟩
  rw[<-hwo] at c1;clear HW hr ho hkb hok hsk hsz hsh hbl hsk' hoks hokx hx hs21 hs hset hcs;go_wp2_with fail;refine(c1 _).mono ?_;rintro z w1⟨rfl,W1,K1⟩;have HZ:Hid(bX w wb bv W(.returned(.int .i64 wo)) w1):=cW(by rw[HC.out,hwo]) W1(KW0.trans K1);clear c1 W1 K1 HC p0 p1 p2 p3 p4 pf S0 W0 N0 E0 B0 KW0 hwo;go_wp2;exact bodyPost_ret(v:=.int .i64 wo)(by simp[results,Tryz.results100,go_sem]) rfl HZ.out
theorem tD:∀ N,jN N
 | 0=>fun e ao cap wb bv b w h=>absurd h.sz(Nat.not_lt_zero _)
 | N+1=>uD(tD N)
structure Wt where
 t:List UInt8
 o:Nat
 q:Nat
abbrev Ow:=Option Wt
def aM (x:List UInt8):Ow->Ow
 | none=>none
 | some s=>if 2000<s.t.length+x.length then none else some⟨s.t++x,s.o,s.q⟩
def aU:Ow->Ow
 | none=>none
 | some s=>if 64<s.o+1 then none else some⟨s.t,s.o+1,s.q⟩
def dN:Ow->Ow
 | none=>none
 | some s=>some⟨s.t,s.o-1,s.q⟩
def fW:Ow->Ow
 | none=>none
 | some s=>if 4<s.q+1 then none else some⟨s.t,s.o,s.q+1⟩
def qu:Ow->Ow
 | none=>none
 | some s=>some⟨s.t,s.o,s.q-1⟩
def dh (s:St):Ow:=if pZ s then some ⟨s.t,s.a,s.b⟩ else none
theorem mw (s:St):pZ s=true ↔ s.t.length<=2000/\s.m<=64/\s.n<=4:=by
 unfold pZ;simp only[Bool.not_eq_true',Bool.or_eq_false_iff,decide_eq_false_iff_not];omega
theorem dr {s:St}(h:s.t.length<=2000/\s.m<=64/\s.n<=4):dh s=some ⟨s.t,s.a,s.b⟩:=by unfold dh;rw[if_pos ((mw s).2 h)]
theorem cN {s:St}(h:¬(s.t.length<=2000/\s.m<=64/\s.n<=4)):dh s=none:=by unfold dh;rw[if_neg (fun e=>h ((mw s).1 e))]
theorem bM (x:List UInt8)(s:St):aM x (dh s)=dh (s.lay x):=by
 by_cases h:s.t.length<=2000/\s.m<=64/\s.n<=4
 ·rw[dr h];by_cases h2:2000<s.t.length+x.length
  ·rw[cN(s:=s.lay x)(by simp only[St.lay,List.length_append];omega)];simp[aM,h2]
  ·rw[dr(s:=s.lay x)(by simp only[St.lay,List.length_append];omega)];simp[aM,h2,St.lay]
 ·rw[cN h,cN(s:=s.lay x)(by simp only[St.lay,List.length_append];omega)];rfl
theorem cK (s:St):aU (dh s)=dh s.ent:=by
 by_cases h:s.t.length<=2000/\s.m<=64/\s.n<=4
 ·rw[dr h];by_cases h2:64<s.a+1
  ·rw[cN(s:=s.ent)(by simp only[St.ent];omega)];simp[aU,h2]
  ·rw[dr(s:=s.ent)(by simp only[St.ent];omega)];simp[aU,h2,St.ent]
 ·rw[cN h,cN(s:=s.ent)(by simp only[St.ent];omega)];rfl
theorem fi (s:St):dN (dh s)=dh s.lea:=by
 by_cases h:s.t.length<=2000/\s.m<=64/\s.n<=4
 ·rw[dr h,dr(s:=s.lea) h];rfl
 ·rw[cN h,cN(s:=s.lea) h];rfl
theorem tF (s:St):fW (dh s)=dh s.qent:=by
 by_cases h:s.t.length<=2000/\s.m<=64/\s.n<=4
 ·rw[dr h];by_cases h2:4<s.b+1
  ·rw[cN(s:=s.qent)(by simp only[St.qent];omega)];simp[fW,h2]
  ·rw[dr(s:=s.qent)(by simp only[St.qent];omega)];simp[fW,h2,St.qent]
 ·rw[cN h,cN(s:=s.qent)(by simp only[St.qent];omega)];rfl
theorem zO (s:St):qu (dh s)=dh s.qlea:=by
 by_cases h:s.t.length<=2000/\s.m<=64/\s.n<=4
 ·rw[dr h,dr(s:=s.qlea) h];rfl
 ·rw[cN h,cN(s:=s.qlea) h];rfl
def eE (k n:Int)(nm:List UInt8)(K:Sep->Ow->Ow)(s:Ow):Ow :=
 if k=1 then aM(Go.Lib.itoa n) s
 else if k=2 then aM(Go.Lib.formatBool(n==1)) s
 else if k=3 then aM([64]++Go.Lib.itoa n) s
 else if k=4\/k=23 then aM nm s
 else if k=22 then aM [118,101,114,116,105,99,101,115] s
 else K(opS k) s
def ge (x y:List UInt8)(K:Sep->Ow->Ow)(s:Ow):Ow:=aM y (dN (K eT (aM x (aU s))))
def bi (k n:Int)(nm:List UInt8)(K:Sep->Ow->Ow)(s:Ow):Ow :=
 if k=7 then dN(K(fun _=>([110,111,116,32],3))(aU s))
 else if k=6 then dN(K(fun _=>([45],7))(aU s))
 else if k=19 then dN(K ifS(aU s))
 else if k=21 then qu(dN(K(quS n nm)(aU(fW s))))
 else if k=20 then ge [40] [41] K(aM(gq n) s)
 else if k=24 then ge [40] [41] K(aM [97,114,111,117,110,100] s)
 else if k=25 then ge [123] [125] K s
 else eE k n nm K s
def iy (k n:Int)(nm:List UInt8)(len:Nat)(set:Bool)(K:Sep->Ow->Ow)(s:Ow):Ow :=
 if(bS k n&&cu k nm&&aR k n len&&(bm k==set))=true then bi k n nm K s else none
def oE (k n:Int)(nm:List UInt8)(len:Nat)(set:Bool)(asked:Nat)(K:Sep->Ow->Ow)(s:Ow):Ow :=
 if dd k<asked then aM [41](dN(iy k n nm len false K(aM [40](aU s)))) else iy k n nm len set K s
def oFs:Fs->Bool->Sep->Nat->Ow->Ow
 | ⟨none⟩,_,_,_,s=>s
 | ⟨some⟨k,n,nm,a,ks,r⟩⟩,first,f,i,s=>oFs r false f(i+1)(oE k n nm ks.len first(f i).2(fun g s=>oFs ks(k==21) g 0 s)(aM(f i).1 s))
def oEx (e:Ex)(set:Bool)(s:Ow):Ow:=iy e.k e.n e.nm e.kids.len set (fun g s=>oFs e.kids (e.k==21) g 0 s) s
def okS:Fs->Bool->Bool
 | ⟨none⟩,_=>true
 | ⟨some⟨k,n,nm,a,ks,r⟩⟩,first=>(bS k n&&cu k nm&&aR k n ks.len&&(bm k==first))&&okS ks(k==21)&&okS r false
theorem zh (s:St)(x y:List UInt8):(s.lay x).lay y=s.lay (x++y):=by simp[St.lay]
theorem mg {k n:Int}{m:Nat}(h:aR k n m=true)(hk:k=1\/k=2\/k=3\/k=4\/k=22\/k=23):m=0:=by
 unfold aR at h;rcases hk with rfl|rfl|rfl|rfl|rfl|rfl<;>simpa using h
theorem kV (s:St)(x:List UInt8):s.lea.lay x=(s.lay x).lea:=rfl
theorem p9 {k n:Int}{nm:List UInt8}{K:Sep->St->St}{K':Sep->Ow->Ow}(hK:∀ g s,(k=21->(g 0).2=0)->K' g (dh s)=dh (K g s))(s:St):bi k n nm K' (dh s)=dh (ke k n nm K s):=by
 unfold bi ke;by_cases h7:k=7
 ·simp only[h7,if_true];rw[cK,hK _ _(by omega),fi]
 ·by_cases h6:k=6
  ·simp only[h7,h6,if_true,if_false];rw[if_neg(by omega),if_neg(by omega),cK,hK _ _(by omega),fi]
  ·by_cases h19:k=19
   ·rw[if_neg h7,if_neg h6,if_pos h19,if_neg h7,if_neg h6,if_pos h19,cK,hK _ _(by omega),fi]
   ·by_cases h21:k=21
    ·rw[if_neg h7,if_neg h6,if_neg h19,if_pos h21,if_neg h7,if_neg h6,if_neg h19,if_pos h21,tF,cK,hK _ _(fun _=>rfl),fi,zO];rfl
    ·rw[if_neg h7,if_neg h6,if_neg h19,if_neg h21,if_neg h7,if_neg h6,if_neg h19,if_neg h21];by_cases h20:k=20
     ·rw[if_pos h20,if_pos h20];unfold ge ko;rw[bM,cK,bM,hK _ _(by omega),fi,bM,kV]
     ·rw[if_neg h20,if_neg h20];by_cases h24:k=24
      ·rw[if_pos h24,if_pos h24];unfold ge ko;rw[bM,cK,bM,hK _ _(by omega),fi,bM,kV]
      ·rw[if_neg h24,if_neg h24];by_cases h25:k=25
       ·rw[if_pos h25,if_pos h25];unfold ge ko;rw[cK,bM,hK _ _(by omega),fi,bM,kV]
       ·rw[if_neg h25,if_neg h25];unfold eE ru;by_cases h1:k=1
        ·rw[if_pos h1,if_pos h1,bM]
        ·rw[if_neg h1,if_neg h1];by_cases h2:k=2
         ·rw[if_pos h2,if_pos h2,bM]
         ·rw[if_neg h2,if_neg h2];by_cases h3:k=3
          ·rw[if_pos h3,if_pos h3,bM,zh]
          ·rw[if_neg h3,if_neg h3];by_cases h4:k=4\/k=23
           ·rw[if_pos h4,if_pos h4,bM]
           ·rw[if_neg h4,if_neg h4];by_cases h22:k=22
            ·rw[if_pos h22,if_pos h22,bM]
            ·rw[if_neg h22,if_neg h22,hK _ _(by omega)]
theorem m7 {k n:Int}{nm:List UInt8}{K':Sep->Ow->Ow}(hK:∀ g s,(k=21->(g 0).2=0)->K' g (dh s)=none)(hk:¬(k=1\/k=2\/k=3\/k=4\/k=22\/k=23))(s:St):bi k n nm K' (dh s)=none:=by
 unfold bi;by_cases h7:k=7
 ·rw[if_pos h7,cK,hK _ _(by omega)];rfl
 ·by_cases h6:k=6
  ·rw[if_neg h7,if_pos h6,cK,hK _ _(by omega)];rfl
  ·by_cases h19:k=19
   ·rw[if_neg h7,if_neg h6,if_pos h19,cK,hK _ _(by omega)];rfl
   ·by_cases h21:k=21
    ·rw[if_neg h7,if_neg h6,if_neg h19,if_pos h21,tF,cK,hK _ _(fun _=>rfl)];rfl
    ·rw[if_neg h7,if_neg h6,if_neg h19,if_neg h21];by_cases h20:k=20
     ·rw[if_pos h20];unfold ge;rw[bM,cK,bM,hK _ _(by omega)];rfl
     ·rw[if_neg h20];by_cases h24:k=24
      ·rw[if_pos h24];unfold ge;rw[bM,cK,bM,hK _ _(by omega)];rfl
      ·rw[if_neg h24];by_cases h25:k=25
       ·rw[if_pos h25];unfold ge;rw[cK,bM,hK _ _(by omega)];rfl
       ·rw[if_neg h25];unfold eE;rw[if_neg(by omega),if_neg(by omega),if_neg(by omega),if_neg(by omega),if_neg(by omega),hK _ _(by omega)]
theorem np {k n:Int}{nm:List UInt8}{K:Sep->Ow->Ow}(hK:∀ g,K g none=none):bi k n nm K none=none:=by
 simp only[bi,ge,eE,aU,aM,fW,hK,dN,qu];simp only[ite_self]
theorem BS {k n:Int}{nm:List UInt8}{len asked:Nat}{set:Bool}{K:Sep->Ow->Ow}(hK:∀ g,K g none=none):oE k n nm len set asked K none=none:=by
 have h:∀ b,iy k n nm len b K none=none:=fun b=>by unfold iy;rw[np hK,ite_self]
 unfold oE;rw[h];simp only[aU,aM,h,dN,ite_self]
theorem jb:∀ (f:Fs) (b:Bool) (g:Sep) (i:Nat),oFs f b g i none=none
 | ⟨none⟩,b,g,i=>rfl
 | ⟨some⟨k,n,nm,a,ks,r⟩⟩,b,g,i=>by
  simp only[oFs,aM];rw[BS(fun g=>jb ks(k==21) g 0)];exact jb r false g(i+1)
theorem EC {k:Int}(h:bm k=true):dd k=8:=by
 unfold bm at h;simp only[Bool.or_eq_true,beq_iff_eq] at h;rcases h with((rfl|rfl)|rfl)|rfl<;>rfl
theorem mB:∀ (f:Fs) (first:Bool) (g:Sep) (i:Nat) (s:St),(first=true->(g i).2=0)->oFs f first g i (dh s)=bif okS f first then dh (wFs f g i s) else none
 | ⟨none⟩,first,g,i,s,h=>by simp only[oFs,okS,wFs,cond_true]
 | ⟨some⟨k,n,nm,a,ks,r⟩⟩,first,g,i,s,h=>by
  simp only[oFs,okS,wFs];rw[bM];have IHr:=fun s=>mB r false g(i+1) s(fun e=>by cases e);have part:∀ (set:Bool)(s:St),iy k n nm ks.len set(fun g s=>oFs ks(k==21) g 0 s)(dh s)=if((bS k n&&cu k nm&&aR k n ks.len&&(bm k==set))&&okS ks(k==21))=true then dh(ke k n nm(fun g s=>wFs ks g 0 s) s) else none:=fun set s=>by
   unfold iy;by_cases hv:(bS k n&&cu k nm&&aR k n ks.len&&(bm k==set))=true
   ·rw[if_pos hv];by_cases ho:okS ks(k==21)=true
    ·rw[if_pos(by rw[hv,ho];rfl)];exact p9(fun g s hg=>by
      show oFs ks(k==21) g 0(dh s)=_;rw[mB ks(k==21) g 0 s(fun e=>hg(by simpa using e)),ho,cond_true]) s
    ·rw[if_neg(by intro e;simp only[Bool.and_eq_true] at e;exact ho e.2)];refine m7(fun g s hg=>?_) ?_ s
     ·show oFs ks(k==21) g 0(dh s)=_;rw[mB ks(k==21) g 0 s(fun e=>hg(by simpa using e)),show okS ks(k==21)=false by simpa using ho,cond_false]
     ·intro hk;have hkid:aR k n ks.len=true:=by simp only[Bool.and_eq_true] at hv;exact hv.1.2
      have hl:=mg hkid hk;cases ks using Fs.on with
      | nil=>exact ho(by simp only[okS])
      | cons _ _ _ _ _ _=>simp[Fs.len] at hl
   ·rw[if_neg hv,if_neg(by intro e;simp only[Bool.and_eq_true] at e hv;exact hv e.1)]
  by_cases hv:((bS k n&&cu k nm&&aR k n ks.len&&(bm k==first))&&okS ks(k==21))=true
  ·have e1:oE k n nm ks.len first(g i).2(fun g s=>oFs ks(k==21) g 0 s)(dh(s.lay(g i).1))=dh(wE k n nm(g i).2(fun g s=>wFs ks g 0 s)(s.lay(g i).1)):=by
    unfold oE wE;by_cases hr:dd k<(g i).2
    ·have hf:first=false:=by
      cases first with
      | false=>rfl
      | true=>have:=h rfl;omega
     subst hf;rw[if_pos hr,if_pos hr,cK,bM,part,if_pos hv,fi,bM,kV]
    ·rw[if_neg hr,if_neg hr,part,if_pos hv]
   rw[e1,IHr,hv,Bool.true_and]
  ·rw[show((bS k n&&cu k nm&&aR k n ks.len&&(bm k==first))&&okS ks(k==21))=false from Bool.eq_false_iff.2 hv,Bool.false_and,cond_false];have e1:oE k n nm ks.len first(g i).2(fun g s=>oFs ks(k==21) g 0 s)(dh(s.lay(g i).1))=none:=by
    unfold oE;by_cases hr:dd k<(g i).2
    ·have hf:first=false:=by
      cases first with
      | false=>rfl
      | true=>have:=h rfl;omega
     subst hf;rw[if_pos hr,cK,bM,part,if_neg hv];rfl
    ·rw[if_neg hr,part,if_neg hv]
   rw[e1];exact jb r false g(i+1)
theorem so {a b:Nat}(h:¬a<=b):Nat.ble a b=false:=Bool.eq_false_iff.2 fun e=>h (Nat.le_of_ble_eq_true e)
theorem rG:∀ (f:Fs) (first:Bool) (c:Nat),c<=2000->hFs f first c=bif okS f first&&Nat.ble (c+f.size) 2000 then some (c+f.size) else none
 | ⟨none⟩,first,c,hc=>by
  have h1:Nat.ble c 2000=true:=Nat.ble_eq_true_of_le hc;simp only[hFs,okS,Fs.size,Nat.add_zero,h1,Bool.true_and,cond_true]
 | ⟨some⟨k,n,nm,a,ks,r⟩⟩,first,c,hc=>by
  simp only[hFs,okS,Fs.size];by_cases hs:bm k=first
  ·rw[if_neg(by simp[hs])];by_cases h1:2000<c+1
   ·rw[if_pos h1,so(show ¬c+(ks.size+r.size+1)<=2000 by omega),Bool.and_false,cond_false]
   ·rw[if_neg h1];by_cases hv:(bS k n&&cu k nm&&aR k n ks.len)=true
    ·rw[if_pos hv,rG ks(k==21)(c+1)(by omega),show(bm k==first)=true by simp[hs],hv,Bool.true_and,Bool.true_and];by_cases ho:okS ks(k==21)=true
     ·rw[ho,Bool.true_and,Bool.true_and];by_cases h2:c+1+ks.size<=2000
      ·rw[Nat.ble_eq_true_of_le h2,cond_true];simp only;rw[rG r false(c+1+ks.size) h2,show c+(ks.size+r.size+1)=c+1+ks.size+r.size by omega]
      ·rw[so h2,cond_false,so(show ¬c+(ks.size+r.size+1)<=2000 by omega),Bool.and_false,cond_false]
     ·rw[show okS ks(k==21)=false by simpa using ho];simp
    ·rw[if_neg hv,show(bS k n&&cu k nm&&aR k n ks.len)=false by simpa using hv];simp
  ·rw[if_pos(by simpa using hs),show(bm k==first)=false by simpa using hs];simp
def mF:Fs->Sep->Nat->Nat
 | ⟨none⟩,_,_=>0
 | ⟨some⟨_,_,_,_,_,r⟩⟩,g,i=>(g i).1.length+mF r g(i+1)
theorem jA {f:Fs}{g:Sep}{i:Nat}(h:0<f.len):(g i).1.length<=mF f g i:=by
 cases f using Fs.on with
 | nil=>simp[Fs.len] at h
 | cons k n nm a ks r=>simp only[mF];omega
theorem zq {f:Fs}{g:Sep}{i:Nat}(h:1<f.len):(g (i+1)).1.length<=mF f g i:=by
 cases f using Fs.on with
 | nil=>simp[Fs.len] at h
 | cons k n nm a ks r =>
  have h2:0<r.len:=by simp only[Fs.len] at h;omega
  have:=jA(g:=g)(i:=i+1) h2
  simp only[mF];omega
theorem wX (n:Int):0<(Go.Lib.itoa n).length:=by
 unfold Go.Lib.itoa;split
 ·simp
 ·rw[Go.Lib.decDigits_length];exact Go.Lib.nDigits_pos _
theorem tR {k n:Int}{nm:List UInt8}{f:Fs}{K:Sep->St->St}(hv:(bS k n&&cu k nm&&aR k n f.len)=true)(hK:∀ g s,s.t.length+f.size+mF f g 0<=(K g s).t.length)(s:St):s.t.length+f.size+1<=(ke k n nm K s).t.length:=by
 simp only[Bool.and_eq_true] at hv;obtain⟨⟨hn,hm⟩,hk⟩:=hv;have leaf:(k=1\/k=2\/k=3\/k=4\/k=22\/k=23)->f.size=0:=fun h=>by
  have:=mg hk h
  cases f using Fs.on with
  | nil=>rfl
  | cons _ _ _ _ _ _=>simp[Fs.len] at this
 unfold ke;by_cases h7:k=7
 ·rw[if_pos h7];have hl:0<f.len:=by rw[h7] at hk;simp[aR] at hk;omega
  have h1:=hK(fun _=>([110,111,116,32],3)) s.ent;have h2:=jA(g:=fun _=>([110,111,116,32],3))(i:=0) hl;simp only[St.lea,St.ent,List.length_cons,List.length_nil] at h1 h2 ⊢;omega
 rw[if_neg h7];by_cases h6:k=6
 ·rw[if_pos h6];have hl:0<f.len:=by rw[h6] at hk;simp[aR] at hk;omega
  have h1:=hK(fun _=>([45],7)) s.ent;have h2:=jA(g:=fun _=>([45],7))(i:=0) hl;simp only[St.lea,St.ent,List.length_cons,List.length_nil] at h1 h2 ⊢;omega
 rw[if_neg h6];by_cases h19:k=19
 ·rw[if_pos h19];have hl:0<f.len:=by rw[h19] at hk;simp[aR] at hk;omega
  have h1:=hK ifS s.ent;have h2:=jA(g:=ifS)(i:=0) hl;have h3:(ifS 0).1.length=3:=rfl;simp only[St.lea,St.ent] at h1 ⊢;omega
 rw[if_neg h19];by_cases h21:k=21
 ·rw[if_pos h21];have hl:0<f.len:=by rw[h21] at hk;simp[aR] at hk;omega
  have h1:=hK(quS n nm) s.ent.qent;have h2:=jA(g:=quS n nm)(i:=0) hl;have h3:1<=(quS n nm 0).1.length:=by simp[quS];omega
  simp only[St.lea,St.ent,St.qent,St.qlea] at h1 ⊢;omega
 rw[if_neg h21];have lst:∀ (x y:List UInt8)(s':St),1<=x.length->s'.t.length+f.size+1<=(ko x y K s').t.length:=fun x y s' hx=>by
  have h1:=hK eT(s'.ent.lay x);simp only[ko,St.lea,St.lay,St.ent,List.length_append] at h1 ⊢;omega
 by_cases h20:k=20
 ·rw[if_pos h20]
  have:=lst [40] [41](s.lay(gq n))(by simp)
  simp only[St.lay,List.length_append] at this ⊢;omega
 rw[if_neg h20];by_cases h24:k=24
 ·rw[if_pos h24]
  have:=lst [40] [41](s.lay [97,114,111,117,110,100])(by simp)
  simp only[St.lay,List.length_append] at this ⊢;omega
 rw[if_neg h24];by_cases h25:k=25
 ·rw[if_pos h25];exact lst [123] [125] s(by simp)
 rw[if_neg h25];unfold ru;by_cases h1:k=1
 ·rw[if_pos h1,leaf(.inl h1)]
  have:=wX n
  simp only[St.lay,List.length_append];omega
 rw[if_neg h1];by_cases h2:k=2
 ·rw[if_pos h2,leaf(by omega)]
  have:0<(Go.Lib.formatBool(n==1)).length:=by cases(n==1)<;>decide
  simp only[St.lay,List.length_append];omega
 rw[if_neg h2];by_cases h3:k=3
 ·rw[if_pos h3,leaf(by omega)];simp only[St.lay,List.length_append,List.length_cons,List.length_nil];omega
 rw[if_neg h3];by_cases h4:k=4\/k=23
 ·rw[if_pos h4,leaf(by omega)]
  have:0<nm.length:=by
   have hm2:aX nm=true:=by
    unfold cu at hm;rw[if_pos(by simp only[Bool.or_eq_true,beq_iff_eq];omega)] at hm;exact hm
   cases nm with
   | nil=>simp[aX] at hm2
   | cons _ _=>simp
  simp only[St.lay,List.length_append];omega
 rw[if_neg h4];by_cases h22:k=22
 ·rw[if_pos h22,leaf(by omega)];simp only[St.lay,List.length_append,List.length_cons,List.length_nil];omega
 rw[if_neg h22];have hop:(dU k).isSome=true/\f.len=2:=by
  have h5:¬k=23:=fun e=>h4(.inr e);have h6':¬k=4:=fun e=>h4(.inl e);have h9:(dU k).isSome=true/\(f.len:Int)=2:=by simpa [aR,h1,h2,h3,h5,h6',h22,h6,h7,h24,h21,h19,h20,h25] using hk
  exact⟨h9.1,by omega⟩
 have h8:=hK(opS k) s;have h9:(opS k 1).1.length<=mF f(opS k) 0:=zq(i:=0)(by omega);have h10:2<=(opS k 1).1.length:=by
  unfold opS;cases ho:dU k with
  | none=>rw[ho] at hop;cases hop.1
  | some x=>simp
 omega
theorem xE:∀ (f:Fs) (first:Bool) (g:Sep) (i:Nat) (s:St),okS f first=true->s.t.length+f.size+mF f g i<=(wFs f g i s).t.length
 | ⟨none⟩,first,g,i,s,h=>by simp[Fs.size,mF,wFs]
 | ⟨some⟨k,n,nm,a,ks,r⟩⟩,first,g,i,s,h=>by
  simp only[okS,Bool.and_eq_true] at h;obtain⟨⟨⟨hv,hs⟩,hk⟩,hr⟩:=h;have h1:=fun s'=>tR(s:=s')(k:=k)(n:=n)(nm:=nm)(f:=ks)(K:=fun g s=>wFs ks g 0 s)(by simp only[Bool.and_eq_true];exact hv)(fun g s=>xE ks _ g 0 s hk);have h2:(s.lay(g i).1).t.length+ks.size+1<=(wE k n nm(g i).2(fun g s=>wFs ks g 0 s)(s.lay(g i).1)).t.length:=by
   unfold wE;split
   ·have:=h1((s.lay(g i).1).ent.lay [40])
    simp only[St.lea,St.lay,St.ent,List.length_append] at this ⊢;omega
   ·exact h1 _
  have h3:=xE r false g(i+1)(wE k n nm(g i).2(fun g s=>wFs ks g 0 s)(s.lay(g i).1)) hr;simp only[wFs,Fs.size,mF,St.lay,List.length_append] at h2 h3 ⊢;omega
def refA (e:Ex):Option (List UInt8):=(oEx e false (some ⟨[],0,0⟩)).map (·.t)
theorem CV:dh s0=some ⟨[],0,0⟩:=rfl
theorem ze (e:Ex):refA e=fx e:=by
 unfold refA fx oEx iy;rw[<-CV];by_cases hs:bm e.k=true
 ·rw[if_pos hs,if_neg(by simp[hs])];rfl
 ·have hs2:bm e.k=false:=by simpa using hs
  rw[if_neg hs];have hE1:hE e 0=if(bS e.k e.n&&cu e.k e.nm&&aR e.k e.n e.kids.len)=true then hFs e.kids(e.k==21)(0+1) else none:=by unfold hE;rw[if_neg(by omega)]
  rw[hE1];by_cases hv:(bS e.k e.n&&cu e.k e.nm&&aR e.k e.n e.kids.len)=true
  ·rw[if_pos(show(bS e.k e.n&&cu e.k e.nm&&aR e.k e.n e.kids.len&&(bm e.k==false))=true by rw[hv,hs2];rfl),if_pos hv,rG _ _ _(by omega)];have hw:wEx e 0 s0=ke e.k e.n e.nm(fun g s=>wFs e.kids g 0 s) s0:=by unfold wEx wE;rw[if_neg(by omega)]
   by_cases ho:okS e.kids(e.k==21)=true
   ·rw[p9(K:=fun g s=>wFs e.kids g 0 s)(fun g s hg=>by
     show oFs e.kids(e.k==21) g 0(dh s)=_;rw[mB e.kids(e.k==21) g 0 s(fun e=>hg(by simpa using e)),ho,cond_true]) s0,ho,Bool.true_and,<-hw]
    by_cases hr:pZ(wEx e 0 s0)=true
    ·have hlb:=tR hv(fun g s=>xE e.kids(e.k==21) g 0 s ho) s0;rw[<-hw] at hlb;have hrr:=(mw _).1 hr;have hs0:s0.t.length=0:=rfl;rw[show Nat.ble(0+1+e.kids.size) 2000=true from Nat.ble_eq_true_of_le(by omega),cond_true];simp only[dh,hr,if_true];rfl
    ·rw[show dh(wEx e 0 s0)=none from if_neg hr];cases hd:Nat.ble(0+1+e.kids.size) 2000 with
     | false=>rfl
     | true=>simp only[cond_true];rw[if_neg hr];rfl
   ·have ho2:okS e.kids(e.k==21)=false:=by simpa using ho
    rw[ho2,Bool.false_and,cond_false,m7(fun g s hg=>by
     show oFs e.kids(e.k==21) g 0(dh s)=_;rw[mB e.kids(e.k==21) g 0 s(fun e=>hg(by simpa using e)),ho2,cond_false])(fun hk=>by
      have hkid:aR e.k e.n e.kids.len=true:=by simp only[Bool.and_eq_true] at hv;exact hv.2
      have hl:=mg hkid hk;cases hke:e.kids using Fs.on with
      | nil=>rw[hke] at ho;exact ho(by simp only[okS])
      | cons _ _ _ _ _ _=>rw[hke] at hl;simp[Fs.len] at hl) s0]
    rfl
  ·rw[if_neg(show ¬(bS e.k e.n&&cu e.k e.nm&&aR e.k e.n e.kids.len&&(bm e.k==false))=true from fun h=>hv(by rw[Bool.and_eq_true] at h;exact h.1)),if_neg hv];rfl
def WR (w:World)(o:Nat->Nat)(wb:Nat)(t:List UInt8)(oo qq:Int)(ok:Bool):Prop :=
 ∃v,Blk w o 1 wb(.cells #[v,.int .i64 oo,.int .i64 qq,.bool ok] 267(0,0))/\Row w o 2 5 1 v t.length(byL t)
def WQ (w:World)(o:Nat->Nat)(wb:Nat):Ow->Prop
 | some s=>WR w o wb s.t(s.o:Nat)(s.q:Nat) true/\s.t.length<=2000/\s.o<=64/\s.q<=4
 | none=>∃t oo qq,WR w o wb t oo qq false/\t.length<=2000
theorem WR.step {I:Nat->Prop}{w w':World}{o o':Nat->Nat}{wb:Nat}{t:List UInt8}{oo qq:Int}{ok:Bool}(h:WR w o wb t oo qq ok)(s:aa I w o w' o')(h1:¬I 1)(h2:¬I 2):WR w' o' wb t oo qq ok:=by
 obtain⟨v,hb,hr⟩:=h;exact⟨v,hb.step s h1,hr.step s h2⟩
theorem WQ.step {I:Nat->Prop}{w w':World}{o o':Nat->Nat}{wb:Nat}{st:Ow}(h:WQ w o wb st)(s:aa I w o w' o')(h1:¬I 1)(h2:¬I 2):WQ w' o' wb st:=by
 match st,h with
 | some x,h=>exact⟨h.1.step s h1 h2,h.2⟩
 | none,⟨t,oo,qq,h,hl⟩=>exact⟨t,oo,qq,h.step s h1 h2,hl⟩
theorem WQ.raw {w:World}{o:Nat->Nat}{wb:Nat}{st:Ow}(h:WQ w o wb st):∃t oo qq ok,WR w o wb t oo qq ok/\t.length<=2000:=by
 match st,h with
 | some x,h=>exact⟨_,_,_,_,h.1,h.2.1⟩
 | none,⟨t,oo,qq,h,hl⟩=>exact⟨t,oo,qq,_,h,hl⟩
theorem WR.cells {w:World}{o:Nat->Nat}{wb:Nat}{t:List UInt8}{oo qq:Int}{ok:Bool}(h:WR w o wb t oo qq ok):w.cell? ⟨wb,1,none⟩=some (.int .i64 oo)/\w.cell? ⟨wb,2,none⟩=some (.int .i64 qq)/\w.cell? ⟨wb,3,none⟩=some (.bool ok)/\∀ j,w.frozen? ⟨wb,j,none⟩=false:=by
 obtain⟨v,hb,hr⟩:=h;obtain⟨c0,c1,c2,c3,cf⟩:=Blk.cells4 hb;exact⟨c1,c2,c3,cf⟩
theorem WR.set {w:World}{o:Nat->Nat}{wb:Nat}{t:List UInt8}{oo qq:Int}{ok:Bool}(h:WR w o wb t oo qq ok) :
  (∀ oo',WR(w.setCell⟨wb,1,none⟩(.int .i64 oo')) o wb t oo' qq ok)/\(∀ qq',WR(w.setCell⟨wb,2,none⟩(.int .i64 qq')) o wb t oo qq' ok)/\(∀ ok',WR(w.setCell⟨wb,3,none⟩(.bool ok')) o wb t oo qq ok'):=by
 obtain⟨v,hb,hr⟩:=h;have s:∀ (j:Nat)(u:Value),aa(fun k=>k=1) w o(w.setCell⟨wb,j,none⟩ u) o:=fun j u=>bU _ w o⟨wb,j,none⟩ u hb.2;exact⟨fun oo'=>⟨v,hb.set 1 _,hr.step(s 1 _)(by decide)⟩,fun qq'=>⟨v,hb.set 2 _,hr.step(s 2 _)(by decide)⟩,fun ok'=>⟨v,hb.set 3 _,hr.step(s 3 _)(by decide)⟩⟩
theorem WR.setS {w:World}{o:Nat->Nat}{wb:Nat}{t:List UInt8}{oo qq:Int}{ok:Bool}(h:WR w o wb t oo qq ok)(j:Nat)(u:Value):aa I12 w o (w.setCell ⟨wb,j,none⟩ u) o:=by
 obtain⟨v,hb,hr⟩:=h;exact bU _ w o⟨wb,j,none⟩ u(.inl hb.2)
def CW (w:World)(o:Nat->Nat)(wb:Nat)(t s:List UInt8)(oo qq:Int)(ok:Bool)(e:Ending)(w':World):Prop :=
 e=.returned(.tuple #[])/\∃o',aa I12 w o w' o'/\((2000<t.length+s.length/\WR w' o' wb t oo qq false)\/(t.length+s.length<=2000/\WR w' o' wb(t++s) oo qq ok))
theorem qi {w:World}{o:Nat->Nat}{wb:Nat}{t:List UInt8}{oo qq:Int}{ok:Bool}(s:List UInt8)(h:WR w o wb t oo qq ok)(ht:t.length<=2000)(hs:s.length<=1000000) :
  Calls Tryz.prog 270 #[.pointer(some⟨wb,0,none⟩),stv s] w(CW w o wb t s oo qq ok):=by
 have hset:=h.set.2.2 false;have hst:=h.setS 3(.bool false);obtain⟨v,hb,hr⟩:=h;obtain⟨c0,c1,c2,c3,cf⟩:=Blk.cells4 hb;obtain⟨ao,cap,rfl⟩:=hr.form;have hsz:=fF s;by_cases hl:2000<t.length+s.length
 ·have hlI:(2000:Int)<(t.length:Int)+(s.length:Int):=by omega
  have FIN:Hid(∀ wx,wx=w.setCell⟨wb,3,none⟩(.bool false)->CW w o wb t s oo qq ok(.returned(.tuple #[])) wx):=fun wx e=>by subst e;exact⟨rfl,o,hst,.inl⟨hl,hset⟩⟩
  clear hset hst hb hr;go_enter Tryz.func270,Tryz.ntmps270;go_wp2
  (try simp only[Exit.inBlock,Exit.then])
  refine bodyPost_ret(results_none rfl _ _ _) rfl ?_;exact FIN.out _ rfl
 ·have hlI:¬(2000:Int)<(t.length:Int)+(s.length:Int):=by omega
  obtain⟨ii,hii,hz0,hz1,hz2⟩:=aH Dr;clear hset hst;go_enter Tryz.func270,Tryz.ntmps270;go_wp2_with(first|(at_builtin;refine jB rfl(.tmp 20)(.tmp 21) 180 9 rfl 5 ii Tryz.underlying180 Tryz.underlying9 hii hz0 hz1 hz2 o 2 _ t.length(byL t) rfl hr⟨s.toArray⟩ rfl ?c1 ?c2 ?_)|go_in)
  case c1=>unfold maxLen;omega
  case c2=>omega
  intro v' w' o' hr' hst;obtain⟨ao',cap',rfl⟩:=hr'.form;have hb':=hb.step hst(by decide);obtain⟨d0,d1,d2,d3,df⟩:=Blk.cells4 hb';have hb2:=hb'.set 0(.slice ao'(t.length+s.length) cap');have s2:aa I12 w' o'(w'.setCell⟨wb,0,none⟩(.slice ao'(t.length+s.length) cap')) o':=bU I12 w' o'⟨wb,0,none⟩(.slice ao'(t.length+s.length) cap')(.inl hb'.2);have s3:=(hst.mono(fun k hk=>(.inr hk:I12 k))).trans s2;have s4:aa(fun k=>k=1) w' o'(w'.setCell⟨wb,0,none⟩(.slice ao'(t.length+s.length) cap')) o':=bU _ w' o'⟨wb,0,none⟩(.slice ao'(t.length+s.length) cap') hb'.2;have hr2:=hr'.step s4(by decide);rw[Bt] at hr2;have hr3:Row(w'.setCell⟨wb,0,none⟩(.slice ao'(t.length+s.length) cap')) o' 2 5 1(.slice ao'(t.length+s.length) cap')(t++s).length(byL(t++s)):=by
   rw[List.length_append];exact hr2
  have FIN:Hid(∀ wx,wx=w'.setCell⟨wb,0,none⟩(.slice ao'(t.length+s.length) cap')->CW w o wb t s oo qq ok(.returned(.tuple #[])) wx):=fun wx e=>by subst e;exact⟨rfl,o',s3,.inr⟨by omega,_,hb2,hr3⟩⟩
  clear hr2 hst s2 s4 hr' hb hr c0 c1 c2 c3 cf hb2 hr3 s3 hb';go_wp2
  go_end0
  exact FIN.out _ rfl
def eP (w:World)(o:Nat->Nat)(wb:Nat)(st:Ow)(e:Ending)(w':World):Prop:=e=.returned (.tuple #[])/\∃o',WQ w' o' wb st/\aa I12 w o w' o'
theorem cF {w:World}{o:Nat->Nat}{wb:Nat}{st:Ow}(s:List UInt8)(h:WQ w o wb st)(hs:s.length<=1000000) :
  Calls Tryz.prog 270 #[.pointer(some⟨wb,0,none⟩),stv s] w(eP w o wb(aM s st)):=by
 match st,h with
 | some x,h =>
  refine(qi s h.1 h.2.1 hs).mono ?_;rintro e w'⟨rfl,o',st',hh⟩;refine⟨rfl,o',?_,st'⟩;rcases hh with⟨hl,hw⟩|⟨hl,hw⟩
  ·rw[show aM s(some x)=none by simp[aM,hl]];exact⟨_,_,_,hw,h.2.1⟩
  ·rw[show aM s(some x)=some⟨x.t++s,x.o,x.q⟩ by simp[aM];omega];exact⟨hw,by simp only[List.length_append];exact hl,h.2.2⟩
 | none,⟨t,oo,qq,h,hl⟩ =>
  refine(qi s h hl hs).mono ?_;rintro e w'⟨rfl,o',st',hh⟩;refine⟨rfl,o',?_,st'⟩;rcases hh with⟨hl2,hw⟩|⟨hl2,hw⟩
  ·exact⟨_,_,_,hw,hl⟩
  ·exact⟨_,_,_,hw,by simp only[List.length_append];exact hl2⟩
theorem WQ.ent {w:World}{o:Nat->Nat}{wb:Nat}{st:Ow}(h:WQ w o wb st):∃oo:Int,w.cell? ⟨wb,1,none⟩=some (.int .i64 oo)/\(∀ j,w.frozen? ⟨wb,j,none⟩=false)/\aa I12 w o (w.setCell ⟨wb,1,none⟩ (.int .i64 (wrap64 (oo+1)))) o /\
  ((64<wrap64(oo+1)/\WQ((w.setCell⟨wb,1,none⟩(.int .i64(wrap64(oo+1)))).setCell⟨wb,3,none⟩(.bool false)) o wb(aU st))\/(¬64<wrap64(oo+1)/\WQ(w.setCell⟨wb,1,none⟩(.int .i64(wrap64(oo+1)))) o wb(aU st))):=by
 match st,h with
 | some x,h =>
  obtain⟨c1,c2,c3,cf⟩:=h.1.cells;refine⟨_,c1,cf,h.1.setS 1 _,?_⟩;have e:wrap64((x.o:Nat)+1)=((x.o+1:Nat):Int):=by have:=h.2.2.1;unfold wrap64;omega
  have hw:=h.1.set.1(wrap64((x.o:Nat)+1));by_cases hl:64<x.o+1
  ·refine .inl⟨by rw[e];omega,?_⟩;rw[show aU(some x)=none by simp[aU,hl]];exact⟨_,_,_,hw.set.2.2 false,h.2.1⟩
  ·refine .inr⟨by rw[e];omega,?_⟩;rw[show aU(some x)=some⟨x.t,x.o+1,x.q⟩ by simp[aU,hl]];rw[e] at hw ⊢;exact⟨hw,h.2.1,by show x.o+1<=64;omega,h.2.2.2⟩
 | none,⟨t,oo,qq,h,hl⟩ =>
  obtain⟨c1,c2,c3,cf⟩:=h.cells;refine⟨_,c1,cf,h.setS 1 _,?_⟩;have hw:=h.set.1(wrap64(oo+1));by_cases hl2:64<wrap64(oo+1)
  ·exact .inl⟨hl2,t,_,_,hw.set.2.2 false,hl⟩
  ·exact .inr⟨hl2,t,_,_,hw,hl⟩
theorem WQ.qen {w:World}{o:Nat->Nat}{wb:Nat}{st:Ow}(h:WQ w o wb st):∃oo:Int,w.cell? ⟨wb,2,none⟩=some (.int .i64 oo)/\(∀ j,w.frozen? ⟨wb,j,none⟩=false)/\aa I12 w o (w.setCell ⟨wb,2,none⟩ (.int .i64 (wrap64 (oo+1)))) o /\
  ((4<wrap64(oo+1)/\WQ((w.setCell⟨wb,2,none⟩(.int .i64(wrap64(oo+1)))).setCell⟨wb,3,none⟩(.bool false)) o wb(fW st))\/(¬4<wrap64(oo+1)/\WQ(w.setCell⟨wb,2,none⟩(.int .i64(wrap64(oo+1)))) o wb(fW st))):=by
 match st,h with
 | some x,h =>
  obtain⟨c1,c2,c3,cf⟩:=h.1.cells;refine⟨_,c2,cf,h.1.setS 2 _,?_⟩;have e:wrap64((x.q:Nat)+1)=((x.q+1:Nat):Int):=by have:=h.2.2.2;unfold wrap64;omega
  have hw:=h.1.set.2.1(wrap64((x.q:Nat)+1));by_cases hl:4<x.q+1
  ·refine .inl⟨by rw[e];omega,?_⟩;rw[show fW(some x)=none by simp[fW,hl]];exact⟨_,_,_,hw.set.2.2 false,h.2.1⟩
  ·refine .inr⟨by rw[e];omega,?_⟩;rw[show fW(some x)=some⟨x.t,x.o,x.q+1⟩ by simp[fW,hl]];rw[e] at hw ⊢;exact⟨hw,h.2.1,h.2.2.1,by show x.q+1<=4;omega⟩
 | none,⟨t,oo,qq,h,hl⟩ =>
  obtain⟨c1,c2,c3,cf⟩:=h.cells;refine⟨_,c2,cf,h.setS 2 _,?_⟩;have hw:=h.set.2.1(wrap64(qq+1));by_cases hl2:4<wrap64(qq+1)
  ·exact .inl⟨hl2,t,_,_,hw.set.2.2 false,hl⟩
  ·exact .inr⟨hl2,t,_,_,hw,hl⟩
def Bal (st st':Ow):Prop:=∀ s',st'=some s'->∃s,st=some s/\s'.o=s.o/\s'.q=s.q
theorem WQ.lea {w:World}{o:Nat->Nat}{wb:Nat}{st:Ow}(h:WQ w o wb st)(hp:∀ s,st=some s->1<=s.o):∃oo:Int,w.cell? ⟨wb,1,none⟩=some (.int .i64 oo)/\(∀ j,w.frozen? ⟨wb,j,none⟩=false)/\aa I12 w o (w.setCell ⟨wb,1,none⟩ (.int .i64 (wrap64 (oo-1)))) o/\WQ (w.setCell ⟨wb,1,none⟩ (.int .i64 (wrap64 (oo-1)))) o wb (dN st):=by
 match st,h with
 | some x,h =>
  obtain⟨c1,c2,c3,cf⟩:=h.1.cells;refine⟨_,c1,cf,h.1.setS 1 _,?_⟩;have h1:=hp x rfl;have e:wrap64((x.o:Nat)-1)=((x.o-1:Nat):Int):=by have:=h.2.2.1;unfold wrap64;omega
  rw[e];exact⟨h.1.set.1 _,h.2.1,by show x.o-1<=64;have:=h.2.2.1;omega,h.2.2.2⟩
 | none,⟨t,oo,qq,h,hl⟩ =>
  obtain⟨c1,c2,c3,cf⟩:=h.cells;exact⟨_,c1,cf,h.setS 1 _,t,_,_,h.set.1 _,hl⟩
theorem WQ.qle {w:World}{o:Nat->Nat}{wb:Nat}{st:Ow}(h:WQ w o wb st)(hp:∀ s,st=some s->1<=s.q):∃oo:Int,w.cell? ⟨wb,2,none⟩=some (.int .i64 oo)/\(∀ j,w.frozen? ⟨wb,j,none⟩=false)/\aa I12 w o (w.setCell ⟨wb,2,none⟩ (.int .i64 (wrap64 (oo-1)))) o/\WQ (w.setCell ⟨wb,2,none⟩ (.int .i64 (wrap64 (oo-1)))) o wb (qu st):=by
 match st,h with
 | some x,h =>
  obtain⟨c1,c2,c3,cf⟩:=h.1.cells;refine⟨_,c2,cf,h.1.setS 2 _,?_⟩;have h1:=hp x rfl;have e:wrap64((x.q:Nat)-1)=((x.q-1:Nat):Int):=by have:=h.2.2.2;unfold wrap64;omega
  rw[e];exact⟨h.1.set.2.1 _,h.2.1,h.2.2.1,by show x.q-1<=4;have:=h.2.2.2;omega⟩
 | none,⟨t,oo,qq,h,hl⟩ =>
  obtain⟨c1,c2,c3,cf⟩:=h.cells;exact⟨_,c2,cf,h.setS 2 _,t,_,_,h.set.2.1 _,hl⟩
theorem WQ.end {w:World}{o:Nat->Nat}{wb:Nat}{st:Ow}(h:WQ w o wb st):w.cell? ⟨wb,3,none⟩=some (.bool st.isSome)/\(∀ j,w.frozen? ⟨wb,j,none⟩=false)/\aa I12 w o (w.setCell ⟨wb,3,none⟩ (.bool false)) o/\WQ (w.setCell ⟨wb,3,none⟩ (.bool false)) o wb none:=by
 match st,h with
 | some x,h =>
  obtain⟨c1,c2,c3,cf⟩:=h.1.cells;exact⟨c3,cf,h.1.setS 3 _,_,_,_,h.1.set.2.2 false,h.2.1⟩
 | none,⟨t,oo,qq,h,hl⟩ =>
  obtain⟨c1,c2,c3,cf⟩:=h.cells;exact⟨c3,cf,h.setS 3 _,_,_,_,h.set.2.2 false,hl⟩
theorem fh {w:World}{o:Nat->Nat}{wb:Nat}{st:Ow}(s:List UInt8)(h:WQ w o wb st)(hs:s.length<=1000000) :
  Calls Tryz.prog 272 #[.pointer(some⟨wb,0,none⟩),stv s] w(eP w o wb(aM s(aU st))):=by
 obtain⟨oo,c1,cf,S1,hh⟩:=h.ent;obtain⟨w1,hw1⟩:∃w1,w1=w.setCell⟨wb,1,none⟩(.int .i64(wrap64(oo+1))):=⟨_,rfl⟩
 have d1:w1.cell?⟨wb,1,none⟩=some(.int .i64(wrap64(oo+1))):=by rw[hw1];exact World.cell?_setCell_same _ _ _ c1
 have df:∀ j,w1.frozen?⟨wb,j,none⟩=false:=fun j=>by rw[hw1];exact(World.frozen?_setCell ..).trans(cf j)
 have d3:w1.cell?⟨wb,3,none⟩=some(.bool st.isSome):=by rw[hw1];exact(World.cell?_setCell_other _ _ _ _(by simp)).trans h.end.1
 rw[<-hw1] at hh S1;obtain⟨W,hW⟩:∃W,W=aM s(aU st):=⟨_,rfl⟩
 rw[<-hW];have HW:Hid(W=aM s(aU st)):=hW;clear hW h;rcases hh with⟨hl,hq⟩|⟨hl,hq⟩
 ·have S2:aa I12 w o(w1.setCell⟨wb,3,none⟩(.bool false)) o:=by
   obtain⟨t,oo2,qq,ok,hr,_⟩:=hq.raw;refine S1.trans ?_;obtain⟨v,hb,_⟩:=hr;exact bU _ w1 o⟨wb,3,none⟩ _(.inl hb.2)
  have c2:=cF s hq hs;rw[<-HW.out] at c2;clear hq S1 HW;go_enter Tryz.func272,Tryz.ntmps272;go_upto_region 1 with fail;rw[<-hw1];clear hw1;go_upto_region 3 with fail;generalize w1.setCell⟨wb,3,none⟩(.bool false)=w2 at *;clear d1 df d3 c1 cf;go_wp2_with fail;refine c2.mono ?_;rintro e w3⟨rfl,o3,h3,s3⟩;have S3:=S2.trans s3;clear c2 S2 s3;go_wp2
  go_end0
  exact⟨rfl,o3,h3,S3⟩
 ·have c2:=cF s hq hs;rw[<-HW.out] at c2;clear hq HW;go_enter Tryz.func272,Tryz.ntmps272;go_upto_region 1 with fail;rw[<-hw1];clear hw1 c1 cf;go_wp2_with fail;refine c2.mono ?_;rintro e w3⟨rfl,o3,h3,s3⟩;have S3:=S1.trans s3;clear c2 S1 s3;go_wp2
  go_end0
  exact⟨rfl,o3,h3,S3⟩
def grt (r:Nat):Bool:=decide (65<=r)&&decide (r<=90)
theorem fg (r:Nat)(w:World)(hr:r<256) :
  Calls Tryz.prog 120 #[.int .u8(r:Nat)] w fun e w'=>e=.returned(.bool(dig r))/\w'=w:=by
 by_cases h1:48<=r
 ·have g1:(48:Int)<=(r:Int):=by omega
  by_cases h2:r<=57
  ·have g2:(r:Int)<=57:=by omega
   have e0:dig r=true:=by simp[dig,h1,h2]
   rw[e0];clear e0;go_enter Tryz.func120,Tryz.ntmps120;go_wp2;go_ret;exact⟨rfl,rfl⟩
  ·have g2:¬(r:Int)<=57:=by omega
   have g3:decide((r:Int)<=57)=false:=decide_eq_false g2;have e0:dig r=false:=by simp[dig];omega
   rw[e0];clear e0;go_enter Tryz.func120,Tryz.ntmps120;go_wp2;go_ret;exact⟨rfl,rfl⟩
 ·have g1:¬(48:Int)<=(r:Int):=by omega
  have e0:dig r=false:=by simp[dig];omega
  rw[e0];clear e0;go_enter Tryz.func120,Tryz.ntmps120;go_wp2;go_ret;exact⟨rfl,rfl⟩
theorem eZ (r:Nat)(w:World)(hr:r<256) :
  Calls Tryz.prog 123 #[.int .u8(r:Nat)] w fun e w'=>e=.returned(.bool(sml r))/\w'=w:=by
 by_cases h1:97<=r
 ·have g1:(97:Int)<=(r:Int):=by omega
  by_cases h2:r<=122
  ·have g2:(r:Int)<=122:=by omega
   have e0:sml r=true:=by simp[sml,h1,h2]
   rw[e0];clear e0;go_enter Tryz.func123,Tryz.ntmps123;go_wp2;go_ret;exact⟨rfl,rfl⟩
  ·have g2:¬(r:Int)<=122:=by omega
   have g3:decide((r:Int)<=122)=false:=decide_eq_false g2;have e0:sml r=false:=by simp[sml];omega
   rw[e0];clear e0;go_enter Tryz.func123,Tryz.ntmps123;go_wp2;go_ret;exact⟨rfl,rfl⟩
 ·have g1:¬(97:Int)<=(r:Int):=by omega
  have e0:sml r=false:=by simp[sml];omega
  rw[e0];clear e0;go_enter Tryz.func123,Tryz.ntmps123;go_wp2;go_ret;exact⟨rfl,rfl⟩
theorem mV (r:Nat)(w:World)(hr:r<256) :
  Calls Tryz.prog 124 #[.int .u8(r:Nat)] w fun e w'=>e=.returned(.bool(grt r))/\w'=w:=by
 by_cases h1:65<=r
 ·have g1:(65:Int)<=(r:Int):=by omega
  by_cases h2:r<=90
  ·have g2:(r:Int)<=90:=by omega
   have e0:grt r=true:=by simp[grt,h1,h2]
   rw[e0];clear e0;go_enter Tryz.func124,Tryz.ntmps124;go_wp2;go_ret;exact⟨rfl,rfl⟩
  ·have g2:¬(r:Int)<=90:=by omega
   have g3:decide((r:Int)<=90)=false:=decide_eq_false g2;have e0:grt r=false:=by simp[grt];omega
   rw[e0];clear e0;go_enter Tryz.func124,Tryz.ntmps124;go_wp2;go_ret;exact⟨rfl,rfl⟩
 ·have g1:¬(65:Int)<=(r:Int):=by omega
  have e0:grt r=false:=by simp[grt];omega
  rw[e0];clear e0;go_enter Tryz.func124,Tryz.ntmps124;go_wp2;go_ret;exact⟨rfl,rfl⟩
theorem BG (r:Nat)(w:World)(hr:r<256) :
  Calls Tryz.prog 62 #[.int .u8(r:Nat)] w fun e w'=>e=.returned(.bool(blk r))/\w'=w:=by
 by_cases h0:r=32
 ·subst h0;have e0:blk 32=true:=by rfl
  rw[e0];clear e0;go_enter Tryz.func62,Tryz.ntmps62;go_wp2;go_ret;exact⟨rfl,rfl⟩
 by_cases h1:r=9
 ·subst h1;clear h0;have e0:blk 9=true:=by rfl
  rw[e0];clear e0;go_enter Tryz.func62,Tryz.ntmps62;go_wp2;go_ret;exact⟨rfl,rfl⟩
 by_cases h2:r=10
 ·subst h2;clear h0;clear h1;have e0:blk 10=true:=by rfl
  rw[e0];clear e0;go_enter Tryz.func62,Tryz.ntmps62;go_wp2;go_ret;exact⟨rfl,rfl⟩
 by_cases h3:r=13
 ·subst h3;clear h0;clear h1;clear h2;have e0:blk 13=true:=by rfl
  rw[e0];clear e0;go_enter Tryz.func62,Tryz.ntmps62;go_wp2;go_ret;exact⟨rfl,rfl⟩
 have e0:blk r=false:=by simp[blk];omega
 have g0:¬(r:Int)=32:=by omega
 have g1:¬(r:Int)=9:=by omega
 have g2:¬(r:Int)=10:=by omega
 have g3:¬(r:Int)=13:=by omega
 clear h0 h1 h2 h3;rw[e0];clear e0;go_enter Tryz.func62,Tryz.ntmps62;go_wp2;go_ret;refine⟨?_,rfl⟩;simp[g0,g1,g2,g3]
abbrev rR:Array Value:=#[.string ⟨#[97,108,108]⟩,.string ⟨#[97,110,100]⟩,.string ⟨#[97,114,111,117,110,100]⟩,.string ⟨#[98,108,111,99,107]⟩,.string ⟨#[98,111,116,116,108,101,110,101,99,107]⟩,.string ⟨#[99,111,110,110,101,99,116,101,100]⟩,.string ⟨#[99,111,117,110,116]⟩,.string ⟨#[100,101,103,114,101,101]⟩,.string ⟨#[101,108,115,101]⟩,.string ⟨#[102,97,108,115,101]⟩,.string ⟨#[105,102]⟩,.string ⟨#[105,110]⟩,.string ⟨#[108,101,97,115,116]⟩,.string ⟨#[109,97,120]⟩,.string ⟨#[109,105,110]⟩,.string ⟨#[109,111,115,116]⟩,.string ⟨#[110,111,116]⟩,.string ⟨#[111,114]⟩,.string ⟨#[114,101,112]⟩,.string ⟨#[115,105,122,101]⟩,.string ⟨#[115,111,109,101]⟩,.string ⟨#[115,117,109]⟩,.string ⟨#[116,104,101,110]⟩,.string ⟨#[116,111,116,97,108]⟩,.string ⟨#[116,114,117,101]⟩,.string ⟨#[118,97,108,117,101]⟩,.string ⟨#[118,101,114,116,105,99,101,115]⟩]
theorem uL (k:Nat)(hk:k<27):rR[k]?=some (.string (wd k)):=by
 match k,hk with
 | 0,_=>rfl
 | 1,_=>rfl
 | 2,_=>rfl
 | 3,_=>rfl
 | 4,_=>rfl
 | 5,_=>rfl
 | 6,_=>rfl
 | 7,_=>rfl
 | 8,_=>rfl
 | 9,_=>rfl
 | 10,_=>rfl
 | 11,_=>rfl
 | 12,_=>rfl
 | 13,_=>rfl
 | 14,_=>rfl
 | 15,_=>rfl
 | 16,_=>rfl
 | 17,_=>rfl
 | 18,_=>rfl
 | 19,_=>rfl
 | 20,_=>rfl
 | 21,_=>rfl
 | 22,_=>rfl
 | 23,_=>rfl
 | 24,_=>rfl
 | 25,_=>rfl
 | 26,_=>rfl
 | n+27,h=>omega
theorem rk (s:ByteArray)(w:World)(hs:s.size<=maxLen) :
  Calls Tryz.prog 125 #[.string s] w fun e w'=>e=.returned(.bool(ez s.data.toList))/\Below w.heap.size w w':=by
 obtain⟨w1,hw1⟩:∃w1,w1=w.alloc(.cells rR 9):=⟨_,rfl⟩
 have hce:∀ k,k<27->w1.cell?⟨w.heap.size,k,none⟩=some(.string(wd k)):=fun k hk=>by
  rw[hw1,cell_of_row _ _ _ _ _ _(heap_alloc_new w _),uL k hk]
 have hbe:Below w.heap.size w w1:=by rw[hw1];exact b1 _ _
 have HW:Hid(w1=w.alloc(.cells rR 9)):=hw1;have HC:=Lib.hid hce;clear hw1 hce;go_enter Tryz.func125,Tryz.ntmps125;go_upto_region 2 with fail;rw[show w.alloc _=w1 from HW.out.symm];clear HW;go_wp2_with fail;go_loopw [4](fun v wr=>∃k:Nat,k<=27/\v=.int .i64(k:Nat)/\(∀ j,j<k->s≠wd j)/\wr=w1)(fun v _=>27-(intOf v).toNat)
 case atStart=>exact⟨0,by omega,by go_num,fun j hj=>by omega,rfl⟩
 case round =>
  obtain⟨k,hk,rfl,hin,rfl⟩:=hrel;by_cases hlt:k<27
  ·have ix:=HC.out k hlt;have hkI:(k:Int)<27:=by omega
   by_cases he:s=wd k
   ·have fin:ez s.data.toList=true:=nO k hlt(by rw[he];rfl);rw[<-he] at ix;clear he HC hin;go_wp2;go_ret;exact⟨by rw[fin];rfl,hbe⟩
   ·have hin':∀ j,j<k+1->s≠wd j:=fun j hj=>by
     by_cases e:j=k
     ·subst e;exact he
     ·exact hin j(by omega)
    have heb:((wd k).toList==s.toList)=false:=wF(fun e=>he e.symm);generalize wd k=t at ix he heb;clear HC hin;go_wp2;go_roundw
    case rel=>(try((repeat apply Exists.intro);refine⟨?_,rfl⟩));exact⟨k+1,by omega,by go_num,hin',by trivial⟩
    case measure=>simp[intOf];omega
  ·obtain rfl:k=27:=by omega
   clear HC;have fin:ez s.data.toList=false:=pY fun j hj e=>hin j hj(mh.1(by rw[e];rfl));go_wp2;go_ret;exact⟨by rw[fin];rfl,hbe⟩
theorem n5 (s:ByteArray)(w:World)(hs:s.size<=maxLen) :
  Calls Tryz.prog 126 #[.string s] w fun e w'=>e=.returned(.bool(aX s.data.toList))/\Below w.heap.size w w':=by
 have hs':=hs;unfold maxLen at hs;have HL:Hid(s.data.toList.length=s.size):=bR s;by_cases h0:s.size<1
 ·have fin:aX s.data.toList=false:=by rw[<-Bool.not_eq_true,dJ];rintro⟨h,_⟩;have:=HL.out;omega
  rw[fin];clear fin;have h0I:(s.size:Int)<1:=by omega
  go_enter Tryz.func126,Tryz.ntmps126;go_wp2;go_ret;exact⟨rfl,b0 _⟩
 ·have h0I:¬(s.size:Int)<1:=by omega
  by_cases h12:12<s.size
  ·have fin:aX s.data.toList=false:=by rw[<-Bool.not_eq_true,dJ];rintro⟨_,h,_⟩;have:=HL.out;omega
   rw[fin];clear fin;have h12I:(12:Int)<(s.size:Int):=by omega
   go_enter Tryz.func126,Tryz.ntmps126;go_wp2;go_ret;exact⟨rfl,b0 _⟩
  ·have h12I:¬(12:Int)<(s.size:Int):=by omega
   have hpos:0<s.size:=by omega
   have hpl:0<s.data.toList.length:=by have:=HL.out;omega
   have hb0:(s[0]'hpos).toNat<256:=UInt8.toNat_lt _;cases h1:sml(s[0]'hpos).toNat
   ·have fin:aX s.data.toList=false:=gT 0 hpl(by rw[bL s 0 hpos hpl];simp[nmc,h1]);rw[fin];clear fin;go_enter Tryz.func126,Tryz.ntmps126;go_wp2_with(go_at_call 123;refine(eZ _ _ hb0).mono ?_;rw[h1];rintro e w1⟨rfl,rfl⟩);go_ret;exact⟨rfl,b0 _⟩
   ·have H0:Hid(nmc 0 s[0]=true):=by show _=_;simp[nmc,h1]
    go_enter Tryz.func126,Tryz.ntmps126;go_wp2_with(go_at_call 123;refine(eZ _ _ hb0).mono ?_;rw[h1];rintro e w1⟨rfl,rfl⟩);go_loopw [3](fun v wr=>∃k:Nat,v=.int .i64(k:Nat)/\k<=s.size/\(∀ j(h:j<s.data.toList.length),j<k->nmc j s.data.toList[j]=true)/\wr=w1)(fun v _=>s.size-(intOf v).toNat)
    case atStart=>exact⟨0,by go_num,by omega,fun j _ h=>by omega,rfl⟩
    case round =>
     obtain⟨k,rfl,hk,hin,rfl⟩:=hrel;by_cases hlt:k<s.size
     ·have hkl:k<s.data.toList.length:=by have:=HL.out;omega
      have hkI:(k:Int)<(s.size:Int):=by omega
      have hbk:(s[k]'hlt).toNat<256:=UInt8.toNat_lt _;have hex:nmc k s.data.toList[k]=nmc k s[k]:=by rw[bL s k hlt hkl]
      have hcase:nmc k s[k]=(sml(s[k]).toNat||dig(s[k]).toNat||(s[k]).toNat==95):=by
       by_cases hk0:k=0
       ·subst hk0;rw[H0.out,h1];rfl
       ·have hb:(k != 0)=true:=by simpa using hk0
        simp[nmc,hb,Bool.or_assoc]
      have hgo:(sml(s[k]).toNat||dig(s[k]).toNat||(s[k]).toNat==95)=true->∀ j(h:j<s.data.toList.length),j<k+1->nmc j s.data.toList[j]=true:=fun hx j h hj=>by
       by_cases e:j=k
       ·subst e;rw[hex,hcase];exact hx
       ·exact hin j h(by omega)
      have hno:(sml(s[k]).toNat||dig(s[k]).toNat||(s[k]).toNat==95)=false->aX s.data.toList=false:=fun hx=>gT k hkl(by rw[hex,hcase];exact hx);have HG:Hid(((sml(s[k]).toNat||dig(s[k]).toNat||(s[k]).toNat==95)=true->∀ j(h:j<s.data.toList.length),j<k+1->nmc j s.data.toList[j]=true)/\((sml(s[k]).toNat||dig(s[k]).toNat||(s[k]).toNat==95)=false->aX s.data.toList=false)):=⟨hgo,hno⟩
      clear hex hcase hgo hno hin;cases h2:sml(s[k]'hlt).toNat
      ·cases h3:dig(s[k]'hlt).toNat
       ·by_cases h4:(s[k]'hlt).toNat=95
        ·have RL:=HG.out.1(by simp[h4]);have H4:=Lib.hid h4;clear HG h4;go_wp2_with(first|(go_at_call 123;refine(eZ _ _ hbk).mono ?_;rw[h2];rintro e w1⟨rfl,rfl⟩)|(go_at_call 120;refine(fg _ _ hbk).mono ?_;rw[h3];rintro e w1⟨rfl,rfl⟩;have h4:=H4.out;clear h2 h3 hbk));go_roundw
         case rel=>(try((repeat apply Exists.intro);refine⟨?_,rfl⟩));exact⟨k+1,by go_num,by omega,RL,by trivial⟩
         case measure=>simp[intOf];omega
        ·have fin:aX s.data.toList=false:=HG.out.2(by simp[h2,h3,h4]);have h4I:¬((s[k]'hlt).toNat:Int)=95:=by omega
         have h4b:(((s[k]'hlt).toNat:Int)==95)=false:=by simpa using h4I
         clear HG h4;go_wp2_with(first|(go_at_call 123;refine(eZ _ _ hbk).mono ?_;rw[h2];rintro e w1⟨rfl,rfl⟩)|(go_at_call 120;refine(fg _ _ hbk).mono ?_;rw[h3];rintro e w1⟨rfl,rfl⟩));go_ret;exact⟨by rw[fin];rfl,b0 _⟩
       ·have RL:=HG.out.1(by simp[h3]);clear HG;go_wp2_with(first|(go_at_call 123;refine(eZ _ _ hbk).mono ?_;rw[h2];rintro e w1⟨rfl,rfl⟩)|(go_at_call 120;refine(fg _ _ hbk).mono ?_;rw[h3];rintro e w1⟨rfl,rfl⟩));go_roundw
        case rel=>(try((repeat apply Exists.intro);refine⟨?_,rfl⟩));exact⟨k+1,by go_num,by omega,RL,by trivial⟩
        case measure=>simp[intOf];omega
      ·have RL:=HG.out.1(by simp[h2]);clear HG;go_wp2_with(go_at_call 123;refine(eZ _ _ hbk).mono ?_;rw[h2];rintro e w1⟨rfl,rfl⟩);go_roundw
       case rel=>(try((repeat apply Exists.intro);refine⟨?_,rfl⟩));exact⟨k+1,by go_num,by omega,RL,by trivial⟩
       case measure=>simp[intOf];omega
     ·obtain rfl:k=s.size:=by omega
      have fin:aX s.data.toList=!wordB s.data.toList:=by
       have hl:=HL.out;cases hw:ez s.data.toList
       ·exact(dJ _).2⟨by omega,by omega,fun j h=>hin j h(by omega),hw⟩
       ·show _=false;rw[<-Bool.not_eq_true,dJ];rintro⟨_,_,_,h⟩;rw[hw] at h;cases h
      clear hin;go_wp2_with(go_at_call 125;refine(rk s _ hs').mono ?_;rintro e w1⟨rfl,hbx⟩);go_ret;exact⟨by rw[fin];rfl,hbx⟩
theorem Eg {k:Int}(h19:k≠19)(h21:k≠21)(h18:k≠18)(h17:k≠17)(h7:k≠7)(h13:k≠13)(h14:k≠14)(h15:k≠15)(h16:k≠16)(h8:k≠8)(h9:k≠9)(h10:k≠10)(h11:k≠11)(h12:k≠12)(h6:k≠6):dd k=8:=by
 have e19:((19:Int)==k)=false:=by rw[beq_eq_false_iff_ne];exact fun e=>h19 e.symm
 have e21:((21:Int)==k)=false:=by rw[beq_eq_false_iff_ne];exact fun e=>h21 e.symm
 have e18:((18:Int)==k)=false:=by rw[beq_eq_false_iff_ne];exact fun e=>h18 e.symm
 have e17:((17:Int)==k)=false:=by rw[beq_eq_false_iff_ne];exact fun e=>h17 e.symm
 have e7:((7:Int)==k)=false:=by rw[beq_eq_false_iff_ne];exact fun e=>h7 e.symm
 have e13:((13:Int)==k)=false:=by rw[beq_eq_false_iff_ne];exact fun e=>h13 e.symm
 have e14:((14:Int)==k)=false:=by rw[beq_eq_false_iff_ne];exact fun e=>h14 e.symm
 have e15:((15:Int)==k)=false:=by rw[beq_eq_false_iff_ne];exact fun e=>h15 e.symm
 have e16:((16:Int)==k)=false:=by rw[beq_eq_false_iff_ne];exact fun e=>h16 e.symm
 have e8:((8:Int)==k)=false:=by rw[beq_eq_false_iff_ne];exact fun e=>h8 e.symm
 have e9:((9:Int)==k)=false:=by rw[beq_eq_false_iff_ne];exact fun e=>h9 e.symm
 have e10:((10:Int)==k)=false:=by rw[beq_eq_false_iff_ne];exact fun e=>h10 e.symm
 have e11:((11:Int)==k)=false:=by rw[beq_eq_false_iff_ne];exact fun e=>h11 e.symm
 have e12:((12:Int)==k)=false:=by rw[beq_eq_false_iff_ne];exact fun e=>h12 e.symm
 have e6:((6:Int)==k)=false:=by rw[beq_eq_false_iff_ne];exact fun e=>h6 e.symm
 have ho:dU k=none:=by simp[dU,eB,List.find?,e18,e17,e13,e14,e15,e16,e8,e9,e10,e11,e12]
 simp[dd,ho,bne h19,bne h21,bne h7,bne h6]
theorem BH (k:Int)(w:World) :
  Calls Tryz.prog 290 #[.int .i64 k] w fun e w'=>e=.returned(.int .i64(dd k:Nat))/\w'=w:=by
 by_cases h19:k=19
 ·subst h19;go_enter Tryz.func290,Tryz.ntmps290;go_wp2;go_ret;exact⟨rfl,rfl⟩
 have b19:(k==19)=false:=bne h19;by_cases h21:k=21
 ·subst h21;go_enter Tryz.func290,Tryz.ntmps290;go_wp2;go_ret;exact⟨rfl,rfl⟩
 have b21:(k==21)=false:=bne h21;by_cases h18:k=18
 ·subst h18;go_enter Tryz.func290,Tryz.ntmps290;go_wp2;go_ret;exact⟨rfl,rfl⟩
 have b18:(k==18)=false:=bne h18;by_cases h17:k=17
 ·subst h17;go_enter Tryz.func290,Tryz.ntmps290;go_wp2;go_ret;exact⟨rfl,rfl⟩
 have b17:(k==17)=false:=bne h17;by_cases h7:k=7
 ·subst h7;go_enter Tryz.func290,Tryz.ntmps290;go_wp2;go_ret;exact⟨rfl,rfl⟩
 have b7:(k==7)=false:=bne h7;by_cases h13:k=13
 ·subst h13;go_enter Tryz.func290,Tryz.ntmps290;go_wp2;go_ret;exact⟨rfl,rfl⟩
 have b13:(k==13)=false:=bne h13;by_cases h14:k=14
 ·subst h14;go_enter Tryz.func290,Tryz.ntmps290;go_wp2;go_ret;exact⟨rfl,rfl⟩
 have b14:(k==14)=false:=bne h14;by_cases h15:k=15
 ·subst h15;go_enter Tryz.func290,Tryz.ntmps290;go_wp2;go_ret;exact⟨rfl,rfl⟩
 have b15:(k==15)=false:=bne h15;by_cases h16:k=16
 ·subst h16;go_enter Tryz.func290,Tryz.ntmps290;go_wp2;go_ret;exact⟨rfl,rfl⟩
 have b16:(k==16)=false:=bne h16;by_cases h8:k=8
 ·subst h8;go_enter Tryz.func290,Tryz.ntmps290;go_wp2;go_ret;exact⟨rfl,rfl⟩
 have b8:(k==8)=false:=bne h8;by_cases h9:k=9
 ·subst h9;go_enter Tryz.func290,Tryz.ntmps290;go_wp2;go_ret;exact⟨rfl,rfl⟩
 have b9:(k==9)=false:=bne h9;by_cases h10:k=10
 ·subst h10;go_enter Tryz.func290,Tryz.ntmps290;go_wp2;go_ret;exact⟨rfl,rfl⟩
 have b10:(k==10)=false:=bne h10;by_cases h11:k=11
 ·subst h11;go_enter Tryz.func290,Tryz.ntmps290;go_wp2;go_ret;exact⟨rfl,rfl⟩
 have b11:(k==11)=false:=bne h11;by_cases h12:k=12
 ·subst h12;go_enter Tryz.func290,Tryz.ntmps290;go_wp2;go_ret;exact⟨rfl,rfl⟩
 have b12:(k==12)=false:=bne h12;by_cases h6:k=6
 ·subst h6;go_enter Tryz.func290,Tryz.ntmps290;go_wp2;go_ret;exact⟨rfl,rfl⟩
 have b6:(k==6)=false:=bne h6;rw[Eg h19 h21 h18 h17 h7 h13 h14 h15 h16 h8 h9 h10 h11 h12 h6];clear h19 h21 h18 h17 h7 h13 h14 h15 h16 h8 h9 h10 h11 h12 h6;go_enter Tryz.func290,Tryz.ntmps290;go_wp2;go_ret;exact⟨rfl,rfl⟩
def jj (k:Int)(i:Nat):Nat:=if dd k=3\/dd k=7 then dd k else if dd k=4 then 5 else if dd k=0\/dd k=8 then 0 else dd k+i
theorem rL (k:Int):dd k<=8:=by
 unfold dd;split
 ·omega
 ·split
  ·omega
  ·split
   ·omega
   ·split
    ·rename_i x hx
     have hm:=List.mem_of_find?_eq_some hx
     have:∀ x ∈ eB,x.2.2.1<=8:=by decide
     exact this x hm
    ·omega
theorem AS (k:Int)(i:Nat)(hi:i<=1000000000)(w:World) :
  Calls Tryz.prog 291 #[.int .i64 k,.int .i64(i:Nat)] w fun e w'=>e=.returned(.int .i64(jj k i:Nat))/\w'=w:=by
 have c1:=BH k w;have hle:=rL k;obtain⟨W,hW⟩:∃W,W=jj k i:=⟨_,rfl⟩
 rw[<-hW];unfold jj at hW;generalize dd k=r at *;by_cases h0:r=0
 ·subst h0;have hX:W=0:=by simpa using hW
  clear hW;subst hX;go_enter Tryz.func291,Tryz.ntmps291;go_wp2_with fail;refine c1.mono ?_;rintro e w1⟨rfl,rfl⟩;clear c1;go_wp2;go_ret;exact⟨rfl,rfl⟩
 by_cases h3:r=3
 ·subst h3;have hX:W=3:=by simpa using hW
  clear hW;subst hX;go_enter Tryz.func291,Tryz.ntmps291;go_wp2_with fail;refine c1.mono ?_;rintro e w1⟨rfl,rfl⟩;clear c1;go_wp2;go_ret;exact⟨rfl,rfl⟩
 by_cases h4:r=4
 ·subst h4;have hX:W=5:=by simpa using hW
  clear hW;subst hX;go_enter Tryz.func291,Tryz.ntmps291;go_wp2_with fail;refine c1.mono ?_;rintro e w1⟨rfl,rfl⟩;clear c1;go_wp2;go_ret;exact⟨rfl,rfl⟩
 by_cases h7:r=7
 ·subst h7;have hX:W=7:=by simpa using hW
  clear hW;subst hX;go_enter Tryz.func291,Tryz.ntmps291;go_wp2_with fail;refine c1.mono ?_;rintro e w1⟨rfl,rfl⟩;clear c1;go_wp2;go_ret;exact⟨rfl,rfl⟩
 by_cases h8:r=8
 ·subst h8;have hX:W=0:=by simpa using hW
  clear hW;subst hX;go_enter Tryz.func291,Tryz.ntmps291;go_wp2_with fail;refine c1.mono ?_;rintro e w1⟨rfl,rfl⟩;clear c1;go_wp2;go_ret;exact⟨rfl,rfl⟩
 have hX:W=r+i:=by simpa [h0,h3,h4,h7,h8] using hW
 clear hW;subst hX;have b0:((r:Int)==0)=false:=by rw[beq_eq_false_iff_ne];omega
 have b3:((r:Int)==3)=false:=by rw[beq_eq_false_iff_ne];omega
 have b4:((r:Int)==4)=false:=by rw[beq_eq_false_iff_ne];omega
 have b7:((r:Int)==7)=false:=by rw[beq_eq_false_iff_ne];omega
 have b8:((r:Int)==8)=false:=by rw[beq_eq_false_iff_ne];omega
 have hr:r<=8:=hle;clear h0 h3 h4 h7 h8 hle;go_enter Tryz.func291,Tryz.ntmps291;go_wp2_with fail;refine c1.mono ?_;rintro e w1⟨rfl,rfl⟩;clear c1;go_wp2;go_ret;exact⟨by rw[show((r+i:Nat):Int)=(r:Int)+(i:Int) by omega];rfl,rfl⟩
theorem qL (k:Int):bm k=decide (22<=k/\k<=25):=by
 by_cases h:22<=k/\k<=25
 ·rw[show decide(22<=k/\k<=25)=true by simpa using h];unfold bm;simp only[Bool.or_eq_true,beq_iff_eq];omega
 ·rw[show decide(22<=k/\k<=25)=false by simpa using h];rw[<-Bool.not_eq_true];unfold bm;simp only[Bool.or_eq_true,beq_iff_eq];omega
theorem Bk (k:Int)(w:World) :
  Calls Tryz.prog 269 #[.int .i64 k] w fun e w'=>e=.returned(.bool(bm k))/\w'=w:=by
 rw[qL];by_cases h1:22<=k
 ·by_cases h2:k<=25
  ·rw[show decide(22<=k/\k<=25)=true by simp;omega];go_enter Tryz.func269,Tryz.ntmps269;go_wp2;go_ret;exact⟨by simp[h2],rfl⟩
  ·rw[show decide(22<=k/\k<=25)=false by simp;omega];go_enter Tryz.func269,Tryz.ntmps269;go_wp2;go_ret;exact⟨by simp[h2],rfl⟩
 ·rw[show decide(22<=k/\k<=25)=false by simp;omega];go_enter Tryz.func269,Tryz.ntmps269;go_wp2;go_ret;exact⟨rfl,rfl⟩
def cQ (k n:Int):Int :=
 if k=1\/k=2\/k=3\/k=4\/k=22\/k=23 then 0 else if k=6\/k=7\/k=24 then 1 else if k=8\/k=9\/k=10\/k=11\/k=12\/k=13\/k=14\/k=15\/k=16\/k=17\/k=18\/k=21 then 2 else if k=19 then 3 else if k=25 then -1 else if k=20 then(if 1<=n/\n<=3 then 2 else 1) else -2
theorem Ck (k n:Int)(nm:List UInt8)(ao:Option Addr)(len cap:Nat)(a:Int)(w:World) :
  Calls Tryz.prog 267 #[.agg #[.int .i64 k,.int .i64 n,stv nm,.slice ao len cap,.int .i64 a]] w fun e w'=>e=.returned(.int .i64(cQ k n))/\Below w.heap.size w w':=by
 have B0:Below w.heap.size w(w.alloc(.cells #[.int .i64 k,.int .i64 n,stv nm,.slice ao len cap,.int .i64 a] 25)):=(Below.refl _ w).alloc(Nat.le_refl _) _;have Z0:(w.alloc(.cells #[.int .i64 k,.int .i64 n,stv nm,.slice ao len cap,.int .i64 a] 25)).heap[w.heap.size]?=some(.cells #[.int .i64 k,.int .i64 n,stv nm,.slice ao len cap,.int .i64 a] 25):=heap_alloc_new w _;obtain⟨z0,z1,z2,z3,z4,zf⟩:=am Z0;clear Z0;obtain⟨V,hV⟩:∃V,V=cQ k n:=⟨_,rfl⟩
 rw[<-hV];by_cases h1:k=1
 ·subst h1;have hX:V=0:=hV;clear hV;subst hX;go_enter Tryz.func267,Tryz.ntmps267;go_wp2;go_ret;exact⟨rfl,B0⟩
 have b1:(k==1)=false:=bne h1;by_cases h2:k=2
 ·subst h2;have hX:V=0:=hV;clear hV;subst hX;go_enter Tryz.func267,Tryz.ntmps267;go_wp2;go_ret;exact⟨rfl,B0⟩
 have b2:(k==2)=false:=bne h2;by_cases h3:k=3
 ·subst h3;have hX:V=0:=hV;clear hV;subst hX;go_enter Tryz.func267,Tryz.ntmps267;go_wp2;go_ret;exact⟨rfl,B0⟩
 have b3:(k==3)=false:=bne h3;by_cases h4:k=4
 ·subst h4;have hX:V=0:=hV;clear hV;subst hX;go_enter Tryz.func267,Tryz.ntmps267;go_wp2;go_ret;exact⟨rfl,B0⟩
 have b4:(k==4)=false:=bne h4;by_cases h22:k=22
 ·subst h22;have hX:V=0:=hV;clear hV;subst hX;go_enter Tryz.func267,Tryz.ntmps267;go_wp2;go_ret;exact⟨rfl,B0⟩
 have b22:(k==22)=false:=bne h22;by_cases h23:k=23
 ·subst h23;have hX:V=0:=hV;clear hV;subst hX;go_enter Tryz.func267,Tryz.ntmps267;go_wp2;go_ret;exact⟨rfl,B0⟩
 have b23:(k==23)=false:=bne h23;by_cases h6:k=6
 ·subst h6;have hX:V=1:=hV;clear hV;subst hX;go_enter Tryz.func267,Tryz.ntmps267;go_wp2;go_ret;exact⟨rfl,B0⟩
 have b6:(k==6)=false:=bne h6;by_cases h7:k=7
 ·subst h7;have hX:V=1:=hV;clear hV;subst hX;go_enter Tryz.func267,Tryz.ntmps267;go_wp2;go_ret;exact⟨rfl,B0⟩
 have b7:(k==7)=false:=bne h7;by_cases h24:k=24
 ·subst h24;have hX:V=1:=hV;clear hV;subst hX;go_enter Tryz.func267,Tryz.ntmps267;go_wp2;go_ret;exact⟨rfl,B0⟩
 have b24:(k==24)=false:=bne h24;by_cases h8:k=8
 ·subst h8;have hX:V=2:=hV;clear hV;subst hX;go_enter Tryz.func267,Tryz.ntmps267;go_wp2;go_ret;exact⟨rfl,B0⟩
 have b8:(k==8)=false:=bne h8;by_cases h9:k=9
 ·subst h9;have hX:V=2:=hV;clear hV;subst hX;go_enter Tryz.func267,Tryz.ntmps267;go_wp2;go_ret;exact⟨rfl,B0⟩
 have b9:(k==9)=false:=bne h9;by_cases h10:k=10
 ·subst h10;have hX:V=2:=hV;clear hV;subst hX;go_enter Tryz.func267,Tryz.ntmps267;go_wp2;go_ret;exact⟨rfl,B0⟩
 have b10:(k==10)=false:=bne h10;by_cases h11:k=11
 ·subst h11;have hX:V=2:=hV;clear hV;subst hX;go_enter Tryz.func267,Tryz.ntmps267;go_wp2;go_ret;exact⟨rfl,B0⟩
 have b11:(k==11)=false:=bne h11;by_cases h12:k=12
 ·subst h12;have hX:V=2:=hV;clear hV;subst hX;go_enter Tryz.func267,Tryz.ntmps267;go_wp2;go_ret;exact⟨rfl,B0⟩
 have b12:(k==12)=false:=bne h12;by_cases h13:k=13
 ·subst h13;have hX:V=2:=hV;clear hV;subst hX;go_enter Tryz.func267,Tryz.ntmps267;go_wp2;go_ret;exact⟨rfl,B0⟩
 have b13:(k==13)=false:=bne h13;by_cases h14:k=14
 ·subst h14;have hX:V=2:=hV;clear hV;subst hX;go_enter Tryz.func267,Tryz.ntmps267;go_wp2;go_ret;exact⟨rfl,B0⟩
 have b14:(k==14)=false:=bne h14;by_cases h15:k=15
 ·subst h15;have hX:V=2:=hV;clear hV;subst hX;go_enter Tryz.func267,Tryz.ntmps267;go_wp2;go_ret;exact⟨rfl,B0⟩
 have b15:(k==15)=false:=bne h15;by_cases h16:k=16
 ·subst h16;have hX:V=2:=hV;clear hV;subst hX;go_enter Tryz.func267,Tryz.ntmps267;go_wp2;go_ret;exact⟨rfl,B0⟩
 have b16:(k==16)=false:=bne h16;by_cases h17:k=17
 ·subst h17;have hX:V=2:=hV;clear hV;subst hX;go_enter Tryz.func267,Tryz.ntmps267;go_wp2;go_ret;exact⟨rfl,B0⟩
 have b17:(k==17)=false:=bne h17;by_cases h18:k=18
 ·subst h18;have hX:V=2:=hV;clear hV;subst hX;go_enter Tryz.func267,Tryz.ntmps267;go_wp2;go_ret;exact⟨rfl,B0⟩
 have b18:(k==18)=false:=bne h18;by_cases h21:k=21
 ·subst h21;have hX:V=2:=hV;clear hV;subst hX;go_enter Tryz.func267,Tryz.ntmps267;go_wp2;go_ret;exact⟨rfl,B0⟩
 have b21:(k==21)=false:=bne h21;by_cases h19:k=19
 ·subst h19;have hX:V=3:=hV;clear hV;subst hX;go_enter Tryz.func267,Tryz.ntmps267;go_wp2;go_ret;exact⟨rfl,B0⟩
 have b19:(k==19)=false:=bne h19;by_cases h25:k=25
 ·subst h25;have hX:V=-1:=hV;clear hV;subst hX;go_enter Tryz.func267,Tryz.ntmps267;go_wp2;go_ret;exact⟨rfl,B0⟩
 have b25:(k==25)=false:=bne h25;by_cases h20:k=20
 ·subst h20;by_cases n1:1<=n
  ·by_cases n3:n<=3
   ·have hX:V=2:=by rw[hV];simp[cQ,n1,n3]
    clear hV;subst hX;go_enter Tryz.func267,Tryz.ntmps267;go_wp2;go_ret;exact⟨rfl,B0⟩
   ·have hX:V=1:=by rw[hV];simp[cQ,n3]
    clear hV;subst hX;go_enter Tryz.func267,Tryz.ntmps267;go_wp2;go_ret;exact⟨rfl,B0⟩
  ·have hX:V=1:=by rw[hV];simp[cQ,n1]
   clear hV;subst hX;go_enter Tryz.func267,Tryz.ntmps267;go_wp2;go_ret;exact⟨rfl,B0⟩
 have b20:(k==20)=false:=bne h20;have hX:V=-2:=by rw[hV];simp[cQ,h1,h2,h3,h4,h22,h23,h6,h7,h24,h8,h9,h10,h11,h12,h13,h14,h15,h16,h17,h18,h21,h19,h25,h20]
 clear hV h1 h2 h3 h4 h22 h23 h6 h7 h24 h8 h9 h10 h11 h12 h13 h14 h15 h16 h17 h18 h21 h19 h25 h20;subst hX;go_enter Tryz.func267,Tryz.ntmps267;go_wp2;go_ret;exact⟨rfl,B0⟩
theorem bF (n:Int):(fm n).isSome=decide (1<=n/\n<=10):=by
 by_cases h:1<=n/\n<=10
 ·rw[show decide(1<=n/\n<=10)=true by simpa using h]
  have:n=1\/n=2\/n=3\/n=4\/n=5\/n=6\/n=7\/n=8\/n=9\/n=10:=by omega
  rcases this with rfl|rfl|rfl|rfl|rfl|rfl|rfl|rfl|rfl|rfl<;>rfl
 ·rw[show decide(1<=n/\n<=10)=false by simpa using h,Option.isSome_eq_false_iff,Option.isNone_iff_eq_none];unfold fm;rw[List.find?_eq_none];intro x hx
  have:∀ x ∈ dy,1<=x.2.1/\x.2.1<=10:=by decide
  have:=this x hx
  simp only[beq_iff_eq];omega
theorem bc (n:Int):(fQ n).isSome=decide (1<=n/\n<=6):=by
 by_cases h:1<=n/\n<=6
 ·rw[show decide(1<=n/\n<=6)=true by simpa using h]
  have:n=1\/n=2\/n=3\/n=4\/n=5\/n=6:=by omega
  rcases this with rfl|rfl|rfl|rfl|rfl|rfl<;>rfl
 ·rw[show decide(1<=n/\n<=6)=false by simpa using h,Option.isSome_eq_false_iff,Option.isNone_iff_eq_none];unfold fQ;rw[List.find?_eq_none];intro x hx
  have:∀ x ∈ dx,1<=x.2/\x.2<=6:=by decide
  have:=this x hx
  simp only[beq_iff_eq];omega
theorem yi (k n:Int)(nm:List UInt8)(ao:Option Addr)(len cap:Nat)(a:Int)(w:World)(hl:nm.length<=maxLen) :
  Calls Tryz.prog 268 #[.agg #[.int .i64 k,.int .i64 n,stv nm,.slice ao len cap,.int .i64 a]] w fun e w'=>e=.returned(.bool(bS k n&&cu k nm))/\Below w.heap.size w w':=by
 have B0:Below w.heap.size w(w.alloc(.cells #[.int .i64 k,.int .i64 n,stv nm,.slice ao len cap,.int .i64 a] 25)):=(Below.refl _ w).alloc(Nat.le_refl _) _;have Z0:(w.alloc(.cells #[.int .i64 k,.int .i64 n,stv nm,.slice ao len cap,.int .i64 a] 25)).heap[w.heap.size]?=some(.cells #[.int .i64 k,.int .i64 n,stv nm,.slice ao len cap,.int .i64 a] 25):=heap_alloc_new w _;have c1:=n5⟨nm.toArray⟩(w.alloc(.cells #[.int .i64 k,.int .i64 n,stv nm,.slice ao len cap,.int .i64 a] 25))(by rw[fF];exact hl);have hd:(ByteArray.mk nm.toArray).data.toList=nm:=by simp
 rw[hd] at c1;obtain⟨V,hV⟩:∃V,V=(bS k n&&cu k nm):=⟨_,rfl⟩
 rw[<-hV];have hs0:w.heap.size<(w.alloc(.cells #[.int .i64 k,.int .i64 n,stv nm,.slice ao len cap,.int .i64 a] 25)).heap.size:=by simp
 obtain⟨z0,z1,z2,z3,z4,zf⟩:=am Z0;clear hd;by_cases h1:k=1
 ·subst h1;by_cases p:0<=n
  ·have pb:0<=n:=p;have hX:V=(nm==[]):=by rw[hV];simp[bS,cu,bF,bc,p]
   clear hV;rw[hX];clear hX V;go_enter Tryz.func268,Tryz.ntmps268;go_wp2_with fail;refine c1.mono ?_;rintro e w1⟨rfl,b1⟩;have B1:=B0.trans(b1.mono B0.size);have Z1:=(b1.block _ hs0).trans Z0;obtain⟨y0,y1,y2,y3,y4,yf⟩:=am Z1;clear c1 b1 B0 Z0 Z1 z0 z1 z2 z3 z4 zf;go_wp2;go_ret;exact⟨br(by first|rfl|simp),B1⟩
  ·have pb:¬0<=n:=p;have hX:V=false:=by rw[hV];simp[bS,cu,bF,bc,p]
   clear hV;rw[hX];clear hX V;go_enter Tryz.func268,Tryz.ntmps268;go_wp2_with fail;refine c1.mono ?_;rintro e w1⟨rfl,b1⟩;have B1:=B0.trans(b1.mono B0.size);have Z1:=(b1.block _ hs0).trans Z0;obtain⟨y0,y1,y2,y3,y4,yf⟩:=am Z1;clear c1 b1 B0 Z0 Z1 z0 z1 z2 z3 z4 zf;go_wp2;go_ret;exact⟨br(by first|rfl|simp),B1⟩
 have b1:(k==1)=false:=bne h1;by_cases h3:k=3
 ·subst h3;by_cases p:0<=n
  ·have pb:0<=n:=p;have hX:V=(nm==[]):=by rw[hV];simp[bS,cu,bF,bc,p]
   clear hV;rw[hX];clear hX V;go_enter Tryz.func268,Tryz.ntmps268;go_wp2_with fail;refine c1.mono ?_;rintro e w1⟨rfl,b1⟩;have B1:=B0.trans(b1.mono B0.size);have Z1:=(b1.block _ hs0).trans Z0;obtain⟨y0,y1,y2,y3,y4,yf⟩:=am Z1;clear c1 b1 B0 Z0 Z1 z0 z1 z2 z3 z4 zf;go_wp2;go_ret;exact⟨br(by first|rfl|simp),B1⟩
  ·have pb:¬0<=n:=p;have hX:V=false:=by rw[hV];simp[bS,cu,bF,bc,p]
   clear hV;rw[hX];clear hX V;go_enter Tryz.func268,Tryz.ntmps268;go_wp2_with fail;refine c1.mono ?_;rintro e w1⟨rfl,b1⟩;have B1:=B0.trans(b1.mono B0.size);have Z1:=(b1.block _ hs0).trans Z0;obtain⟨y0,y1,y2,y3,y4,yf⟩:=am Z1;clear c1 b1 B0 Z0 Z1 z0 z1 z2 z3 z4 zf;go_wp2;go_ret;exact⟨br(by first|rfl|simp),B1⟩
 have b3:(k==3)=false:=bne h3;by_cases h2:k=2
 ·subst h2;by_cases p:n=0
  ·subst p;have hX:V=(nm==[]):=by rw[hV];simp[bS,cu,bF,bc]
   clear hV;rw[hX];clear hX V;go_enter Tryz.func268,Tryz.ntmps268;go_wp2_with fail;refine c1.mono ?_;rintro e w1⟨rfl,b1⟩;have B1:=B0.trans(b1.mono B0.size);have Z1:=(b1.block _ hs0).trans Z0;obtain⟨y0,y1,y2,y3,y4,yf⟩:=am Z1;clear c1 b1 B0 Z0 Z1 z0 z1 z2 z3 z4 zf;go_wp2;go_ret;exact⟨br(by first|rfl|simp),B1⟩
  ·have pb:(n==0)=false:=by simpa using p
   by_cases r:n=1
   ·subst r;have hX:V=(nm==[]):=by rw[hV];simp[bS,cu,bF,bc]
    clear hV;rw[hX];clear hX V;go_enter Tryz.func268,Tryz.ntmps268;go_wp2_with fail;refine c1.mono ?_;rintro e w1⟨rfl,b1⟩;have B1:=B0.trans(b1.mono B0.size);have Z1:=(b1.block _ hs0).trans Z0;obtain⟨y0,y1,y2,y3,y4,yf⟩:=am Z1;clear c1 b1 B0 Z0 Z1 z0 z1 z2 z3 z4 zf;go_wp2;go_ret;exact⟨br(by first|rfl|simp),B1⟩
   ·have rb:(n==1)=false:=by simpa using r
    have hX:V=false:=by rw[hV];simp[bS,cu,bF,bc,p,r]
    clear hV;clear p r;rw[hX];clear hX V;go_enter Tryz.func268,Tryz.ntmps268;go_wp2_with fail;refine c1.mono ?_;rintro e w1⟨rfl,b1⟩;have B1:=B0.trans(b1.mono B0.size);have Z1:=(b1.block _ hs0).trans Z0;obtain⟨y0,y1,y2,y3,y4,yf⟩:=am Z1;clear c1 b1 B0 Z0 Z1 z0 z1 z2 z3 z4 zf;go_wp2;go_ret;exact⟨br(by first|rfl|simp),B1⟩
 have b2:(k==2)=false:=bne h2;by_cases h4:k=4
 ·subst h4;by_cases p:n=0
  ·subst p;have hX:V=aX nm:=by rw[hV];simp[bS,cu,bF,bc]
   clear hV;rw[hX];clear hX V;go_enter Tryz.func268,Tryz.ntmps268;go_wp2_with fail;refine c1.mono ?_;rintro e w1⟨rfl,b1⟩;have B1:=B0.trans(b1.mono B0.size);have Z1:=(b1.block _ hs0).trans Z0;obtain⟨y0,y1,y2,y3,y4,yf⟩:=am Z1;clear c1 b1 B0 Z0 Z1 z0 z1 z2 z3 z4 zf;go_wp2;go_ret;exact⟨br(by first|rfl|simp),B1⟩
  ·have pb:(n==0)=false:=by simpa using p
   have hX:V=false:=by rw[hV];simp[bS,cu,bF,bc,p]
   clear hV;clear p;rw[hX];clear hX V;go_enter Tryz.func268,Tryz.ntmps268;go_wp2_with fail;refine c1.mono ?_;rintro e w1⟨rfl,b1⟩;have B1:=B0.trans(b1.mono B0.size);have Z1:=(b1.block _ hs0).trans Z0;obtain⟨y0,y1,y2,y3,y4,yf⟩:=am Z1;clear c1 b1 B0 Z0 Z1 z0 z1 z2 z3 z4 zf;go_wp2;go_ret;exact⟨br(by first|rfl|simp),B1⟩
 have b4:(k==4)=false:=bne h4;by_cases h23:k=23
 ·subst h23;by_cases p:n=0
  ·subst p;have hX:V=aX nm:=by rw[hV];simp[bS,cu,bF,bc]
   clear hV;rw[hX];clear hX V;go_enter Tryz.func268,Tryz.ntmps268;go_wp2_with fail;refine c1.mono ?_;rintro e w1⟨rfl,b1⟩;have B1:=B0.trans(b1.mono B0.size);have Z1:=(b1.block _ hs0).trans Z0;obtain⟨y0,y1,y2,y3,y4,yf⟩:=am Z1;clear c1 b1 B0 Z0 Z1 z0 z1 z2 z3 z4 zf;go_wp2;go_ret;exact⟨br(by first|rfl|simp),B1⟩
  ·have pb:(n==0)=false:=by simpa using p
   have hX:V=false:=by rw[hV];simp[bS,cu,bF,bc,p]
   clear hV;clear p;rw[hX];clear hX V;go_enter Tryz.func268,Tryz.ntmps268;go_wp2_with fail;refine c1.mono ?_;rintro e w1⟨rfl,b1⟩;have B1:=B0.trans(b1.mono B0.size);have Z1:=(b1.block _ hs0).trans Z0;obtain⟨y0,y1,y2,y3,y4,yf⟩:=am Z1;clear c1 b1 B0 Z0 Z1 z0 z1 z2 z3 z4 zf;go_wp2;go_ret;exact⟨br(by first|rfl|simp),B1⟩
 have b23:(k==23)=false:=bne h23;by_cases h20:k=20
 ·subst h20;by_cases p:1<=n
  ·have pb:1<=n:=p;by_cases r:n<=10
   ·have rb:n<=10:=r;have hX:V=(nm==[]):=by rw[hV];simp[bS,cu,bF,bc,p,r]
    clear hV;rw[hX];clear hX V;go_enter Tryz.func268,Tryz.ntmps268;go_wp2_with fail;refine c1.mono ?_;rintro e w1⟨rfl,b1⟩;have B1:=B0.trans(b1.mono B0.size);have Z1:=(b1.block _ hs0).trans Z0;obtain⟨y0,y1,y2,y3,y4,yf⟩:=am Z1;clear c1 b1 B0 Z0 Z1 z0 z1 z2 z3 z4 zf;go_wp2;go_ret;exact⟨br(by first|rfl|simp),B1⟩
   ·have rb:¬n<=10:=r;have hX:V=false:=by rw[hV];simp[bS,cu,bF,bc,p,r]
    clear hV;rw[hX];clear hX V;go_enter Tryz.func268,Tryz.ntmps268;go_wp2_with fail;refine c1.mono ?_;rintro e w1⟨rfl,b1⟩;have B1:=B0.trans(b1.mono B0.size);have Z1:=(b1.block _ hs0).trans Z0;obtain⟨y0,y1,y2,y3,y4,yf⟩:=am Z1;clear c1 b1 B0 Z0 Z1 z0 z1 z2 z3 z4 zf;go_wp2;go_ret;exact⟨br(by first|rfl|simp),B1⟩
  ·have pb:¬1<=n:=p;have hX:V=false:=by rw[hV];simp[bS,cu,bF,bc,p]
   clear hV;rw[hX];clear hX V;go_enter Tryz.func268,Tryz.ntmps268;go_wp2_with fail;refine c1.mono ?_;rintro e w1⟨rfl,b1⟩;have B1:=B0.trans(b1.mono B0.size);have Z1:=(b1.block _ hs0).trans Z0;obtain⟨y0,y1,y2,y3,y4,yf⟩:=am Z1;clear c1 b1 B0 Z0 Z1 z0 z1 z2 z3 z4 zf;go_wp2;go_ret;exact⟨br(by first|rfl|simp),B1⟩
 have b20:(k==20)=false:=bne h20;by_cases h21:k=21
 ·subst h21;by_cases p:1<=n
  ·have pb:1<=n:=p;by_cases r:n<=6
   ·have rb:n<=6:=r;have hX:V=aX nm:=by rw[hV];simp[bS,cu,bF,bc,p,r]
    clear hV;rw[hX];clear hX V;go_enter Tryz.func268,Tryz.ntmps268;go_wp2_with fail;refine c1.mono ?_;rintro e w1⟨rfl,b1⟩;have B1:=B0.trans(b1.mono B0.size);have Z1:=(b1.block _ hs0).trans Z0;obtain⟨y0,y1,y2,y3,y4,yf⟩:=am Z1;clear c1 b1 B0 Z0 Z1 z0 z1 z2 z3 z4 zf;go_wp2;go_ret;exact⟨br(by first|rfl|simp),B1⟩
   ·have rb:¬n<=6:=r;have hX:V=false:=by rw[hV];simp[bS,cu,bF,bc,p,r]
    clear hV;rw[hX];clear hX V;go_enter Tryz.func268,Tryz.ntmps268;go_wp2_with fail;refine c1.mono ?_;rintro e w1⟨rfl,b1⟩;have B1:=B0.trans(b1.mono B0.size);have Z1:=(b1.block _ hs0).trans Z0;obtain⟨y0,y1,y2,y3,y4,yf⟩:=am Z1;clear c1 b1 B0 Z0 Z1 z0 z1 z2 z3 z4 zf;go_wp2;go_ret;exact⟨br(by first|rfl|simp),B1⟩
  ·have pb:¬1<=n:=p;have hX:V=false:=by rw[hV];simp[bS,cu,bF,bc,p]
   clear hV;rw[hX];clear hX V;go_enter Tryz.func268,Tryz.ntmps268;go_wp2_with fail;refine c1.mono ?_;rintro e w1⟨rfl,b1⟩;have B1:=B0.trans(b1.mono B0.size);have Z1:=(b1.block _ hs0).trans Z0;obtain⟨y0,y1,y2,y3,y4,yf⟩:=am Z1;clear c1 b1 B0 Z0 Z1 z0 z1 z2 z3 z4 zf;go_wp2;go_ret;exact⟨br(by first|rfl|simp),B1⟩
 have b21:(k==21)=false:=bne h21;by_cases p:n=0
 ·subst p;have hX:V=(nm==[]):=by rw[hV];simp[bS,cu,bF,bc,h1,h3,h2,h4,h23,h20,h21]
  clear hV;clear h1 h3 h2 h4 h23 h20 h21;rw[hX];clear hX V;go_enter Tryz.func268,Tryz.ntmps268;go_wp2_with fail;refine c1.mono ?_;rintro e w1⟨rfl,b1⟩;have B1:=B0.trans(b1.mono B0.size);have Z1:=(b1.block _ hs0).trans Z0;obtain⟨y0,y1,y2,y3,y4,yf⟩:=am Z1;clear c1 b1 B0 Z0 Z1 z0 z1 z2 z3 z4 zf;go_wp2;go_ret;exact⟨br(by first|rfl|simp),B1⟩
 ·have pb:(n==0)=false:=by simpa using p
  have hX:V=false:=by rw[hV];simp[bS,cu,bF,bc,h1,h3,h2,h4,h23,h20,h21,p]
  clear hV;clear p h1 h3 h2 h4 h23 h20 h21;rw[hX];clear hX V;go_enter Tryz.func268,Tryz.ntmps268;go_wp2_with fail;refine c1.mono ?_;rintro e w1⟨rfl,b1⟩;have B1:=B0.trans(b1.mono B0.size);have Z1:=(b1.block _ hs0).trans Z0;obtain⟨y0,y1,y2,y3,y4,yf⟩:=am Z1;clear c1 b1 B0 Z0 Z1 z0 z1 z2 z3 z4 zf;go_wp2;go_ret;exact⟨br(by first|rfl|simp),B1⟩
end Go.Proofs.YtbjdkekhnajafaaGreatDoor

import Derived.Test.YtkhgahljbpmfaaaGreatDoorWrqF
set_option maxRecDepth 100000
set_option maxHeartbeats 8000000
namespace Go.Proofs.YtkhgahljbpmfaaaGreatDoor
open Go.ChangeShapes Go.WideShapes Go.ChangeAt Go.RowKit
set_option linter.unusedVariables false
set_option linter.unusedSimpArgs false
theorem put_nil {w:World}{o:Nat->Nat}{wb:Nat}{st:Ow}(h:WQ w o wb st):putO [] st=st:=by
 match st,h with
 | none,h=>rfl
 | some s,h =>
  have:=h.2.1
  simp only[putO,List.length_nil,List.append_nil];rw[if_neg (by omega)]
theorem oFs_ex (x:Ex)(r:Fs)(b:Bool)(g:Sep)(i:Nat)(s:Ow):oFs (Fs.ex x r) b g i s=oFs r false g (i+1) (oE x.k x.n x.nm x.kids.len b (g i).2 (fun g s=>oFs x.kids (x.k==21) g 0 s) (putO (g i).1 s)):=rfl
theorem okid_eq (e y:Ex)(i:Nat)(s:Ow){flag:Bool}{asked:Nat}(h1:flag=(e.k==21&&decide (i=0)))(h2:asked=askO e.k i):oE y.k y.n y.nm y.kids.len flag asked (fun g s=>oFs y.kids (y.k==21) g 0 s) s=oKid e y i s:=by subst h1 h2;rfl
theorem kid_bal (e y:Ex)(i:Nat)(s:Ow):Bal s (oKid e y i s):=e_bal (fun g s=>fs_bal _ _ _ _ _) s
theorem Fs.app_rng:∀ {x y:Fs},(x.app y).rng->y.rng
 | ⟨none⟩,y,h=>h
 | ⟨some ⟨k,n,nm,a,ks,r⟩⟩,y,h=>Fs.app_rng h.2.2.2
theorem Ex.kidfit {e:Ex}(h:e.fit){x:Fs}{y:Ex}{r:Fs}(hk:e.kids=x.app (Fs.ex y r)):y.fit:=by
 have h1:(Fs.ex y r).short:=Fs.app_short (by rw[<-hk];exact h.sh);have h2:(Fs.ex y r).rng:=Fs.app_rng (by rw[<-hk];exact h.rng);exact⟨h1.1,h1.2.2.1,h1.2.1,h2.1,h2.2.1,h2.2.2.1⟩
theorem app_snoc:∀ (x:Fs) (y:Ex) (r:Fs),x.app (Fs.ex y r)=(x.snoc y).app r
 | ⟨none⟩,y,r=>by simp only[Fs.snoc,Fs.app,one];rfl
 | ⟨some ⟨k,n,nm,a,ks,rr⟩⟩,y,r=>by
  have:=app_snoc rr y r
  simp only[Fs.snoc] at this ⊢;simp only[Fs.app];rw[this]
theorem list_qw {N:Nat}(IH:PartQ N)(e:Ex)(hek:e.k=20\/e.k=24\/e.k=25)(hN:e.kids.size<=N)(he:e.fit)(ao:Option Addr)(cap wb:Nat)(st:Ow)(w:World)(o:Nat->Nat)(S:Sl w (L0 o) e.kids ao)(H:WQ w o wb st) :
  Calls Tryz.prog 247 #[.pointer (some ⟨wb,0,none⟩),exV e ao cap] w (PostO w o wb (oFs e.kids (e.k==21) comS 0 st)):=by
 have h21:(e.k==21)=false:=bne (by omega);have hask:∀ i,askO e.k i=0:=fun i=>by rcases hek with h|h|h<;>rw[h]<;>rfl
 rw[h21];obtain⟨W,hW⟩:∃W,W=oFs e.kids false comS 0 st:=⟨_,rfl⟩
 rw[<-hW];have HW:Hid (oFs e.kids false comS 0 st=W):=hW.symm;have H21:Hid ((e.k==21)=false):=h21;have HA:Hid (∀ i,askO e.k i=0):=hask;have hlen:=he.len;have s0:=boxStep (fun _=>False) w o (bxX e ao cap);have E0:Blk (w.alloc (bxX e ao cap)) (newLab w o 0) 0 w.heap.size (bxX e ao cap):=boxBlk w o _ _;have S0:=S.stp0 s0;have H0:=H.stp0 s0;have T0:=s0.i12;clear hW h21 hask S H s0 hek;rw[exV_out];go_enter Tryz.func247,Tryz.ntmps247;go_upto_region 1 with fail;generalize w.alloc (bxX e ao cap)=w0 at *;generalize newLab w o 0=o0 at *;generalize w.heap.size=be at *;go_wp2_with fail;go_loopw [4] (fun v wr=>∃(done r:Fs) (u:Ow) (o':Nat->Nat),Hid (e.kids=done.app r)/\v=.int .i64 (done.len:Nat)/\Hid (oFs r false comS done.len u=W)/\WQ wr o' wb u/\Blk wr o' 0 be (.cells #[.int .i64 e.k,.int .i64 e.n,stv e.nm,.slice ao e.kids.len cap,.int .i64 e.a] 25 (0,0))/\Sl wr (L0 o') e.kids ao/\Step I12 w o wr o') (fun v _=>e.kids.len-(intOf v).toNat)
 case atStart=>exact⟨.nil,e.kids,st,o0,rfl,by show _=Value.int .i64 ((0:Nat):Int);rfl,HW,H0,E0,S0,T0⟩
 case round =>
  clear HW H0 E0 S0 T0;obtain⟨done,r,u,o3,hk,rfl,HU,H3,E3,S3,T3⟩:=hrel;have hlk:e.kids.len=done.len+r.len:=by rw[hk.out,Fs.len_app]
  obtain⟨p0,p1,p2,p3,p4,pf⟩:=box5 E3.1;cases r using Fs.on with
  | nil =>
   have hl0:¬(done.len:Int)<(e.kids.len:Int):=by simp only[Fs.len] at hlk;omega
   have hu:u=W:=HU.out;subst hu;clear HU hlk;go_wp2
   go_end0
   exact⟨rfl,o3,H3,T3⟩
  | cons kk kn km ka kks kr =>
   have hl0:(done.len:Int)<(e.kids.len:Int):=by simp only[Fs.len] at hlk;omega
   obtain⟨c3,cf,-,-⟩:=H3.end;cases u with
   | none =>
    have hu:W=none:=by rw[<-HU.out];exact fs_gone _ _ _ _
    have c3:wr.cell? ⟨wb,3,none⟩=some (.bool false):=c3;subst hu;clear HU hlk;go_wp2
    go_end0
    exact⟨rfl,o3,H3,T3⟩
   | some u0 =>
    have c3:wr.cell? ⟨wb,3,none⟩=some (.bool true):=c3;obtain⟨y,hy⟩:∃y:Ex,y=⟨kk,kn,km,ka,kks⟩:=⟨_,rfl⟩
    have hk2:e.kids=done.app (Fs.ex y kr):=by rw[hk.out,hy];rfl
    have hyf:y.fit:=Ex.kidfit he hk2;have hyN:y.kids.size<N:=by
     have:e.kids.size=done.size+(y.kids.size+kr.size+1):=by rw[hk2,Fs.size_app];rfl
     omega
    have HU2:Hid (oFs kr false comS (done.len+1) (oKid e y done.len (putO (comS done.len).1 (some u0)))=W):=by
     show _=W;rw[<-HU.out,<-okid_eq e y done.len _ (flag:=false) (asked:=0) (by rw[H21.out];rfl) (HA.out _).symm,hy];rfl
    have HK9:Hid (e.kids=(done.snoc y).app kr):=by show _=_;rw[hk2,app_snoc]
    have hlen1:done.len+1<=1000000000:=by simp only[Fs.len] at hlk;omega
    have HK2:=Lib.hid hk2;clear HU hy hlk hk2;by_cases hd:done.len=0
    ·have hd0:¬(0:Int)<(done.len:Int):=by omega
     have HU3:Hid (oFs kr false comS (done.len+1) (oKid e y done.len (some u0))=W):=by
      show _=W;rw[<-HU2.out]
      have:(comS done.len).1=[]:=by unfold comS;simp[hd]
      rw[this,put_nil H3]
     have c5:=kid_q IH e y done kr HK2.out done.len rfl (by omega) hyN hyf ao cap wb _ wr o3 S3 H3;rw[exV_out] at c5;clear HU2 hd hyf hyN;generalize oKid e y done.len (some u0)=u5 at *;go_wp2_with fail;refine c5.mono ?_;rintro e2 w5 ⟨rfl,o5,H5,s5⟩;have T5:=T3.trans s5;have S5:=S3.stp s5;have E5:=E3.stp s5;clear c5 H3 T3 S3 E3 s5 p0 p1 p2 p3 p4 pf c3 cf;go_wp2;go_roundw
     case rel=>(try ((repeat apply Exists.intro);refine⟨?_,rfl⟩));exact⟨done.snoc y,kr,u5,o5,HK9,by rw[Fs.len_snoc];go_num,by rw[Fs.len_snoc];exact HU3,H5,E5,S5,T5⟩
     case measure=>simp[intOf];omega
    ·have hd0:(0:Int)<(done.len:Int):=by omega
     have hcs:(comS done.len).1=[44,32]:=by unfold comS;simp[hd]
     rw[hcs] at HU2;have c4:=puts_o [44,32] H3 (by simp);generalize putO [44,32] (some u0)=u4 at *;clear hd hcs;go_wp2_with fail;refine c4.mono ?_;rintro e2 w4 ⟨rfl,o4,H4,s4⟩;have T4:=T3.trans s4;have S4:=S3.stp s4;have E4:=E3.stp s4;clear c4 H3 T3 S3 E3 s4 p0 p1 p2 p3 p4 pf c3 cf;obtain⟨p0,p1,p2,p3,p4,pf⟩:=box5 E4.1;have c5:=kid_q IH e y done kr HK2.out done.len rfl (by omega) hyN hyf ao cap wb _ w4 o4 S4 H4;rw[exV_out] at c5;clear hyf hyN;generalize oKid e y done.len u4=u5 at *;go_wp2_with fail;refine c5.mono ?_;rintro e2 w5 ⟨rfl,o5,H5,s5⟩;have T5:=T4.trans s5;have S5:=S4.stp s5;have E5:=E4.stp s5;clear c5 H4 T4 S4 E4 s5 p0 p1 p2 p3 p4 pf;go_wp2;go_roundw
     case rel=>(try ((repeat apply Exists.intro);refine⟨?_,rfl⟩));exact⟨done.snoc y,kr,u5,o5,HK9,by rw[Fs.len_snoc];go_num,by rw[Fs.len_snoc];exact HU2,H5,E5,S5,T5⟩
     case measure=>simp[intOf];omega
theorem cat2 (l m:List UInt8):(⟨l.toArray⟩:ByteArray)++⟨m.toArray⟩=⟨(l++m).toArray⟩:=by
 apply ByteArray.ext;simp
theorem great_if {N:Nat}(IH:PartQ N)(e:Ex)(hNk:e.kids.size<=N)(he:e.fit)(ao:Option Addr)(cap wb:Nat)(st:Ow)(w:World)(o:Nat->Nat)(S:Sl w (L0 o) e.kids ao)(H:WQ w o wb st)(hk:e.k=19)(hl:e.kids.len=3) :
  Calls Tryz.prog 233 #[.pointer (some ⟨wb,0,none⟩),exV e ao cap] w (PostO w o wb (oNode e.k e.n e.nm (fun g s=>oFs e.kids (e.k==21) g 0 s) st)):=by
 obtain⟨x,y,z,hks⟩:=len3 hl;have hk0:Hid (e.kids=Fs.app .nil (Fs.ex x (Fs.ex y (Fs.ex z .nil)))):=hks;have hk1:Hid (e.kids=Fs.app (one x) (Fs.ex y (Fs.ex z .nil))):=by show _=_;rw[hks];rfl
 have hk2:Hid (e.kids=Fs.app ((one x).snoc y) (Fs.ex z .nil)):=by show _=_;rw[hks];rfl
 have hsz:e.kids.size=x.kids.size+(y.kids.size+(z.kids.size+0+1)+1)+1:=by rw[hks];rfl
 have hNx:x.kids.size<N:=by omega
 have hNy:y.kids.size<N:=by omega
 have hNz:z.kids.size<N:=by omega
 have hfx:=Ex.kidfit he hk0.out;have hfy:=Ex.kidfit he hk1.out;have hfz:=Ex.kidfit he hk2.out;have HF:Hid (oNode e.k e.n e.nm (fun g s=>oFs e.kids (e.k==21) g 0 s) st=leaO (oKid e z 2 (putO [32,101,108,115,101,32] (oKid e y 1 (putO [32,116,104,101,110,32] (oKid e x 0 (putO [105,102,32] (entO st)))))))):=by
  show _=_;unfold oNode;rw[if_neg (by omega),if_neg (by omega),if_pos hk];simp only[hks,oFs_ex];rw[okid_eq e x 0 _ (by rw[hk];rfl) (by rw[hk];rfl),okid_eq e y 1 _ (by rw[hk];rfl) (by rw[hk];rfl),okid_eq e z 2 _ (by rw[hk];rfl) (by rw[hk];rfl)];rfl
 have b19:(e.k==19)=true:=by simp[hk]
 clear hks hk hl hsz;have s0:=boxStep (fun _=>False) w o (bxX e ao cap);have E0:Blk (w.alloc (bxX e ao cap)) (newLab w o 0) 0 w.heap.size (bxX e ao cap):=boxBlk w o _ _;have S0:=S.stp0 s0;have H0:=H.stp0 s0;have T0:=s0.i12;clear S H s0;rw[exV_out];go_enter Tryz.func233,Tryz.ntmps233;go_upto_region 1 with fail;generalize w.alloc (bxX e ao cap)=w0 at *;generalize newLab w o 0=o0 at *;generalize w.heap.size=be at *;obtain⟨p0,p1,p2,p3,p4,pf⟩:=box5 E0.1;have c1:=opens_o [105,102,32] H0 (by simp);have hb1:Bal (entO st) (putO [105,102,32] (entO st)):=(Bal.refl _).put [105,102,32];have hp:Hid (∀ s,Bal (entO st) s->∀ x,s=some x->1<=x.o):=fun s h=>ent_pos h;generalize putO [105,102,32] (entO st)=st1 at *;generalize entO st=se at *;go_wp2_with fail;refine c1.mono ?_;rintro e2 w1 ⟨rfl,o1,H1,s1⟩;have T1:=T0.trans s1;have S1:=S0.stp s1;have E1:=E0.stp s1;clear c1 H0 T0 S0 E0 s1 p0 p1 p2 p3 p4 pf;obtain⟨p0,p1,p2,p3,p4,pf⟩:=box5 E1.1;have c2:=kid_q IH e x .nil (Fs.ex y (Fs.ex z .nil)) hk0.out 0 rfl (by omega) (hNx) (hfx) ao cap wb st1 w1 o1 S1 H1;rw[exV_out] at c2;have hb2:=hb1.trans (kid_bal e x 0 st1);generalize oKid e x 0 st1=st2 at *;go_wp2_with fail;refine c2.mono ?_;rintro e2 w2 ⟨rfl,o2,H2,s2⟩;have T2:=T1.trans s2;have S2:=S1.stp s2;have E2:=E1.stp s2;clear c2 H1 T1 S1 E1 s2 p0 p1 p2 p3 p4 pf hb1;obtain⟨p0,p1,p2,p3,p4,pf⟩:=box5 E2.1;have c3:=puts_o [32,116,104,101,110,32] H2 (by simp);have hb3:=hb2.put [32,116,104,101,110,32];generalize putO [32,116,104,101,110,32] st2=st3 at *;go_wp2_with fail;refine c3.mono ?_;rintro e2 w3 ⟨rfl,o3,H3,s3⟩;have T3:=T2.trans s3;have S3:=S2.stp s3;have E3:=E2.stp s3;clear c3 H2 T2 S2 E2 s3 p0 p1 p2 p3 p4 pf hb2;obtain⟨p0,p1,p2,p3,p4,pf⟩:=box5 E3.1;have c4:=kid_q IH e y (one x) (Fs.ex z .nil) hk1.out 1 rfl (by omega) (hNy) (hfy) ao cap wb st3 w3 o3 S3 H3;rw[exV_out] at c4;have hb4:=hb3.trans (kid_bal e y 1 st3);generalize oKid e y 1 st3=st4 at *;go_wp2_with fail;refine c4.mono ?_;rintro e2 w4 ⟨rfl,o4,H4,s4⟩;have T4:=T3.trans s4;have S4:=S3.stp s4;have E4:=E3.stp s4;clear c4 H3 T3 S3 E3 s4 p0 p1 p2 p3 p4 pf hb3;obtain⟨p0,p1,p2,p3,p4,pf⟩:=box5 E4.1;have c5:=puts_o [32,101,108,115,101,32] H4 (by simp);have hb5:=hb4.put [32,101,108,115,101,32];generalize putO [32,101,108,115,101,32] st4=st5 at *;go_wp2_with fail;refine c5.mono ?_;rintro e2 w5 ⟨rfl,o5,H5,s5⟩;have T5:=T4.trans s5;have S5:=S4.stp s5;have E5:=E4.stp s5;clear c5 H4 T4 S4 E4 s5 p0 p1 p2 p3 p4 pf hb4;obtain⟨p0,p1,p2,p3,p4,pf⟩:=box5 E5.1;have c6:=kid_q IH e z ((one x).snoc y) .nil hk2.out 2 rfl (by omega) (hNz) (hfz) ao cap wb st5 w5 o5 S5 H5;rw[exV_out] at c6;have hb6:=hb5.trans (kid_bal e z 2 st5);generalize oKid e z 2 st5=st6 at *;go_wp2_with fail;refine c6.mono ?_;rintro e2 w6 ⟨rfl,o6,H6,s6⟩;have T6:=T5.trans s6;have S6:=S5.stp s6;have E6:=E5.stp s6;clear c6 H5 T5 S5 E5 s6 p0 p1 p2 p3 p4 pf hb5;obtain⟨p0,p1,p2,p3,p4,pf⟩:=box5 E6.1;obtain⟨oo7,dd7,df7,s7,H7⟩:=H6.lea (hp.out _ hb6);generalize leaO st6=st7 at *;have T7:=T6.trans s7;have S7:=S6.stp s7;have E7:=E6.stp s7;go_wp2;generalize w6.setCell ⟨wb,1,none⟩ (.int .i64 (wrap64 (oo7-1)))=w7 at *;clear dd7 df7 H6 T6 S6 E6 s7 p0 p1 p2 p3 p4 pf hp hb6;generalize o6=o7 at *;obtain⟨p0,p1,p2,p3,p4,pf⟩:=box5 E7.1
 go_end0
 exact⟨rfl,o7,by rw[HF.out];exact H7,T7⟩
theorem great_around {N:Nat}(IH:PartQ N)(e:Ex)(hNk:e.kids.size<=N)(he:e.fit)(ao:Option Addr)(cap wb:Nat)(st:Ow)(w:World)(o:Nat->Nat)(S:Sl w (L0 o) e.kids ao)(H:WQ w o wb st)(hk:e.k=24) :
  Calls Tryz.prog 233 #[.pointer (some ⟨wb,0,none⟩),exV e ao cap] w (PostO w o wb (oNode e.k e.n e.nm (fun g s=>oFs e.kids (e.k==21) g 0 s) st)):=by
 have hek:e.k=20\/e.k=24\/e.k=25:=by omega
 have HF:Hid (oNode e.k e.n e.nm (fun g s=>oFs e.kids (e.k==21) g 0 s) st=putO [41] (leaO (oFs e.kids (e.k==21) comS 0 (putO [40] (entO (putO [97,114,111,117,110,100] st)))))):=by
  show _=_;unfold oNode;rw[if_neg (by omega),if_neg (by omega),if_neg (by omega),if_neg (by omega),if_neg (by omega),if_pos hk];rfl
 have b19:(e.k==19)=false:=bne (by omega);have b21:(e.k==21)=false:=bne (by omega);have b20:(e.k==20)=false:=bne (by omega);have b24:(e.k==24)=true:=by simp[hk]
 have HEK:=Lib.hid hek;clear hk hek;have s0:=boxStep (fun _=>False) w o (bxX e ao cap);have E0:Blk (w.alloc (bxX e ao cap)) (newLab w o 0) 0 w.heap.size (bxX e ao cap):=boxBlk w o _ _;have S0:=S.stp0 s0;have H0:=H.stp0 s0;have T0:=s0.i12;clear S H s0;rw[exV_out];go_enter Tryz.func233,Tryz.ntmps233;go_upto_region 1 with fail;generalize w.alloc (bxX e ao cap)=w0 at *;generalize newLab w o 0=o0 at *;generalize w.heap.size=be at *;obtain⟨p0,p1,p2,p3,p4,pf⟩:=box5 E0.1;have c1:=puts_o [97,114,111,117,110,100] H0 (by simp);generalize putO [97,114,111,117,110,100] st=st1 at *;go_wp2_with fail;refine c1.mono ?_;rintro e2 w1 ⟨rfl,o1,H1,s1⟩;have T1:=T0.trans s1;have S1:=S0.stp s1;have E1:=E0.stp s1;clear c1 H0 T0 S0 E0 s1 p0 p1 p2 p3 p4 pf;obtain⟨p0,p1,p2,p3,p4,pf⟩:=box5 E1.1;have c2:=opens_o [40] H1 (by simp);have hb2:Bal (entO st1) (putO [40] (entO st1)):=(Bal.refl _).put [40];have hp:Hid (∀ s,Bal (entO st1) s->∀ x,s=some x->1<=x.o):=fun s h=>ent_pos h;generalize putO [40] (entO st1)=st2 at *;generalize entO st1=se at *;go_wp2_with fail;refine c2.mono ?_;rintro e2 w2 ⟨rfl,o2,H2,s2⟩;have T2:=T1.trans s2;have S2:=S1.stp s2;have E2:=E1.stp s2;clear c2 H1 T1 S1 E1 s2 p0 p1 p2 p3 p4 pf;obtain⟨p0,p1,p2,p3,p4,pf⟩:=box5 E2.1;have hek:=HEK.out;have c3:=list_qw IH e hek hNk he ao cap wb st2 w2 o2 S2 H2;rw[exV_out] at c3;have hb3:=hb2.trans (fs_bal e.kids (e.k==21) comS 0 st2);generalize oFs e.kids (e.k==21) comS 0 st2=st3 at *;go_wp2_with fail;refine c3.mono ?_;rintro e2 w3 ⟨rfl,o3,H3,s3⟩;have T3:=T2.trans s3;have S3:=S2.stp s3;have E3:=E2.stp s3;clear c3 H2 T2 S2 E2 s3 p0 p1 p2 p3 p4 pf hb2;obtain⟨p0,p1,p2,p3,p4,pf⟩:=box5 E3.1;clear hek;obtain⟨oo4,dd4,df4,s4,H4⟩:=H3.lea (hp.out _ hb3);generalize leaO st3=st4 at *;have T4:=T3.trans s4;have S4:=S3.stp s4;have E4:=E3.stp s4;go_upto_region 35 with fail;generalize w3.setCell ⟨wb,1,none⟩ (.int .i64 (wrap64 (oo4-1)))=w4 at *;clear dd4 df4 H3 T3 S3 E3 s4 p0 p1 p2 p3 p4 pf hp hb3;generalize o3=o4 at *;obtain⟨p0,p1,p2,p3,p4,pf⟩:=box5 E4.1;have c5:=puts_o [41] H4 (by simp);generalize putO [41] st4=st5 at *;go_wp2_with fail;refine c5.mono ?_;rintro e2 w5 ⟨rfl,o5,H5,s5⟩;have T5:=T4.trans s5;have S5:=S4.stp s5;have E5:=E4.stp s5;clear c5 H4 T4 S4 E4 s5 p0 p1 p2 p3 p4 pf;obtain⟨p0,p1,p2,p3,p4,pf⟩:=box5 E5.1;go_wp2
 go_end0
 exact⟨rfl,o5,by rw[HF.out];exact H5,T5⟩
theorem great_list {N:Nat}(IH:PartQ N)(e:Ex)(hNk:e.kids.size<=N)(he:e.fit)(ao:Option Addr)(cap wb:Nat)(st:Ow)(w:World)(o:Nat->Nat)(S:Sl w (L0 o) e.kids ao)(H:WQ w o wb st)(hk:e.k=25) :
  Calls Tryz.prog 233 #[.pointer (some ⟨wb,0,none⟩),exV e ao cap] w (PostO w o wb (oNode e.k e.n e.nm (fun g s=>oFs e.kids (e.k==21) g 0 s) st)):=by
 have hek:e.k=20\/e.k=24\/e.k=25:=by omega
 have HF:Hid (oNode e.k e.n e.nm (fun g s=>oFs e.kids (e.k==21) g 0 s) st=putO [125] (leaO (oFs e.kids (e.k==21) comS 0 (putO [123] (entO st))))):=by
  show _=_;unfold oNode;rw[if_neg (by omega),if_neg (by omega),if_neg (by omega),if_neg (by omega),if_neg (by omega),if_neg (by omega),if_pos hk];rfl
 have b19:(e.k==19)=false:=bne (by omega);have b21:(e.k==21)=false:=bne (by omega);have b20:(e.k==20)=false:=bne (by omega);have b24:(e.k==24)=false:=bne (by omega);have HEK:=Lib.hid hek;clear hk hek;have s0:=boxStep (fun _=>False) w o (bxX e ao cap);have E0:Blk (w.alloc (bxX e ao cap)) (newLab w o 0) 0 w.heap.size (bxX e ao cap):=boxBlk w o _ _;have S0:=S.stp0 s0;have H0:=H.stp0 s0;have T0:=s0.i12;clear S H s0;rw[exV_out];go_enter Tryz.func233,Tryz.ntmps233;go_upto_region 1 with fail;generalize w.alloc (bxX e ao cap)=w0 at *;generalize newLab w o 0=o0 at *;generalize w.heap.size=be at *;obtain⟨p0,p1,p2,p3,p4,pf⟩:=box5 E0.1;have c1:=opens_o [123] H0 (by simp);have hb1:Bal (entO st) (putO [123] (entO st)):=(Bal.refl _).put [123];have hp:Hid (∀ s,Bal (entO st) s->∀ x,s=some x->1<=x.o):=fun s h=>ent_pos h;generalize putO [123] (entO st)=st1 at *;generalize entO st=se at *;go_wp2_with fail;refine c1.mono ?_;rintro e2 w1 ⟨rfl,o1,H1,s1⟩;have T1:=T0.trans s1;have S1:=S0.stp s1;have E1:=E0.stp s1;clear c1 H0 T0 S0 E0 s1 p0 p1 p2 p3 p4 pf;obtain⟨p0,p1,p2,p3,p4,pf⟩:=box5 E1.1;have hek:=HEK.out;have c2:=list_qw IH e hek hNk he ao cap wb st1 w1 o1 S1 H1;rw[exV_out] at c2;have hb2:=hb1.trans (fs_bal e.kids (e.k==21) comS 0 st1);generalize oFs e.kids (e.k==21) comS 0 st1=st2 at *;go_wp2_with fail;refine c2.mono ?_;rintro e2 w2 ⟨rfl,o2,H2,s2⟩;have T2:=T1.trans s2;have S2:=S1.stp s2;have E2:=E1.stp s2;clear c2 H1 T1 S1 E1 s2 p0 p1 p2 p3 p4 pf hb1;obtain⟨p0,p1,p2,p3,p4,pf⟩:=box5 E2.1;clear hek;obtain⟨oo3,dd3,df3,s3,H3⟩:=H2.lea (hp.out _ hb2);generalize leaO st2=st3 at *;have T3:=T2.trans s3;have S3:=S2.stp s3;have E3:=E2.stp s3;go_upto_region 5 with fail;generalize w2.setCell ⟨wb,1,none⟩ (.int .i64 (wrap64 (oo3-1)))=w3 at *;clear dd3 df3 H2 T2 S2 E2 s3 p0 p1 p2 p3 p4 pf hp hb2;generalize o2=o3 at *;obtain⟨p0,p1,p2,p3,p4,pf⟩:=box5 E3.1;have c4:=puts_o [125] H3 (by simp);generalize putO [125] st3=st4 at *;go_wp2_with fail;refine c4.mono ?_;rintro e2 w4 ⟨rfl,o4,H4,s4⟩;have T4:=T3.trans s4;have S4:=S3.stp s4;have E4:=E3.stp s4;clear c4 H3 T3 S3 E3 s4 p0 p1 p2 p3 p4 pf;obtain⟨p0,p1,p2,p3,p4,pf⟩:=box5 E4.1;go_wp2
 go_end0
 exact⟨rfl,o4,by rw[HF.out];exact H4,T4⟩
theorem cw_at {n:Int}(h:1<=n/\n<=10):cwL[(n-1).toNat]?=some (cword n):=by
 have:n=1\/n=2\/n=3\/n=4\/n=5\/n=6\/n=7\/n=8\/n=9\/n=10:=by omega
 rcases this with rfl|rfl|rfl|rfl|rfl|rfl|rfl|rfl|rfl|rfl<;>rfl
theorem qw_at {n:Int}(h:1<=n/\n<=6):qwL[(n-1).toNat]?=some (qword n):=by
 have:n=1\/n=2\/n=3\/n=4\/n=5\/n=6:=by omega
 rcases this with rfl|rfl|rfl|rfl|rfl|rfl<;>rfl
theorem great_call {N:Nat}(IH:PartQ N)(e:Ex)(hNk:e.kids.size<=N)(he:e.fit)(ao:Option Addr)(cap wb:Nat)(st:Ow)(w:World)(o:Nat->Nat)(S:Sl w (L0 o) e.kids ao)(H:WQ w o wb st)(hk:e.k=20)(hn:1<=e.n/\e.n<=10) :
  Calls Tryz.prog 233 #[.pointer (some ⟨wb,0,none⟩),exV e ao cap] w (PostO w o wb (oNode e.k e.n e.nm (fun g s=>oFs e.kids (e.k==21) g 0 s) st)):=by
 have hek:e.k=20\/e.k=24\/e.k=25:=by omega
 have HF:Hid (oNode e.k e.n e.nm (fun g s=>oFs e.kids (e.k==21) g 0 s) st=putO [41] (leaO (oFs e.kids (e.k==21) comS 0 (putO [40] (entO (putO (cword e.n) st)))))):=by
  show _=_;unfold oNode;rw[if_neg (by omega),if_neg (by omega),if_neg (by omega),if_neg (by omega),if_pos hk];rfl
 have b19:(e.k==19)=false:=bne (by omega);have b21:(e.k==21)=false:=bne (by omega);have b20:(e.k==20)=true:=by simp[hk]
 have HEK:=Lib.hid hek;have hcw:=cw_at hn;obtain⟨j,hj⟩:∃j,j=(e.n-1).toNat:=⟨_,rfl⟩
 rw[<-hj] at hcw;have hw1:IntKind.i64.wrap (e.n-1)=(j:Int):=by rw[IntKind.wrap_i64];omega
 have hj9:j<10:=by omega
 have hjI:(j:Int)<10:=by omega
 have HP:Hid (∀ wx oo,WQ wx oo wb st->Calls Tryz.prog 229 #[.pointer (some ⟨wb,0,none⟩),stv (cword e.n)] wx (PostO wx oo wb (putO (cword e.n) st))):=fun wx oo h=>puts_o _ h (by have:=cword_len e.n;omega);generalize putO (cword e.n) st=st2 at *;generalize cword e.n=cw at *;have HCW:=Lib.hid hcw;clear hk hek hn hj hcw;have s0:=boxStep (fun _=>False) w o (bxX e ao cap);have E0:Blk (w.alloc (bxX e ao cap)) (newLab w o 0) 0 w.heap.size (bxX e ao cap):=boxBlk w o _ _;have S0:=S.stp0 s0;have H0:=H.stp0 s0;have T0:=s0.i12;clear S H s0;rw[exV_out];go_enter Tryz.func233,Tryz.ntmps233;go_upto_region 1 with fail;generalize w.alloc (bxX e ao cap)=w0 at *;generalize newLab w o 0=o0 at *;generalize w.heap.size=be at *;have HCk:Hid (∀ wx oo,Blk wx oo 0 be (bxX e ao cap)->wx.cell? ⟨be,1,none⟩=some (.int .i64 e.n)):=fun wx oo h=>(box5 h.1).2.1;have E0d:Blk w0.drew o0 0 be (bxX e ao cap):=E0;obtain⟨p0,p1,p2,p3,p4,pf⟩:=box5 E0.1;go_upto_region 25 with fail;go_cut [105] (fun v wx=>∃o2,WQ wx o2 wb st2/\Blk wx o2 0 be (bxX e ao cap)/\Sl wx (L0 o2) e.kids ao/\Step I12 w o wx o2)
 case first =>
  refine wp_region_held_drew (S:=fun wx=>wx.cell? ⟨be,1,none⟩=some (.int .i64 e.n)) (by kernel_rfl) (HCk.out _ _ E0d) (fun hHeld=>?_);refine wpAnyH_take (i:=0) (v:=?v1) rfl (by kernel_rfl) (by kernel_rfl) (by kernel_rfl) (fun _ _ _ h=>h) (Or.inl ⟨by rfl,?hy1⟩) (by assumption) ?rest1
  case hy1=>(intro w hSw;(try dsimp only at hSw);go_simp;all_goals (with_reducible rfl))
  simp only[Act.put,List.getElem_toArray,List.getElem_cons_zero,List.getElem_cons_succ,List.setIfInBounds_toArray,List.set_cons_zero,List.set_cons_succ];refine wpAnyH_take (i:=2) (v:=?v2) rfl (by kernel_rfl) (by kernel_rfl) (by kernel_rfl) (fun _ _ _ h=>h) (Or.inl ⟨by rfl,?hy2⟩) (by assumption) ?rest2
  case hy2=>(intro w hSw;(try dsimp only at hSw);go_simp;all_goals (with_reducible rfl))
  simp only[Act.put,List.getElem_toArray,List.getElem_cons_zero,List.getElem_cons_succ,List.setIfInBounds_toArray,List.set_cons_zero,List.set_cons_succ];refine wpAnyH_take (i:=3) (v:=?v3) rfl (by kernel_rfl) (by kernel_rfl) (by kernel_rfl) (fun _ _ _ h=>h) (Or.inl ⟨by rfl,?hy3⟩) (by assumption) ?rest3
  case hy3=>(intro w hSw;(try dsimp only at hSw);go_simp;all_goals (with_reducible rfl))
  simp only[Act.put,List.getElem_toArray,List.getElem_cons_zero,List.getElem_cons_succ,List.setIfInBounds_toArray,List.set_cons_zero,List.set_cons_succ];refine wpAnyH_take (i:=4) (v:=?v4) rfl (by kernel_rfl) (by kernel_rfl) (by kernel_rfl) (fun _ _ _ h=>h) (Or.inl ⟨by rfl,?hy4⟩) (by assumption) ?rest4
  case hy4=>(intro w hSw;(try dsimp only at hSw);go_simp;all_goals (with_reducible rfl))
  simp only[Act.put,List.getElem_toArray,List.getElem_cons_zero,List.getElem_cons_succ,List.setIfInBounds_toArray,List.set_cons_zero,List.set_cons_succ];refine wpAnyH_ready (rs:=[1]) (by kernel_rfl) (by simp) ?_;refine AllReadyH.cons rfl (fun K hK=>?_) AllReadyH.nil
  go_simp
  go_wp2_with ((go_at_call 158;refine(calls_s _).mono ?_;rintro e2 w1 ⟨g1,rfl,WL⟩;have sA:Step (fun _=>False) w0 o0 w1 o0:=(Step.refl _ w0 o0).drew.trans (Step.ofB o0 WL.1);have E1:Blk w1 o0 0 be (bxX e ao cap):=E0.step sA id;have H1:=H0.stp0 sA;have S1:=S0.stp0 sA;have T1:=T0.trans sA.i12;have ix:=WL.2.2.2 j _ HCW.out));refine hK.out _ _ (HCk.out _ _ E1) (fun hHeld=>?_);clear hK K;refine wpAnyH_take (i:=5) (v:=?v5) rfl (by kernel_rfl) (by kernel_rfl) (by kernel_rfl) (fun _ _ _ h=>h) (Or.inl ⟨by rfl,?hy5⟩) (by assumption) ?rest5
  case hy5=>(intro w hSw;(try dsimp only at hSw);go_simp;all_goals (with_reducible rfl))
  simp only[Act.put,List.getElem_toArray,List.getElem_cons_zero,List.getElem_cons_succ,List.setIfInBounds_toArray,List.set_cons_zero,List.set_cons_succ];refine wpAnyH_ready (rs:=[6]) (by kernel_rfl) (by simp) ?_;refine AllReadyH.cons rfl (fun K hK=>?_) AllReadyH.nil
  go_simp
  refine hK.out _ _ (HCk.out _ _ E1) (fun hHeld=>?_);clear hK K;refine wpAnyH_ready (rs:=[7]) (by kernel_rfl) (by simp) ?_;refine AllReadyH.cons rfl (fun K hK=>?_) AllReadyH.nil
  go_simp
  go_wp2_with ((go_at_call 229;refine(HP.out _ _ H1).mono ?_;rintro e2 w2 ⟨rfl,o2,H2,s2⟩;have E2:=E1.stp s2;have S2:=S1.stp s2;have T2:=T1.trans s2));refine hK.out _ _ (HCk.out _ _ E2) (fun hHeld=>?_);clear hK K;refine wpAnyH_done (by kernel_rfl) ?_ _;go_wp2;go_meet;exact⟨o2,H2,E2,S2,T2⟩
 case rest =>
 obtain⟨o2,H2,E2,S2,T2⟩:=hcut;obtain⟨w2,rfl⟩:∃w2,w2=wc:=⟨_,rfl⟩
 clear H0 S0 T0 E0 E0d HP HCk p0 p1 p2 p3 p4 pf;obtain⟨p0,p1,p2,p3,p4,pf⟩:=box5 E2.1;have c3:=opens_o [40] H2 (by simp);have hb3:Bal (entO st2) (putO [40] (entO st2)):=(Bal.refl _).put [40];have hp:Hid (∀ s,Bal (entO st2) s->∀ x,s=some x->1<=x.o):=fun s h=>ent_pos h;generalize putO [40] (entO st2)=st3 at *;generalize entO st2=se at *;go_wp2_with fail;refine c3.mono ?_;rintro e2 w3 ⟨rfl,o3,H3,s3⟩;have T3:=T2.trans s3;have S3:=S2.stp s3;have E3:=E2.stp s3;clear c3 H2 T2 S2 E2 s3 p0 p1 p2 p3 p4 pf;obtain⟨p0,p1,p2,p3,p4,pf⟩:=box5 E3.1;have hek:=HEK.out;have c4:=list_qw IH e hek hNk he ao cap wb st3 w3 o3 S3 H3;rw[exV_out] at c4;have hb4:=hb3.trans (fs_bal e.kids (e.k==21) comS 0 st3);generalize oFs e.kids (e.k==21) comS 0 st3=st4 at *;go_wp2_with fail;refine c4.mono ?_;rintro e2 w4 ⟨rfl,o4,H4,s4⟩;have T4:=T3.trans s4;have S4:=S3.stp s4;have E4:=E3.stp s4;clear c4 H3 T3 S3 E3 s4 p0 p1 p2 p3 p4 pf hb3;obtain⟨p0,p1,p2,p3,p4,pf⟩:=box5 E4.1;clear hek;obtain⟨oo5,dd5,df5,s5,H5⟩:=H4.lea (hp.out _ hb4);generalize leaO st4=st5 at *;have T5:=T4.trans s5;have S5:=S4.stp s5;have E5:=E4.stp s5;go_upto_region 29 with fail;generalize w4.setCell ⟨wb,1,none⟩ (.int .i64 (wrap64 (oo5-1)))=w5 at *;clear dd5 df5 H4 T4 S4 E4 s5 p0 p1 p2 p3 p4 pf hp hb4;generalize o4=o5 at *;obtain⟨p0,p1,p2,p3,p4,pf⟩:=box5 E5.1;have c6:=puts_o [41] H5 (by simp);generalize putO [41] st5=st6 at *;go_wp2_with fail;refine c6.mono ?_;rintro e2 w6 ⟨rfl,o6,H6,s6⟩;have T6:=T5.trans s6;have S6:=S5.stp s6;have E6:=E5.stp s6;clear c6 H5 T5 S5 E5 s6 p0 p1 p2 p3 p4 pf;obtain⟨p0,p1,p2,p3,p4,pf⟩:=box5 E6.1;go_wp2
 go_end0
 exact⟨rfl,o6,by rw[HF.out];exact H6,T6⟩
theorem great_quant {N:Nat}(IH:PartQ N)(e:Ex)(hNk:e.kids.size<=N)(he:e.fit)(ao:Option Addr)(cap wb:Nat)(st:Ow)(w:World)(o:Nat->Nat)(S:Sl w (L0 o) e.kids ao)(H:WQ w o wb st)(hk:e.k=21)(hn:1<=e.n/\e.n<=6)(hl:e.kids.len=2)(hnm:e.nm.length<=12) :
  Calls Tryz.prog 233 #[.pointer (some ⟨wb,0,none⟩),exV e ao cap] w (PostO w o wb (oNode e.k e.n e.nm (fun g s=>oFs e.kids (e.k==21) g 0 s) st)):=by
 obtain⟨x,y,hks⟩:=len2 hl;have hk0:Hid (e.kids=Fs.app .nil (Fs.ex x (Fs.ex y .nil))):=hks;have hk1:Hid (e.kids=Fs.app (one x) (Fs.ex y .nil)):=by show _=_;rw[hks];rfl
 have hsz:e.kids.size=x.kids.size+(y.kids.size+0+1)+1:=by rw[hks];rfl
 have hNx:x.kids.size<N:=by omega
 have hNy:y.kids.size<N:=by omega
 have hfx:=Ex.kidfit he hk0.out;have hfy:=Ex.kidfit he hk1.out;have HF:Hid (oNode e.k e.n e.nm (fun g s=>oFs e.kids (e.k==21) g 0 s) st=qleO (leaO (oKid e y 1 (putO [58,32] (oKid e x 0 (putO (qword e.n++[32]++e.nm++[32,105,110,32]) (entO (qenO st)))))))):=by
  show _=_;unfold oNode;rw[if_neg (by omega),if_neg (by omega),if_neg (by omega),if_pos hk];simp only[hks,oFs_ex];rw[okid_eq e x 0 _ (by rw[hk];rfl) (by rw[hk];rfl),okid_eq e y 1 _ (by rw[hk];rfl) (by rw[hk];rfl)];rfl
 have b19:(e.k==19)=false:=bne (by omega);have b21:(e.k==21)=true:=by simp[hk]
 have hqw:=qw_at hn;obtain⟨j,hj⟩:∃j,j=(e.n-1).toNat:=⟨_,rfl⟩
 rw[<-hj] at hqw;have hw1:IntKind.i64.wrap (e.n-1)=(j:Int):=by rw[IntKind.wrap_i64];omega
 have hj9:j<6:=by omega
 have hjI:(j:Int)<6:=by omega
 have hql:=qword_len e.n;have HO:Hid (∀ wx oo (su:Ow),WQ wx oo wb su->Calls Tryz.prog 231 #[.pointer (some ⟨wb,0,none⟩),.string (⟨(qword e.n).toArray⟩++⟨#[32]⟩++⟨e.nm.toArray⟩++⟨#[32,105,110,32]⟩)] wx (PostO wx oo wb (putO (qword e.n++[32]++e.nm++[32,105,110,32]) (entO su)))):=fun wx oo su h=>by
  have h9:=opens_o (qword e.n++[32]++e.nm++[32,105,110,32]) h (by simp only[List.length_append,List.length_cons,List.length_nil];omega);have e9:(⟨(qword e.n).toArray⟩++⟨#[32]⟩++⟨e.nm.toArray⟩++⟨#[32,105,110,32]⟩:ByteArray)=⟨(qword e.n++[32]++e.nm++[32,105,110,32]).toArray⟩:=by
   rw[<-cat2,<-cat2,<-cat2]
  rw[e9];exact h9
 have hm1:=size_mk (qword e.n);have hm2:=size_mk e.nm;have HQ:=Lib.hid hqw;generalize qword e.n=qw at *;clear hks hk hl hsz hj hqw hn;have s0:=boxStep (fun _=>False) w o (bxX e ao cap);have E0:Blk (w.alloc (bxX e ao cap)) (newLab w o 0) 0 w.heap.size (bxX e ao cap):=boxBlk w o _ _;have S0:=S.stp0 s0;have H0:=H.stp0 s0;have T0:=s0.i12;clear S H s0;rw[exV_out];go_enter Tryz.func233,Tryz.ntmps233;go_upto_region 1 with fail;generalize w.alloc (bxX e ao cap)=w0 at *;generalize newLab w o 0=o0 at *;generalize w.heap.size=be at *;have HQP:Hid (∀ s,Bal (qenO st) s->∀ x,s=some x->1<=x.q):=fun s h=>qen_pos h;obtain⟨qq,c2,cf,sq0,hh⟩:=H0.qen;have hen:=H0.end.1;generalize qenO st=sq at *;obtain⟨p0,p1,p2,p3,p4,pf⟩:=box5 E0.1;obtain⟨w4,hw4⟩:∃w4,w4=w0.setCell ⟨wb,2,none⟩ (.int .i64 (wrap64 (qq+1))):=⟨_,rfl⟩
 have d2:w4.cell? ⟨wb,2,none⟩=some (.int .i64 (wrap64 (qq+1))):=by rw[hw4];exact World.cell?_setCell_same _ _ _ c2
 have df:∀ j,w4.frozen? ⟨wb,j,none⟩=false:=fun j=>by rw[hw4];exact(World.frozen?_setCell ..).trans (cf j)
 have d3:w4.cell? ⟨wb,3,none⟩=some (.bool st.isSome):=by rw[hw4];exact(World.cell?_setCell_other _ _ _ _ (by simp)).trans hen
 go_upto_region 16 with fail;rw[<-hw4];rw[<-hw4] at hh sq0;have E4:=E0.stp sq0;have S4:=S0.stp sq0;have T4:=T0.trans sq0;clear hw4 c2 cf hen E0 S0 T0 H0 sq0 p0 p1 p2 p3 p4 pf;rcases hh with ⟨hl,H5⟩|⟨hl,H5⟩
 ·have s5:Step I12 w4 o0 (w4.setCell ⟨wb,3,none⟩ (.bool false)) o0:=by
   obtain⟨t,oo2,qq2,ok,hr,_⟩:=H5.raw;obtain⟨v,hb,_⟩:=hr;exact setStep _ w4 o0 ⟨wb,3,none⟩ _ (.inl hb.2)
  have E5:=E4.stp s5;have S5:=S4.stp s5;have T5:=T4.trans s5;go_upto_region 18 with fail;generalize w4.setCell ⟨wb,3,none⟩ (.bool false)=w5 at *;clear d2 df d3 s5 E4 S4 T4;have HCk:Hid (∀ wx oo,Blk wx oo 0 be (bxX e ao cap)->wx.cell? ⟨be,1,none⟩=some (.int .i64 e.n)/\wx.cell? ⟨be,2,none⟩=some (stv e.nm)):=fun wx oo h=>⟨(box5 h.1).2.1,(box5 h.1).2.2.1⟩;have E5d:Blk w5.drew o0 0 be (bxX e ao cap):=E5;obtain⟨p0,p1,p2,p3,p4,pf⟩:=box5 E5.1;have HO2:Hid (∀ wx oo,WQ wx oo wb sq->Calls Tryz.prog 231 #[.pointer (some ⟨wb,0,none⟩),.string (⟨qw.toArray⟩++⟨#[32]⟩++⟨e.nm.toArray⟩++⟨#[32,105,110,32]⟩)] wx (PostO wx oo wb (putO (qw++[32]++e.nm++[32,105,110,32]) (entO sq)))):=fun wx oo h=>HO.out wx oo sq h;have hb7:Bal (entO sq) (putO (qw++[32]++e.nm++[32,105,110,32]) (entO sq)):=(Bal.refl _).put _;have hp:Hid (∀ s,Bal (entO sq) s->∀ x,s=some x->1<=x.o):=fun s h=>ent_pos h;have hl9:Hid (∀ s,Bal (entO sq) s->Bal sq (leaO s)):=fun s h=>Bal.lea h;generalize putO (qw++[32]++e.nm++[32,105,110,32]) (entO sq)=st7 at *;clear HO;go_upto_region 18 with fail;go_cut [73] (fun v wx=>∃o7,WQ wx o7 wb st7/\Blk wx o7 0 be (bxX e ao cap)/\Sl wx (L0 o7) e.kids ao/\Step I12 w o wx o7)
  case first =>
   refine wp_region_held_drew (S:=fun wx=>wx.cell? ⟨be,1,none⟩=some (.int .i64 e.n)/\wx.cell? ⟨be,2,none⟩=some (stv e.nm)) (by kernel_rfl) (HCk.out _ _ E5d) (fun hHeld=>?_);refine wpAnyH_take (i:=0) (v:=?v6) rfl (by kernel_rfl) (by kernel_rfl) (by kernel_rfl) (fun _ _ _ h=>h) (Or.inl ⟨by rfl,?hy6⟩) (by assumption) ?rest6
   case hy6=>(intro w hSw;(try dsimp only at hSw);go_simp;all_goals (with_reducible rfl))
   simp only[Act.put,List.getElem_toArray,List.getElem_cons_zero,List.getElem_cons_succ,List.setIfInBounds_toArray,List.set_cons_zero,List.set_cons_succ];refine wpAnyH_take (i:=2) (v:=?v7) rfl (by kernel_rfl) (by kernel_rfl) (by kernel_rfl) (fun _ _ _ h=>h) (Or.inl ⟨by rfl,?hy7⟩) (by assumption) ?rest7
   case hy7=>(intro w hSw;(try dsimp only at hSw);go_simp;all_goals (with_reducible rfl))
   simp only[Act.put,List.getElem_toArray,List.getElem_cons_zero,List.getElem_cons_succ,List.setIfInBounds_toArray,List.set_cons_zero,List.set_cons_succ];refine wpAnyH_take (i:=3) (v:=?v8) rfl (by kernel_rfl) (by kernel_rfl) (by kernel_rfl) (fun _ _ _ h=>h) (Or.inl ⟨by rfl,?hy8⟩) (by assumption) ?rest8
   case hy8=>(intro w hSw;(try dsimp only at hSw);go_simp;all_goals (with_reducible rfl))
   simp only[Act.put,List.getElem_toArray,List.getElem_cons_zero,List.getElem_cons_succ,List.setIfInBounds_toArray,List.set_cons_zero,List.set_cons_succ];refine wpAnyH_take (i:=4) (v:=?v9) rfl (by kernel_rfl) (by kernel_rfl) (by kernel_rfl) (fun _ _ _ h=>h) (Or.inl ⟨by rfl,?hy9⟩) (by assumption) ?rest9
   case hy9=>(intro w hSw;(try dsimp only at hSw);go_simp;all_goals (with_reducible rfl))
   simp only[Act.put,List.getElem_toArray,List.getElem_cons_zero,List.getElem_cons_succ,List.setIfInBounds_toArray,List.set_cons_zero,List.set_cons_succ];refine wpAnyH_take (i:=8) (v:=?v10) rfl (by kernel_rfl) (by kernel_rfl) (by kernel_rfl) (fun _ _ _ h=>h) (Or.inl ⟨by rfl,?hy10⟩) (by assumption) ?rest10
   case hy10=>(intro w hSw;(try dsimp only at hSw);go_simp;all_goals (with_reducible rfl))
   simp only[Act.put,List.getElem_toArray,List.getElem_cons_zero,List.getElem_cons_succ,List.setIfInBounds_toArray,List.set_cons_zero,List.set_cons_succ];refine wpAnyH_take (i:=9) (v:=?v11) rfl (by kernel_rfl) (by kernel_rfl) (by kernel_rfl) (fun _ _ _ h=>h) (Or.inl ⟨by rfl,?hy11⟩) (by assumption) ?rest11
   case hy11=>(intro w hSw;(try dsimp only at hSw);go_simp;all_goals (with_reducible rfl))
   simp only[Act.put,List.getElem_toArray,List.getElem_cons_zero,List.getElem_cons_succ,List.setIfInBounds_toArray,List.set_cons_zero,List.set_cons_succ];refine wpAnyH_ready (rs:=[1]) (by kernel_rfl) (by simp) ?_;refine AllReadyH.cons rfl (fun K hK=>?_) AllReadyH.nil
   go_simp
   go_wp2_with ((go_at_call 159;refine(quants_s _).mono ?_;rintro e2 w6 ⟨g1,rfl,WL⟩;have sA:Step (fun _=>False) w5 o0 w6 o0:=(Step.refl _ w5 o0).drew.trans (Step.ofB o0 WL.1);have E6:Blk w6 o0 0 be (bxX e ao cap):=E5.step sA id;have H6:=H5.stp0 sA;have S6:=S5.stp0 sA;have T6:=T5.trans sA.i12;have ix:=WL.2.2.2 j _ HQ.out));refine hK.out _ _ (HCk.out _ _ E6) (fun hHeld=>?_);clear hK K;refine wpAnyH_take (i:=5) (v:=?v12) rfl (by kernel_rfl) (by kernel_rfl) (by kernel_rfl) (fun _ _ _ h=>h) (Or.inl ⟨by rfl,?hy12⟩) (by assumption) ?rest12
   case hy12=>(intro w hSw;(try dsimp only at hSw);go_simp;all_goals (with_reducible rfl))
   simp only[Act.put,List.getElem_toArray,List.getElem_cons_zero,List.getElem_cons_succ,List.setIfInBounds_toArray,List.set_cons_zero,List.set_cons_succ];refine wpAnyH_ready (rs:=[6]) (by kernel_rfl) (by simp) ?_;refine AllReadyH.cons rfl (fun K hK=>?_) AllReadyH.nil
   go_simp
   refine hK.out _ _ (HCk.out _ _ E6) (fun hHeld=>?_);clear hK K;refine wpAnyH_take (i:=7) (v:=?v13) rfl (by kernel_rfl) (by kernel_rfl) (by kernel_rfl) (fun _ _ _ h=>h) (Or.inl ⟨by rfl,?hy13⟩) (by assumption) ?rest13
   case hy13=>(intro w hSw;(try dsimp only at hSw);go_simp;rw[if_neg (by omega)])
   simp only[Act.put,List.getElem_toArray,List.getElem_cons_zero,List.getElem_cons_succ,List.setIfInBounds_toArray,List.set_cons_zero,List.set_cons_succ];refine wpAnyH_take (i:=10) (v:=?v14) rfl (by kernel_rfl) (by kernel_rfl) (by kernel_rfl) (fun _ _ _ h=>h) (Or.inl ⟨by rfl,?hy14⟩) (by assumption) ?rest14
   case hy14=>(intro w hSw;(try dsimp only at hSw);go_simp;rw[if_neg (by omega)])
   simp only[Act.put,List.getElem_toArray,List.getElem_cons_zero,List.getElem_cons_succ,List.setIfInBounds_toArray,List.set_cons_zero,List.set_cons_succ];refine wpAnyH_take (i:=11) (v:=?v15) rfl (by kernel_rfl) (by kernel_rfl) (by kernel_rfl) (fun _ _ _ h=>h) (Or.inl ⟨by rfl,?hy15⟩) (by assumption) ?rest15
   case hy15=>(intro w hSw;(try dsimp only at hSw);go_simp;rw[if_neg (by omega)])
   simp only[Act.put,List.getElem_toArray,List.getElem_cons_zero,List.getElem_cons_succ,List.setIfInBounds_toArray,List.set_cons_zero,List.set_cons_succ];refine wpAnyH_ready (rs:=[12]) (by kernel_rfl) (by simp) ?_;refine AllReadyH.cons rfl (fun K hK=>?_) AllReadyH.nil
   go_simp
   go_wp2_with ((go_at_call 231;refine(HO2.out _ _ H6).mono ?_;rintro e2 w7 ⟨rfl,o7,H7,s7⟩;have E7:=E6.stp s7;have S7:=S6.stp s7;have T7:=T6.trans s7));refine hK.out _ _ (HCk.out _ _ E7) (fun hHeld=>?_);clear hK K;refine wpAnyH_done (by kernel_rfl) ?_ _;go_wp2;go_meet;exact⟨o7,H7,E7,S7,T7⟩
  case rest =>
  obtain⟨o7,H7,E7,S7,T7⟩:=hcut;obtain⟨w7,rfl⟩:∃w7,w7=wc:=⟨_,rfl⟩
  clear H5 S5 T5 E5 E5d HO2 HCk p0 p1 p2 p3 p4 pf;generalize entO sq=se at *;obtain⟨p0,p1,p2,p3,p4,pf⟩:=box5 E7.1;have c8:=kid_q IH e x .nil (Fs.ex y .nil) hk0.out 0 rfl (by omega) (hNx) (hfx) ao cap wb st7 w7 o7 S7 H7;rw[exV_out] at c8;have hb8:=hb7.trans (kid_bal e x 0 st7);generalize oKid e x 0 st7=st8 at *;go_wp2_with fail;refine c8.mono ?_;rintro e2 w8 ⟨rfl,o8,H8,s8⟩;have T8:=T7.trans s8;have S8:=S7.stp s8;have E8:=E7.stp s8;clear c8 H7 T7 S7 E7 s8 p0 p1 p2 p3 p4 pf hb7;obtain⟨p0,p1,p2,p3,p4,pf⟩:=box5 E8.1;have c9:=puts_o [58,32] H8 (by simp);have hb9:=hb8.put [58,32];generalize putO [58,32] st8=st9 at *;go_wp2_with fail;refine c9.mono ?_;rintro e2 w9 ⟨rfl,o9,H9,s9⟩;have T9:=T8.trans s9;have S9:=S8.stp s9;have E9:=E8.stp s9;clear c9 H8 T8 S8 E8 s9 p0 p1 p2 p3 p4 pf hb8;obtain⟨p0,p1,p2,p3,p4,pf⟩:=box5 E9.1;have c10:=kid_q IH e y (one x) .nil hk1.out 1 rfl (by omega) (hNy) (hfy) ao cap wb st9 w9 o9 S9 H9;rw[exV_out] at c10;have hb10:=hb9.trans (kid_bal e y 1 st9);generalize oKid e y 1 st9=st10 at *;go_wp2_with fail;refine c10.mono ?_;rintro e2 w10 ⟨rfl,o10,H10,s10⟩;have T10:=T9.trans s10;have S10:=S9.stp s10;have E10:=E9.stp s10;clear c10 H9 T9 S9 E9 s10 p0 p1 p2 p3 p4 pf hb9;obtain⟨p0,p1,p2,p3,p4,pf⟩:=box5 E10.1;have hq9:=hl9.out _ hb10;obtain⟨oo11,dd11,df11,s11,H11⟩:=H10.lea (hp.out _ hb10);generalize leaO st10=st11 at *;have T11:=T10.trans s11;have S11:=S10.stp s11;have E11:=E10.stp s11;go_upto_region 23 with fail;generalize w10.setCell ⟨wb,1,none⟩ (.int .i64 (wrap64 (oo11-1)))=w11 at *;clear dd11 df11 H10 T10 S10 E10 s11 p0 p1 p2 p3 p4 pf hp hb10;generalize o10=o11 at *;obtain⟨p0,p1,p2,p3,p4,pf⟩:=box5 E11.1;obtain⟨oo12,dd12,df12,s12,H12⟩:=H11.qle (HQP.out _ hq9);generalize qleO st11=st12 at *;have T12:=T11.trans s12;clear H11 T11 S11 E11 s12 p0 p1 p2 p3 p4 pf hq9 hl9;go_wp2
  go_end0
  exact⟨rfl,o11,by rw[HF.out];exact H12,T12⟩
 ·obtain⟨w5,rfl⟩:∃w5,w5=w4:=⟨_,rfl⟩
  have E5:=E4;have S5:=S4;have T5:=T4;clear E4 S4 T4;have HCk:Hid (∀ wx oo,Blk wx oo 0 be (bxX e ao cap)->wx.cell? ⟨be,1,none⟩=some (.int .i64 e.n)/\wx.cell? ⟨be,2,none⟩=some (stv e.nm)):=fun wx oo h=>⟨(box5 h.1).2.1,(box5 h.1).2.2.1⟩;have E5d:Blk w5.drew o0 0 be (bxX e ao cap):=E5;obtain⟨p0,p1,p2,p3,p4,pf⟩:=box5 E5.1;have HO2:Hid (∀ wx oo,WQ wx oo wb sq->Calls Tryz.prog 231 #[.pointer (some ⟨wb,0,none⟩),.string (⟨qw.toArray⟩++⟨#[32]⟩++⟨e.nm.toArray⟩++⟨#[32,105,110,32]⟩)] wx (PostO wx oo wb (putO (qw++[32]++e.nm++[32,105,110,32]) (entO sq)))):=fun wx oo h=>HO.out wx oo sq h;have hb7:Bal (entO sq) (putO (qw++[32]++e.nm++[32,105,110,32]) (entO sq)):=(Bal.refl _).put _;have hp:Hid (∀ s,Bal (entO sq) s->∀ x,s=some x->1<=x.o):=fun s h=>ent_pos h;have hl9:Hid (∀ s,Bal (entO sq) s->Bal sq (leaO s)):=fun s h=>Bal.lea h;generalize putO (qw++[32]++e.nm++[32,105,110,32]) (entO sq)=st7 at *;clear HO;go_upto_region 18 with fail;clear d2 df d3;go_cut [73] (fun v wx=>∃o7,WQ wx o7 wb st7/\Blk wx o7 0 be (bxX e ao cap)/\Sl wx (L0 o7) e.kids ao/\Step I12 w o wx o7)
  case first =>
   refine wp_region_held_drew (S:=fun wx=>wx.cell? ⟨be,1,none⟩=some (.int .i64 e.n)/\wx.cell? ⟨be,2,none⟩=some (stv e.nm)) (by kernel_rfl) (HCk.out _ _ E5d) (fun hHeld=>?_);refine wpAnyH_take (i:=0) (v:=?v16) rfl (by kernel_rfl) (by kernel_rfl) (by kernel_rfl) (fun _ _ _ h=>h) (Or.inl ⟨by rfl,?hy16⟩) (by assumption) ?rest16
   case hy16=>(intro w hSw;(try dsimp only at hSw);go_simp;all_goals (with_reducible rfl))
   simp only[Act.put,List.getElem_toArray,List.getElem_cons_zero,List.getElem_cons_succ,List.setIfInBounds_toArray,List.set_cons_zero,List.set_cons_succ];refine wpAnyH_take (i:=2) (v:=?v17) rfl (by kernel_rfl) (by kernel_rfl) (by kernel_rfl) (fun _ _ _ h=>h) (Or.inl ⟨by rfl,?hy17⟩) (by assumption) ?rest17
   case hy17=>(intro w hSw;(try dsimp only at hSw);go_simp;all_goals (with_reducible rfl))
   simp only[Act.put,List.getElem_toArray,List.getElem_cons_zero,List.getElem_cons_succ,List.setIfInBounds_toArray,List.set_cons_zero,List.set_cons_succ];refine wpAnyH_take (i:=3) (v:=?v18) rfl (by kernel_rfl) (by kernel_rfl) (by kernel_rfl) (fun _ _ _ h=>h) (Or.inl ⟨by rfl,?hy18⟩) (by assumption) ?rest18
   case hy18=>(intro w hSw;(try dsimp only at hSw);go_simp;all_goals (with_reducible rfl))
   simp only[Act.put,List.getElem_toArray,List.getElem_cons_zero,List.getElem_cons_succ,List.setIfInBounds_toArray,List.set_cons_zero,List.set_cons_succ];refine wpAnyH_take (i:=4) (v:=?v19) rfl (by kernel_rfl) (by kernel_rfl) (by kernel_rfl) (fun _ _ _ h=>h) (Or.inl ⟨by rfl,?hy19⟩) (by assumption) ?rest19
   case hy19=>(intro w hSw;(try dsimp only at hSw);go_simp;all_goals (with_reducible rfl))
   simp only[Act.put,List.getElem_toArray,List.getElem_cons_zero,List.getElem_cons_succ,List.setIfInBounds_toArray,List.set_cons_zero,List.set_cons_succ];refine wpAnyH_take (i:=8) (v:=?v20) rfl (by kernel_rfl) (by kernel_rfl) (by kernel_rfl) (fun _ _ _ h=>h) (Or.inl ⟨by rfl,?hy20⟩) (by assumption) ?rest20
   case hy20=>(intro w hSw;(try dsimp only at hSw);go_simp;all_goals (with_reducible rfl))
   simp only[Act.put,List.getElem_toArray,List.getElem_cons_zero,List.getElem_cons_succ,List.setIfInBounds_toArray,List.set_cons_zero,List.set_cons_succ];refine wpAnyH_take (i:=9) (v:=?v21) rfl (by kernel_rfl) (by kernel_rfl) (by kernel_rfl) (fun _ _ _ h=>h) (Or.inl ⟨by rfl,?hy21⟩) (by assumption) ?rest21
   case hy21=>(intro w hSw;(try dsimp only at hSw);go_simp;all_goals (with_reducible rfl))
   simp only[Act.put,List.getElem_toArray,List.getElem_cons_zero,List.getElem_cons_succ,List.setIfInBounds_toArray,List.set_cons_zero,List.set_cons_succ];refine wpAnyH_ready (rs:=[1]) (by kernel_rfl) (by simp) ?_;refine AllReadyH.cons rfl (fun K hK=>?_) AllReadyH.nil
   go_simp
   go_wp2_with ((go_at_call 159;refine(quants_s _).mono ?_;rintro e2 w6 ⟨g1,rfl,WL⟩;have sA:Step (fun _=>False) w5 o0 w6 o0:=(Step.refl _ w5 o0).drew.trans (Step.ofB o0 WL.1);have E6:Blk w6 o0 0 be (bxX e ao cap):=E5.step sA id;have H6:=H5.stp0 sA;have S6:=S5.stp0 sA;have T6:=T5.trans sA.i12;have ix:=WL.2.2.2 j _ HQ.out));refine hK.out _ _ (HCk.out _ _ E6) (fun hHeld=>?_);clear hK K;refine wpAnyH_take (i:=5) (v:=?v22) rfl (by kernel_rfl) (by kernel_rfl) (by kernel_rfl) (fun _ _ _ h=>h) (Or.inl ⟨by rfl,?hy22⟩) (by assumption) ?rest22
   case hy22=>(intro w hSw;(try dsimp only at hSw);go_simp;all_goals (with_reducible rfl))
   simp only[Act.put,List.getElem_toArray,List.getElem_cons_zero,List.getElem_cons_succ,List.setIfInBounds_toArray,List.set_cons_zero,List.set_cons_succ];refine wpAnyH_ready (rs:=[6]) (by kernel_rfl) (by simp) ?_;refine AllReadyH.cons rfl (fun K hK=>?_) AllReadyH.nil
   go_simp
   refine hK.out _ _ (HCk.out _ _ E6) (fun hHeld=>?_);clear hK K;refine wpAnyH_take (i:=7) (v:=?v23) rfl (by kernel_rfl) (by kernel_rfl) (by kernel_rfl) (fun _ _ _ h=>h) (Or.inl ⟨by rfl,?hy23⟩) (by assumption) ?rest23
   case hy23=>(intro w hSw;(try dsimp only at hSw);go_simp;rw[if_neg (by omega)])
   simp only[Act.put,List.getElem_toArray,List.getElem_cons_zero,List.getElem_cons_succ,List.setIfInBounds_toArray,List.set_cons_zero,List.set_cons_succ];refine wpAnyH_take (i:=10) (v:=?v24) rfl (by kernel_rfl) (by kernel_rfl) (by kernel_rfl) (fun _ _ _ h=>h) (Or.inl ⟨by rfl,?hy24⟩) (by assumption) ?rest24
   case hy24=>(intro w hSw;(try dsimp only at hSw);go_simp;rw[if_neg (by omega)])
   simp only[Act.put,List.getElem_toArray,List.getElem_cons_zero,List.getElem_cons_succ,List.setIfInBounds_toArray,List.set_cons_zero,List.set_cons_succ];refine wpAnyH_take (i:=11) (v:=?v25) rfl (by kernel_rfl) (by kernel_rfl) (by kernel_rfl) (fun _ _ _ h=>h) (Or.inl ⟨by rfl,?hy25⟩) (by assumption) ?rest25
   case hy25=>(intro w hSw;(try dsimp only at hSw);go_simp;rw[if_neg (by omega)])
   simp only[Act.put,List.getElem_toArray,List.getElem_cons_zero,List.getElem_cons_succ,List.setIfInBounds_toArray,List.set_cons_zero,List.set_cons_succ];refine wpAnyH_ready (rs:=[12]) (by kernel_rfl) (by simp) ?_;refine AllReadyH.cons rfl (fun K hK=>?_) AllReadyH.nil
   go_simp
   go_wp2_with ((go_at_call 231;refine(HO2.out _ _ H6).mono ?_;rintro e2 w7 ⟨rfl,o7,H7,s7⟩;have E7:=E6.stp s7;have S7:=S6.stp s7;have T7:=T6.trans s7));refine hK.out _ _ (HCk.out _ _ E7) (fun hHeld=>?_);clear hK K;refine wpAnyH_done (by kernel_rfl) ?_ _;go_wp2;go_meet;exact⟨o7,H7,E7,S7,T7⟩
  case rest =>
  obtain⟨o7,H7,E7,S7,T7⟩:=hcut;obtain⟨w7,rfl⟩:∃w7,w7=wc:=⟨_,rfl⟩
  clear H5 S5 T5 E5 E5d HO2 HCk p0 p1 p2 p3 p4 pf;generalize entO sq=se at *;obtain⟨p0,p1,p2,p3,p4,pf⟩:=box5 E7.1;have c8:=kid_q IH e x .nil (Fs.ex y .nil) hk0.out 0 rfl (by omega) (hNx) (hfx) ao cap wb st7 w7 o7 S7 H7;rw[exV_out] at c8;have hb8:=hb7.trans (kid_bal e x 0 st7);generalize oKid e x 0 st7=st8 at *;go_wp2_with fail;refine c8.mono ?_;rintro e2 w8 ⟨rfl,o8,H8,s8⟩;have T8:=T7.trans s8;have S8:=S7.stp s8;have E8:=E7.stp s8;clear c8 H7 T7 S7 E7 s8 p0 p1 p2 p3 p4 pf hb7;obtain⟨p0,p1,p2,p3,p4,pf⟩:=box5 E8.1;have c9:=puts_o [58,32] H8 (by simp);have hb9:=hb8.put [58,32];generalize putO [58,32] st8=st9 at *;go_wp2_with fail;refine c9.mono ?_;rintro e2 w9 ⟨rfl,o9,H9,s9⟩;have T9:=T8.trans s9;have S9:=S8.stp s9;have E9:=E8.stp s9;clear c9 H8 T8 S8 E8 s9 p0 p1 p2 p3 p4 pf hb8;obtain⟨p0,p1,p2,p3,p4,pf⟩:=box5 E9.1;have c10:=kid_q IH e y (one x) .nil hk1.out 1 rfl (by omega) (hNy) (hfy) ao cap wb st9 w9 o9 S9 H9;rw[exV_out] at c10;have hb10:=hb9.trans (kid_bal e y 1 st9);generalize oKid e y 1 st9=st10 at *;go_wp2_with fail;refine c10.mono ?_;rintro e2 w10 ⟨rfl,o10,H10,s10⟩;have T10:=T9.trans s10;have S10:=S9.stp s10;have E10:=E9.stp s10;clear c10 H9 T9 S9 E9 s10 p0 p1 p2 p3 p4 pf hb9;obtain⟨p0,p1,p2,p3,p4,pf⟩:=box5 E10.1;have hq9:=hl9.out _ hb10;obtain⟨oo11,dd11,df11,s11,H11⟩:=H10.lea (hp.out _ hb10);generalize leaO st10=st11 at *;have T11:=T10.trans s11;have S11:=S10.stp s11;have E11:=E10.stp s11;go_upto_region 23 with fail;generalize w10.setCell ⟨wb,1,none⟩ (.int .i64 (wrap64 (oo11-1)))=w11 at *;clear dd11 df11 H10 T10 S10 E10 s11 p0 p1 p2 p3 p4 pf hp hb10;generalize o10=o11 at *;obtain⟨p0,p1,p2,p3,p4,pf⟩:=box5 E11.1;obtain⟨oo12,dd12,df12,s12,H12⟩:=H11.qle (HQP.out _ hq9);generalize qleO st11=st12 at *;have T12:=T11.trans s12;clear H11 T11 S11 E11 s12 p0 p1 p2 p3 p4 pf hq9 hl9;go_wp2
  go_end0
  exact⟨rfl,o11,by rw[HF.out];exact H12,T12⟩
theorem op_in (k:Int):(opOf k).isSome=decide (8<=k/\k<=18):=by
 by_cases h:8<=k/\k<=18
 ·rw[show decide (8<=k/\k<=18)=true by simpa using h]
  have:k=8\/k=9\/k=10\/k=11\/k=12\/k=13\/k=14\/k=15\/k=16\/k=17\/k=18:=by omega
  rcases this with rfl|rfl|rfl|rfl|rfl|rfl|rfl|rfl|rfl|rfl|rfl<;>rfl
 ·rw[show decide (8<=k/\k<=18)=false by simpa using h,Option.isSome_eq_false_iff,Option.isNone_iff_eq_none];unfold opOf;rw[List.find?_eq_none];intro x hx
  have:∀ x ∈ opsL,8<=x.2.1/\x.2.1<=18:=by decide
  have:=this x hx
  simp only[beq_iff_eq];omega
theorem call_many {n:Int}(h:1<=n/\n<=10):∃x,callOf n=some x/\(x.2.2:Int)=if 1<=n/\n<=3 then 2 else 1:=by
 have:n=1\/n=2\/n=3\/n=4\/n=5\/n=6\/n=7\/n=8\/n=9\/n=10:=by omega
 rcases this with rfl|rfl|rfl|rfl|rfl|rfl|rfl|rfl|rfl|rfl<;>exact⟨_,rfl,rfl⟩
theorem kid_ok {k n:Int}(h:numB k n=true)(m:Nat):kidB k n m=(!decide (kidN k n < -1)&&(decide (kidN k n<0)||decide ((m:Int)=kidN k n))):=by
 have e0:∀ c:Int,decide ((m:Int)=c)=((m:Int)==c):=fun c=>rfl;by_cases h1:k=1
 ·subst h1
  first|(simp[kidB,kidN,e0];done)|(simp[kidB,kidN,e0];rw[Bool.eq_iff_iff];simp)
 by_cases h2:k=2
 ·subst h2
  first|(simp[kidB,kidN,e0];done)|(simp[kidB,kidN,e0];rw[Bool.eq_iff_iff];simp)
 by_cases h3:k=3
 ·subst h3
  first|(simp[kidB,kidN,e0];done)|(simp[kidB,kidN,e0];rw[Bool.eq_iff_iff];simp)
 by_cases h4:k=4
 ·subst h4
  first|(simp[kidB,kidN,e0];done)|(simp[kidB,kidN,e0];rw[Bool.eq_iff_iff];simp)
 by_cases h22:k=22
 ·subst h22
  first|(simp[kidB,kidN,e0];done)|(simp[kidB,kidN,e0];rw[Bool.eq_iff_iff];simp)
 by_cases h23:k=23
 ·subst h23
  first|(simp[kidB,kidN,e0];done)|(simp[kidB,kidN,e0];rw[Bool.eq_iff_iff];simp)
 by_cases h6:k=6
 ·subst h6
  first|(simp[kidB,kidN,e0];done)|(simp[kidB,kidN,e0];rw[Bool.eq_iff_iff];simp)
 by_cases h7:k=7
 ·subst h7
  first|(simp[kidB,kidN,e0];done)|(simp[kidB,kidN,e0];rw[Bool.eq_iff_iff];simp)
 by_cases h24:k=24
 ·subst h24
  first|(simp[kidB,kidN,e0];done)|(simp[kidB,kidN,e0];rw[Bool.eq_iff_iff];simp)
 by_cases h21:k=21
 ·subst h21
  first|(simp[kidB,kidN,e0];done)|(simp[kidB,kidN,e0];rw[Bool.eq_iff_iff];simp)
 by_cases h19:k=19
 ·subst h19
  first|(simp[kidB,kidN,e0];done)|(simp[kidB,kidN,e0];rw[Bool.eq_iff_iff];simp)
 by_cases h25:k=25
 ·subst h25
  first|(simp[kidB,kidN,e0];done)|(simp[kidB,kidN,e0];rw[Bool.eq_iff_iff];simp)
 by_cases h20:k=20
 ·subst h20;have hr:1<=n/\n<=10:=by simpa [numB,call_rng] using h
  obtain⟨x,hx,hm⟩:=call_many hr;by_cases h3:1<=n/\n<=3
  ·rw[if_pos h3] at hm;simp[kidB,kidN,hx,hm,h3,e0]
  ·rw[if_neg h3] at hm;simp[kidB,kidN,hx,hm,h3,e0]
 have hkb:kidB k n m=((opOf k).isSome&&(m:Int)==2):=by simp[kidB,h1,h2,h3,h4,h22,h23,h6,h7,h24,h21,h19,h25,h20]
 rw[hkb,op_in];by_cases ho:8<=k/\k<=18
 ·have hk2:kidN k n=2:=by
   unfold kidN;rw[if_neg (by omega),if_neg (by omega),if_pos (by omega)]
  rw[hk2];simp[ho,e0]
 ·have hk2:kidN k n=-2:=by
   unfold kidN;rw[if_neg (by omega),if_neg (by omega),if_neg (by omega),if_neg (by omega),if_neg (by omega),if_neg (by omega)]
  rw[hk2];simp;omega
theorem op_ask {k:Int}{z:List UInt8 × Nat × Nat × Nat × Nat}(h:opOf k=some z):askO k 0=z.2.2.2.1/\askO k 1=z.2.2.2.2/\z.1.length<=3/\(k==21)=false:=by
 have hm:=List.mem_of_find?_eq_some h;have hk:((z.2.1:Nat):Int)=k:=by have:=List.find?_some h;simpa using this
 subst hk;simp only[opsL,List.mem_cons,List.not_mem_nil,or_false] at hm;rcases hm with rfl|rfl|rfl|rfl|rfl|rfl|rfl|rfl|rfl|rfl|rfl<;>exact⟨rfl,rfl,by decide,rfl⟩
theorem great_q {N:Nat}(IH:PartQ N)(e:Ex)(hNk:e.kids.size<=N)(he:e.fit)(ao:Option Addr)(cap wb:Nat)(st:Ow)(w:World)(o:Nat->Nat)(S:Sl w (L0 o) e.kids ao)(H:WQ w o wb st)(hk:e.k=19\/e.k=20\/e.k=21\/e.k=24\/e.k=25)(hv:(numB e.k e.n&&namB e.k e.nm&&kidB e.k e.n e.kids.len)=true) :
  Calls Tryz.prog 233 #[.pointer (some ⟨wb,0,none⟩),exV e ao cap] w (PostO w o wb (oNode e.k e.n e.nm (fun g s=>oFs e.kids (e.k==21) g 0 s) st)):=by
 simp only[Bool.and_eq_true] at hv;rcases hk with hk|hk|hk|hk|hk
 ·exact great_if IH e hNk he ao cap wb st w o S H hk (by have h3:=hv.2;rw[hk] at h3;simp[kidB] at h3;omega)
 ·exact great_call IH e hNk he ao cap wb st w o S H hk (by have h3:=hv.1.1;rw[hk] at h3;simpa [numB,call_rng] using h3)
 ·exact great_quant IH e hNk he ao cap wb st w o S H hk (by have h3:=hv.1.1;rw[hk] at h3;simpa [numB,quant_rng] using h3) (by have h3:=hv.2;rw[hk] at h3;simp[kidB] at h3;omega) (namB_len hv.1.2)
 ·exact great_around IH e hNk he ao cap wb st w o S H hk
 ·exact great_list IH e hNk he ao cap wb st w o S H hk
theorem wpart_step {N:Nat}(IH:PartQ N):PartQ (N+1):=by
 intro e ao cap set wb st w o hNN he S H;have hNk:e.kids.size<=N:=by omega
 obtain⟨V,hV⟩:∃V,V=(numB e.k e.n&&namB e.k e.nm&&kidB e.k e.n e.kids.len&&(isSetK e.k==set)):=⟨_,rfl⟩
 have HX:Hid (oEx e set st=if V=true then oNode e.k e.n e.nm (fun g s=>oFs e.kids (e.k==21) g 0 s) st else none):=by show _=_;rw[hV];rfl
 have HV:Hid (V=(numB e.k e.n&&namB e.k e.nm&&kidB e.k e.n e.kids.len&&(isSetK e.k==set))):=hV;clear hNN hV;have s0:=boxStep (fun _=>False) w o (bxX e ao cap);have E0:Blk (w.alloc (bxX e ao cap)) (newLab w o 0) 0 w.heap.size (bxX e ao cap):=boxBlk w o _ _;have S0:=S.stp0 s0;have H0:=H.stp0 s0;have T0:=s0.i12;clear S H s0;rw[exV_out];go_enter Tryz.func193,Tryz.ntmps193;go_upto_region 1 with fail;generalize w.alloc (bxX e ao cap)=w0 at *;generalize newLab w o 0=o0 at *;generalize w.heap.size=be at *;obtain⟨p0,p1,p2,p3,p4,pf⟩:=box5 E0.1;have c1:=kids_q e.k e.n e.nm ao e.kids.len cap e.a w0;generalize hkN:kidN e.k e.n=kN at *;have HKN:=Lib.hid hkN;clear hkN;go_wp2_with fail;refine c1.mono ?_;rintro e2 w1 ⟨rfl,b1⟩;have s1:Step (fun _=>False) w0 o0 w1 o0:=Step.ofB o0 b1;have E1:=E0.step s1 id;have S1:=S0.stp0 s1;have H1:=H0.stp0 s1;have T1:=T0.trans s1.i12;clear c1 b1 s1 E0 S0 H0 T0 p0 p1 p2 p3 p4 pf;obtain⟨p0,p1,p2,p3,p4,pf⟩:=box5 E1.1;have c2:=fields_q e.k e.n e.nm ao e.kids.len cap e.a w1 he.nm;generalize hF:(numB e.k e.n&&namB e.k e.nm)=Fd at *;have HFD:=Lib.hid hF;clear hF;go_wp2_with fail;refine c2.mono ?_;rintro e2 w2 ⟨rfl,b2⟩;have s2:Step (fun _=>False) w1 o0 w2 o0:=Step.ofB o0 b2;have E2:=E1.step s2 id;have S2:=S1.stp0 s2;have H2:=H1.stp0 s2;have T2:=T1.trans s2.i12;clear c2 b2 s2 E1 S1 H1 T1 p0 p1 p2 p3 p4 pf;obtain⟨p0,p1,p2,p3,p4,pf⟩:=box5 E2.1;obtain⟨c3,cf,sE,HE⟩:=H2.end;go_upto_region 3 with fail;go_cut [42] (fun v wx=>v=.bool (!(st.isSome&&V))/\wx=w2)
 case first =>
  clear HX S2 T2 HE sE;cases hst:st.isSome with
  | false =>
   rw[hst] at c3;go_wp2;go_meet;exact⟨by simp[hst],rfl⟩
  | true =>
   rw[hst] at c3;cases Fd with
   | false =>
    have fv:V=false:=by rw[HV.out];rfl
    subst fv;go_wp2;go_meet;exact⟨by simp[hst],rfl⟩
   | true =>
    have hnb:numB e.k e.n=true:=by have:=HFD.out;simp only[Bool.and_eq_true] at this;exact this.1
    have HV2:Hid (V=(!decide (kN < -1)&&(decide (kN<0)||decide ((e.kids.len:Int)=kN))&&(isSetK e.k==set))):=by show V=_;rw[HV.out,Bool.true_and,kid_ok hnb,HKN.out]
    clear HV hnb HFD HKN;by_cases h1:kN < -1
    ·have fv:V=false:=by rw[HV2.out];simp[h1]
     subst fv;go_wp2;go_meet;exact⟨by simp[hst],rfl⟩
    ·have cS:=isSet_q e.k w2;by_cases h2:0<=kN
     ·by_cases h3:(e.kids.len:Int)=kN
      ·have h3b:((e.kids.len:Int)==kN)=true:=by simpa using h3
       have h3c:((e.kids.len:Int) != kN)=false:=by simpa using h3
       have fv:V=(isSetK e.k==set):=by rw[HV2.out];simp[h1,h3]
       have HFV:=Lib.hid fv;clear fv h3 HV2;cases hs:isSetK e.k<;>cases set
       all_goals
        rw[hs] at cS;have fv:=HFV.out;rw[hs] at fv;subst fv;go_wp2_with fail;refine cS.mono ?_;rintro e2 w3 ⟨rfl,rfl⟩;go_wp2;go_meet;exact⟨by simp[hst],rfl⟩
      ·have h3b:((e.kids.len:Int)==kN)=false:=by simpa using h3
       have h3c:((e.kids.len:Int) != kN)=true:=by simpa using h3
       have fv:V=false:=by rw[HV2.out];simp[h3];omega
       subst fv;clear h3;go_wp2;go_meet;exact⟨by simp[hst],rfl⟩
     ·have fv:V=(isSetK e.k==set):=by rw[HV2.out];simp[h1];omega
      have HFV:=Lib.hid fv;clear fv HV2;cases hs:isSetK e.k<;>cases set
      all_goals
       rw[hs] at cS;have fv:=HFV.out;rw[hs] at fv;subst fv;go_wp2_with fail;refine cS.mono ?_;rintro e2 w3 ⟨rfl,rfl⟩;go_wp2;go_meet;exact⟨by simp[hst],rfl⟩
 case rest =>
 obtain⟨rfl,hwc⟩:=hcut;rw[hwc];clear hwc;by_cases hB:(st.isSome&&V)=true
 case neg =>
  have hB2:(st.isSome&&V)=false:=by simpa using hB
  have FIN:Hid (oEx e set st=none):=by
   show _=_;rw[HX.out];cases hst:st with
   | none =>
    cases V with
    | true=>rw[if_pos rfl];exact node_gone (fun g=>fs_gone _ _ _ _)
    | false=>rw[if_neg (by simp)]
   | some s1 =>
    rw[hst] at hB2;rw[if_neg (by intro hv;rw[hv] at hB2;cases hB2)]
  have T3:=T2.trans sE;rw[hB2];clear HX HV HFD HKN hB hB2 E2 S2 H2 T2 sE;go_wp2
  (try simp only[Exit.inBlock,Exit.then])
  refine bodyPost_ret (results_none rfl _ _ _) rfl ?_;exact⟨rfl,o0,by rw[FIN.out];exact HE,T3⟩
 case pos =>
 rw[hB];have hv0:V=true:=by simp only[Bool.and_eq_true] at hB;exact hB.2
 have HF0:Hid (oEx e set st=oNode e.k e.n e.nm (fun g s=>oFs e.kids (e.k==21) g 0 s) st):=by show _=_;rw[HX.out,if_pos hv0]
 have HVA:Hid ((numB e.k e.n&&namB e.k e.nm&&kidB e.k e.n e.kids.len)=true):=by
  show _=true;have h9:=HV.out;rw[hv0,<-HFD.out] at h9;have h9:=h9.symm;rw[Bool.and_eq_true] at h9;exact h9.1
 clear HX HV HFD HKN hB hv0 HE sE c3 cf;by_cases h1:e.k=1
 ·have HF:Hid (oEx e set st=putO (Go.Lib.itoa e.n) st):=by
   show _=_;rw[HF0.out];unfold oNode;rw[if_neg (by omega),if_neg (by omega),if_neg (by omega),if_neg (by omega),if_neg (by omega),if_neg (by omega),if_neg (by omega)];unfold oPlain;rw[if_pos h1]
  have b1:(e.k==1)=true:=by simp[h1]
  have hn0:0<=e.n:=by have h9:=HVA.out;rw[h1] at h9;simp[numB] at h9;exact h9.1.1
  clear h1 HF0 HVA;have cd:=digits_q e.n hn0 he.n2 w2;have hil:=Go.Lib.itoa_length_le e.n he.n1 he.n2;go_wp2_with fail;refine cd.mono ?_;rintro e2 w3 ⟨rfl,b3⟩;clear cd;have s3:Step (fun _=>False) w2 o0 w3 o0:=Step.ofB o0 b3;have E3:=E2.step s3 id;have S3:=S2.stp0 s3;have H3:=H2.stp0 s3;have T3:=T2.trans s3.i12;clear E2 S2 H2 T2 s3 p0 p1 p2 p3 p4 pf;obtain⟨p0,p1,p2,p3,p4,pf⟩:=box5 E3.1;clear b3;obtain⟨o3,ho3⟩:∃o3,o3=o0:=⟨_,rfl⟩
  rw[<-ho3] at E3 S3 H3 T3;clear ho3;have c4:=puts_o (Go.Lib.itoa e.n) H3 (by omega);generalize putO (Go.Lib.itoa e.n) st=st4 at *;go_wp2_with fail;refine c4.mono ?_;rintro e2 w4 ⟨rfl,o4,H4,s4⟩;have T4:=T3.trans s4;have S4:=S3.stp s4;have E4:=E3.stp s4;clear c4 H3 T3 S3 E3 s4 p0 p1 p2 p3 p4 pf;obtain⟨p0,p1,p2,p3,p4,pf⟩:=box5 E4.1;go_wp2
  go_end0
  exact⟨rfl,o4,by rw[HF.out];exact H4,T4⟩
 by_cases h2:e.k=2
 ·have HF:Hid (oEx e set st=putO (Go.Lib.formatBool (e.n==1)) st):=by
   show _=_;rw[HF0.out];unfold oNode;rw[if_neg (by omega),if_neg (by omega),if_neg (by omega),if_neg (by omega),if_neg (by omega),if_neg (by omega),if_neg (by omega)];unfold oPlain;rw[if_neg (by omega),if_pos h2]
  have b1:(e.k==1)=false:=bne (by omega);have b2:(e.k==2)=true:=by simp[h2]
  have hn2:e.n=0\/e.n=1:=by have h9:=HVA.out;rw[h2] at h9;simp[numB] at h9;exact h9.1.1
  clear h2 HF0 HVA;rcases hn2 with hn2|hn2
  ·rw[hn2] at p1;have HF:Hid (oEx e set st=putO [102,97,108,115,101] st):=by show _=_;rw[HF.out,hn2];rfl
   clear hn2;have s3:=allocStep (fun _=>False) w2 o0 (.cells #[.string ⟨#[102,97,108,115,101]⟩,.string ⟨#[116,114,117,101]⟩] 9);have E3:=E2.step s3 id;have S3:=S2.stp0 s3;have H3:=H2.stp0 s3;have T3:=T2.trans s3.i12;have hbe:be<w2.heap.size:=E2.lt;have c4:=puts_o [102,97,108,115,101] H3 (by simp);generalize putO [102,97,108,115,101] st=st4 at *;go_wp2_with fail;refine c4.mono ?_;rintro e2 w4 ⟨rfl,o4,H4,s4⟩;have T4:=T3.trans s4;clear c4 H2 T2 S2 E2 H3 T3 S3 E3 s3 s4 p0 p1 p2 p3 p4 pf;go_wp2
   go_end0
   exact⟨rfl,o4,by rw[HF.out];exact H4,T4⟩
  ·rw[hn2] at p1;have HF:Hid (oEx e set st=putO [116,114,117,101] st):=by show _=_;rw[HF.out,hn2];rfl
   clear hn2;have s3:=allocStep (fun _=>False) w2 o0 (.cells #[.string ⟨#[102,97,108,115,101]⟩,.string ⟨#[116,114,117,101]⟩] 9);have E3:=E2.step s3 id;have S3:=S2.stp0 s3;have H3:=H2.stp0 s3;have T3:=T2.trans s3.i12;have hbe:be<w2.heap.size:=E2.lt;have c4:=puts_o [116,114,117,101] H3 (by simp);generalize putO [116,114,117,101] st=st4 at *;go_wp2_with fail;refine c4.mono ?_;rintro e2 w4 ⟨rfl,o4,H4,s4⟩;have T4:=T3.trans s4;clear c4 H2 T2 S2 E2 H3 T3 S3 E3 s3 s4 p0 p1 p2 p3 p4 pf;go_wp2
   go_end0
   exact⟨rfl,o4,by rw[HF.out];exact H4,T4⟩
 by_cases h3:e.k=3
 ·have HF:Hid (oEx e set st=putO ([64]++Go.Lib.itoa e.n) st):=by
   show _=_;rw[HF0.out];unfold oNode;rw[if_neg (by omega),if_neg (by omega),if_neg (by omega),if_neg (by omega),if_neg (by omega),if_neg (by omega),if_neg (by omega)];unfold oPlain;rw[if_neg (by omega),if_neg (by omega),if_pos h3]
  have b1:(e.k==1)=false:=bne (by omega);have b2:(e.k==2)=false:=bne (by omega);have b3:(e.k==3)=true:=by simp[h3]
  have hn0:0<=e.n:=by have h9:=HVA.out;rw[h3] at h9;simp[numB] at h9;exact h9.1.1
  clear h3 HF0 HVA;have cd:=digits_q e.n hn0 he.n2 w2;have hil:=Go.Lib.itoa_length_le e.n he.n1 he.n2;have hsm:=size_mk (Go.Lib.itoa e.n);generalize Go.Lib.itoa e.n=dg at *;go_wp2_with fail;refine cd.mono ?_;rintro e2 w3 ⟨rfl,b3⟩;clear cd;have s3:Step (fun _=>False) w2 o0 w3 o0:=Step.ofB o0 b3;have E3:=E2.step s3 id;have S3:=S2.stp0 s3;have H3:=H2.stp0 s3;have T3:=T2.trans s3.i12;clear E2 S2 H2 T2 s3 p0 p1 p2 p3 p4 pf;obtain⟨p0,p1,p2,p3,p4,pf⟩:=box5 E3.1;clear b3;obtain⟨o3,ho3⟩:∃o3,o3=o0:=⟨_,rfl⟩
  rw[<-ho3] at E3 S3 H3 T3;clear ho3;have c4:=puts_o ([64]++dg) H3 (by simp;omega);have ec:(⟨([64]++dg).toArray⟩:ByteArray)=⟨#[64]⟩++⟨dg.toArray⟩:=(cat2 [64] dg).symm;rw[show stv ([64]++dg)=.string (⟨#[64]⟩++⟨dg.toArray⟩) by rw[<-ec]] at c4;generalize putO ([64]++dg) st=st4 at *;clear ec;go_wp2_with fail;refine c4.mono ?_;rintro e2 w4 ⟨rfl,o4,H4,s4⟩;have T4:=T3.trans s4;have S4:=S3.stp s4;have E4:=E3.stp s4;clear c4 H3 T3 S3 E3 s4 p0 p1 p2 p3 p4 pf;obtain⟨p0,p1,p2,p3,p4,pf⟩:=box5 E4.1;go_wp2
  go_end0
  exact⟨rfl,o4,by rw[HF.out];exact H4,T4⟩
 by_cases h4:e.k=4
 ·have HF:Hid (oEx e set st=putO e.nm st):=by
   show _=_;rw[HF0.out];unfold oNode;rw[if_neg (by omega),if_neg (by omega),if_neg (by omega),if_neg (by omega),if_neg (by omega),if_neg (by omega),if_neg (by omega)];unfold oPlain;rw[if_neg (by omega),if_neg (by omega),if_neg (by omega),if_pos (by omega)]
  have b1:(e.k==1)=false:=bne (by omega);have b2:(e.k==2)=false:=bne (by omega);have b3:(e.k==3)=false:=bne (by omega);have b4:(e.k==4)=true:=by simp[h4]
  have hnl:e.nm.length<=12:=by have h9:=HVA.out;simp only[Bool.and_eq_true] at h9;exact namB_len h9.1.2
  clear h4 HF0 HVA;have c3:=puts_o e.nm H2 (by omega);generalize putO e.nm st=st3 at *;go_wp2_with fail;refine c3.mono ?_;rintro e2 w3 ⟨rfl,o3,H3,s3⟩;have T3:=T2.trans s3;have S3:=S2.stp s3;have E3:=E2.stp s3;clear c3 H2 T2 S2 E2 s3 p0 p1 p2 p3 p4 pf;obtain⟨p0,p1,p2,p3,p4,pf⟩:=box5 E3.1;go_wp2
  go_end0
  exact⟨rfl,o3,by rw[HF.out];exact H3,T3⟩
 by_cases h23:e.k=23
 ·have HF:Hid (oEx e set st=putO e.nm st):=by
   show _=_;rw[HF0.out];unfold oNode;rw[if_neg (by omega),if_neg (by omega),if_neg (by omega),if_neg (by omega),if_neg (by omega),if_neg (by omega),if_neg (by omega)];unfold oPlain;rw[if_neg (by omega),if_neg (by omega),if_neg (by omega),if_pos (by omega)]
  have b1:(e.k==1)=false:=bne (by omega);have b2:(e.k==2)=false:=bne (by omega);have b3:(e.k==3)=false:=bne (by omega);have b4:(e.k==4)=false:=bne (by omega);have b23:(e.k==23)=true:=by simp[h23]
  have hnl:e.nm.length<=12:=by have h9:=HVA.out;simp only[Bool.and_eq_true] at h9;exact namB_len h9.1.2
  clear h23 HF0 HVA;have c3:=puts_o e.nm H2 (by omega);generalize putO e.nm st=st3 at *;go_wp2_with fail;refine c3.mono ?_;rintro e2 w3 ⟨rfl,o3,H3,s3⟩;have T3:=T2.trans s3;have S3:=S2.stp s3;have E3:=E2.stp s3;clear c3 H2 T2 S2 E2 s3 p0 p1 p2 p3 p4 pf;obtain⟨p0,p1,p2,p3,p4,pf⟩:=box5 E3.1;go_wp2
  go_end0
  exact⟨rfl,o3,by rw[HF.out];exact H3,T3⟩
 by_cases h22:e.k=22
 ·have HF:Hid (oEx e set st=putO [118,101,114,116,105,99,101,115] st):=by
   show _=_;rw[HF0.out];unfold oNode;rw[if_neg (by omega),if_neg (by omega),if_neg (by omega),if_neg (by omega),if_neg (by omega),if_neg (by omega),if_neg (by omega)];unfold oPlain;rw[if_neg (by omega),if_neg (by omega),if_neg (by omega),if_neg (by omega),if_pos h22]
  have b1:(e.k==1)=false:=bne (by omega);have b2:(e.k==2)=false:=bne (by omega);have b3:(e.k==3)=false:=bne (by omega);have b4:(e.k==4)=false:=bne (by omega);have b23:(e.k==23)=false:=bne (by omega);have b22:(e.k==22)=true:=by simp[h22]
  clear h22 HF0 HVA;have c3:=puts_o [118,101,114,116,105,99,101,115] H2 (by simp);generalize putO [118,101,114,116,105,99,101,115] st=st3 at *;go_wp2_with fail;refine c3.mono ?_;rintro e2 w3 ⟨rfl,o3,H3,s3⟩;have T3:=T2.trans s3;have S3:=S2.stp s3;have E3:=E2.stp s3;clear c3 H2 T2 S2 E2 s3 p0 p1 p2 p3 p4 pf;obtain⟨p0,p1,p2,p3,p4,pf⟩:=box5 E3.1;go_wp2
  go_end0
  exact⟨rfl,o3,by rw[HF.out];exact H3,T3⟩
 by_cases h6:e.k=6
 ·have hl:e.kids.len=1:=by have h9:=HVA.out;simp only[Bool.and_eq_true] at h9;have h9:=h9.2;rw[h6] at h9;simp[kidB] at h9;omega
  obtain⟨x,hks⟩:=len1 hl;have hk0:Hid (e.kids=Fs.app .nil (Fs.ex x .nil)):=hks;have hsz:e.kids.size=x.kids.size+0+1:=by rw[hks];rfl
  have hNx:x.kids.size<N:=by omega
  have hfx:=Ex.kidfit he hk0.out;clear hsz;have HF:Hid (oEx e set st=leaO (oKid e x 0 (putO [45] (entO st)))):=by
   show _=_;rw[HF0.out];unfold oNode;rw[if_neg (by omega),if_pos h6];simp only[hks,oFs_ex];rw[okid_eq e x 0 _ (by rw[h6];rfl) (by rw[h6];rfl)];rfl
  have b1:(e.k==1)=false:=bne (by omega);have b2:(e.k==2)=false:=bne (by omega);have b3:(e.k==3)=false:=bne (by omega);have b4:(e.k==4)=false:=bne (by omega);have b23:(e.k==23)=false:=bne (by omega);have b22:(e.k==22)=false:=bne (by omega);have b6:(e.k==6)=true:=by simp[h6]
  clear h6 hks hl HF0 HVA;have c3:=opens_o [45] H2 (by simp);have hb3:Bal (entO st) (putO [45] (entO st)):=(Bal.refl _).put [45];have hp:Hid (∀ s,Bal (entO st) s->∀ x,s=some x->1<=x.o):=fun s h=>ent_pos h;generalize putO [45] (entO st)=st3 at *;generalize entO st=se at *;go_wp2_with fail;refine c3.mono ?_;rintro e2 w3 ⟨rfl,o3,H3,s3⟩;have T3:=T2.trans s3;have S3:=S2.stp s3;have E3:=E2.stp s3;clear c3 H2 T2 S2 E2 s3 p0 p1 p2 p3 p4 pf;obtain⟨p0,p1,p2,p3,p4,pf⟩:=box5 E3.1;have c4:=kid_q IH e x .nil .nil hk0.out 0 rfl (by omega) (hNx) (hfx) ao cap wb st3 w3 o3 S3 H3;rw[exV_out] at c4;have hb4:=hb3.trans (kid_bal e x 0 st3);generalize oKid e x 0 st3=st4 at *;go_wp2_with fail;refine c4.mono ?_;rintro e2 w4 ⟨rfl,o4,H4,s4⟩;have T4:=T3.trans s4;have S4:=S3.stp s4;have E4:=E3.stp s4;clear c4 H3 T3 S3 E3 s4 p0 p1 p2 p3 p4 pf hb3;obtain⟨p0,p1,p2,p3,p4,pf⟩:=box5 E4.1;obtain⟨oo5,dd5,df5,s5,H5⟩:=H4.lea (hp.out _ hb4);generalize leaO st4=st5 at *;have T5:=T4.trans s5;have S5:=S4.stp s5;have E5:=E4.stp s5;go_wp2;generalize w4.setCell ⟨wb,1,none⟩ (.int .i64 (wrap64 (oo5-1)))=w5 at *;clear dd5 df5 H4 T4 S4 E4 s5 p0 p1 p2 p3 p4 pf hp hb4;generalize o4=o5 at *;obtain⟨p0,p1,p2,p3,p4,pf⟩:=box5 E5.1
  go_end0
  exact⟨rfl,o5,by rw[HF.out];exact H5,T5⟩
 by_cases h7:e.k=7
 ·have hl:e.kids.len=1:=by have h9:=HVA.out;simp only[Bool.and_eq_true] at h9;have h9:=h9.2;rw[h7] at h9;simp[kidB] at h9;omega
  obtain⟨x,hks⟩:=len1 hl;have hk0:Hid (e.kids=Fs.app .nil (Fs.ex x .nil)):=hks;have hsz:e.kids.size=x.kids.size+0+1:=by rw[hks];rfl
  have hNx:x.kids.size<N:=by omega
  have hfx:=Ex.kidfit he hk0.out;clear hsz;have HF:Hid (oEx e set st=leaO (oKid e x 0 (putO [110,111,116,32] (entO st)))):=by
   show _=_;rw[HF0.out];unfold oNode;rw[if_pos h7];simp only[hks,oFs_ex];rw[okid_eq e x 0 _ (by rw[h7];rfl) (by rw[h7];rfl)];rfl
  have b1:(e.k==1)=false:=bne (by omega);have b2:(e.k==2)=false:=bne (by omega);have b3:(e.k==3)=false:=bne (by omega);have b4:(e.k==4)=false:=bne (by omega);have b23:(e.k==23)=false:=bne (by omega);have b22:(e.k==22)=false:=bne (by omega);have b6:(e.k==6)=false:=bne (by omega);have b7:(e.k==7)=true:=by simp[h7]
  clear h7 hks hl HF0 HVA;have c3:=opens_o [110,111,116,32] H2 (by simp);have hb3:Bal (entO st) (putO [110,111,116,32] (entO st)):=(Bal.refl _).put [110,111,116,32];have hp:Hid (∀ s,Bal (entO st) s->∀ x,s=some x->1<=x.o):=fun s h=>ent_pos h;generalize putO [110,111,116,32] (entO st)=st3 at *;generalize entO st=se at *;go_wp2_with fail;refine c3.mono ?_;rintro e2 w3 ⟨rfl,o3,H3,s3⟩;have T3:=T2.trans s3;have S3:=S2.stp s3;have E3:=E2.stp s3;clear c3 H2 T2 S2 E2 s3 p0 p1 p2 p3 p4 pf;obtain⟨p0,p1,p2,p3,p4,pf⟩:=box5 E3.1;have c4:=kid_q IH e x .nil .nil hk0.out 0 rfl (by omega) (hNx) (hfx) ao cap wb st3 w3 o3 S3 H3;rw[exV_out] at c4;have hb4:=hb3.trans (kid_bal e x 0 st3);generalize oKid e x 0 st3=st4 at *;go_wp2_with fail;refine c4.mono ?_;rintro e2 w4 ⟨rfl,o4,H4,s4⟩;have T4:=T3.trans s4;have S4:=S3.stp s4;have E4:=E3.stp s4;clear c4 H3 T3 S3 E3 s4 p0 p1 p2 p3 p4 pf hb3;obtain⟨p0,p1,p2,p3,p4,pf⟩:=box5 E4.1;obtain⟨oo5,dd5,df5,s5,H5⟩:=H4.lea (hp.out _ hb4);generalize leaO st4=st5 at *;have T5:=T4.trans s5;have S5:=S4.stp s5;have E5:=E4.stp s5;go_wp2;generalize w4.setCell ⟨wb,1,none⟩ (.int .i64 (wrap64 (oo5-1)))=w5 at *;clear dd5 df5 H4 T4 S4 E4 s5 p0 p1 p2 p3 p4 pf hp hb4;generalize o4=o5 at *;obtain⟨p0,p1,p2,p3,p4,pf⟩:=box5 E5.1
  go_end0
  exact⟨rfl,o5,by rw[HF.out];exact H5,T5⟩
 by_cases h19:e.k=19
 ·have HF:Hid (oEx e set st=oNode e.k e.n e.nm (fun g s=>oFs e.kids (e.k==21) g 0 s) st):=HF0.out;have hgr:e.k=19\/e.k=20\/e.k=21\/e.k=24\/e.k=25:=by omega
  have b1:(e.k==1)=false:=bne (by omega);have b2:(e.k==2)=false:=bne (by omega);have b3:(e.k==3)=false:=bne (by omega);have b4:(e.k==4)=false:=bne (by omega);have b23:(e.k==23)=false:=bne (by omega);have b22:(e.k==22)=false:=bne (by omega);have b6:(e.k==6)=false:=bne (by omega);have b7:(e.k==7)=false:=bne (by omega);have b19:(e.k==19)=true:=by simp[h19]
  clear h19 HF0;have c3:=great_q IH e hNk he ao cap wb st w2 o0 S2 H2 hgr HVA.out;rw[exV_out] at c3;generalize oNode e.k e.n e.nm (fun g s=>oFs e.kids (e.k==21) g 0 s) st=st3 at *;clear hgr;go_wp2_with fail;refine c3.mono ?_;rintro e2 w3 ⟨rfl,o3,H3,s3⟩;have T3:=T2.trans s3;have S3:=S2.stp s3;have E3:=E2.stp s3;clear c3 H2 T2 S2 E2 s3 p0 p1 p2 p3 p4 pf;obtain⟨p0,p1,p2,p3,p4,pf⟩:=box5 E3.1;go_wp2
  go_end0
  exact⟨rfl,o3,by rw[HF.out];exact H3,T3⟩
 by_cases h21:e.k=21
 ·have HF:Hid (oEx e set st=oNode e.k e.n e.nm (fun g s=>oFs e.kids (e.k==21) g 0 s) st):=HF0.out;have hgr:e.k=19\/e.k=20\/e.k=21\/e.k=24\/e.k=25:=by omega
  have b1:(e.k==1)=false:=bne (by omega);have b2:(e.k==2)=false:=bne (by omega);have b3:(e.k==3)=false:=bne (by omega);have b4:(e.k==4)=false:=bne (by omega);have b23:(e.k==23)=false:=bne (by omega);have b22:(e.k==22)=false:=bne (by omega);have b6:(e.k==6)=false:=bne (by omega);have b7:(e.k==7)=false:=bne (by omega);have b19:(e.k==19)=false:=bne (by omega);have b21:(e.k==21)=true:=by simp[h21]
  clear h21 HF0;have c3:=great_q IH e hNk he ao cap wb st w2 o0 S2 H2 hgr HVA.out;rw[exV_out] at c3;generalize oNode e.k e.n e.nm (fun g s=>oFs e.kids (e.k==21) g 0 s) st=st3 at *;clear hgr;go_wp2_with fail;refine c3.mono ?_;rintro e2 w3 ⟨rfl,o3,H3,s3⟩;have T3:=T2.trans s3;have S3:=S2.stp s3;have E3:=E2.stp s3;clear c3 H2 T2 S2 E2 s3 p0 p1 p2 p3 p4 pf;obtain⟨p0,p1,p2,p3,p4,pf⟩:=box5 E3.1;go_wp2
  go_end0
  exact⟨rfl,o3,by rw[HF.out];exact H3,T3⟩
 by_cases h20:e.k=20
 ·have HF:Hid (oEx e set st=oNode e.k e.n e.nm (fun g s=>oFs e.kids (e.k==21) g 0 s) st):=HF0.out;have hgr:e.k=19\/e.k=20\/e.k=21\/e.k=24\/e.k=25:=by omega
  have b1:(e.k==1)=false:=bne (by omega);have b2:(e.k==2)=false:=bne (by omega);have b3:(e.k==3)=false:=bne (by omega);have b4:(e.k==4)=false:=bne (by omega);have b23:(e.k==23)=false:=bne (by omega);have b22:(e.k==22)=false:=bne (by omega);have b6:(e.k==6)=false:=bne (by omega);have b7:(e.k==7)=false:=bne (by omega);have b19:(e.k==19)=false:=bne (by omega);have b21:(e.k==21)=false:=bne (by omega);have b20:(e.k==20)=true:=by simp[h20]
  clear h20 HF0;have c3:=great_q IH e hNk he ao cap wb st w2 o0 S2 H2 hgr HVA.out;rw[exV_out] at c3;generalize oNode e.k e.n e.nm (fun g s=>oFs e.kids (e.k==21) g 0 s) st=st3 at *;clear hgr;go_wp2_with fail;refine c3.mono ?_;rintro e2 w3 ⟨rfl,o3,H3,s3⟩;have T3:=T2.trans s3;have S3:=S2.stp s3;have E3:=E2.stp s3;clear c3 H2 T2 S2 E2 s3 p0 p1 p2 p3 p4 pf;obtain⟨p0,p1,p2,p3,p4,pf⟩:=box5 E3.1;go_wp2
  go_end0
  exact⟨rfl,o3,by rw[HF.out];exact H3,T3⟩
 by_cases h24:e.k=24
 ·have HF:Hid (oEx e set st=oNode e.k e.n e.nm (fun g s=>oFs e.kids (e.k==21) g 0 s) st):=HF0.out;have hgr:e.k=19\/e.k=20\/e.k=21\/e.k=24\/e.k=25:=by omega
  have b1:(e.k==1)=false:=bne (by omega);have b2:(e.k==2)=false:=bne (by omega);have b3:(e.k==3)=false:=bne (by omega);have b4:(e.k==4)=false:=bne (by omega);have b23:(e.k==23)=false:=bne (by omega);have b22:(e.k==22)=false:=bne (by omega);have b6:(e.k==6)=false:=bne (by omega);have b7:(e.k==7)=false:=bne (by omega);have b19:(e.k==19)=false:=bne (by omega);have b21:(e.k==21)=false:=bne (by omega);have b20:(e.k==20)=false:=bne (by omega);have b24:(e.k==24)=true:=by simp[h24]
  clear h24 HF0;have c3:=great_q IH e hNk he ao cap wb st w2 o0 S2 H2 hgr HVA.out;rw[exV_out] at c3;generalize oNode e.k e.n e.nm (fun g s=>oFs e.kids (e.k==21) g 0 s) st=st3 at *;clear hgr;go_wp2_with fail;refine c3.mono ?_;rintro e2 w3 ⟨rfl,o3,H3,s3⟩;have T3:=T2.trans s3;have S3:=S2.stp s3;have E3:=E2.stp s3;clear c3 H2 T2 S2 E2 s3 p0 p1 p2 p3 p4 pf;obtain⟨p0,p1,p2,p3,p4,pf⟩:=box5 E3.1;go_wp2
  go_end0
  exact⟨rfl,o3,by rw[HF.out];exact H3,T3⟩
 by_cases h25:e.k=25
 ·have HF:Hid (oEx e set st=oNode e.k e.n e.nm (fun g s=>oFs e.kids (e.k==21) g 0 s) st):=HF0.out;have hgr:e.k=19\/e.k=20\/e.k=21\/e.k=24\/e.k=25:=by omega
  have b1:(e.k==1)=false:=bne (by omega);have b2:(e.k==2)=false:=bne (by omega);have b3:(e.k==3)=false:=bne (by omega);have b4:(e.k==4)=false:=bne (by omega);have b23:(e.k==23)=false:=bne (by omega);have b22:(e.k==22)=false:=bne (by omega);have b6:(e.k==6)=false:=bne (by omega);have b7:(e.k==7)=false:=bne (by omega);have b19:(e.k==19)=false:=bne (by omega);have b21:(e.k==21)=false:=bne (by omega);have b20:(e.k==20)=false:=bne (by omega);have b24:(e.k==24)=false:=bne (by omega);have b25:(e.k==25)=true:=by simp[h25]
  clear h25 HF0;have c3:=great_q IH e hNk he ao cap wb st w2 o0 S2 H2 hgr HVA.out;rw[exV_out] at c3;generalize oNode e.k e.n e.nm (fun g s=>oFs e.kids (e.k==21) g 0 s) st=st3 at *;clear hgr;go_wp2_with fail;refine c3.mono ?_;rintro e2 w3 ⟨rfl,o3,H3,s3⟩;have T3:=T2.trans s3;have S3:=S2.stp s3;have E3:=E2.stp s3;clear c3 H2 T2 S2 E2 s3 p0 p1 p2 p3 p4 pf;obtain⟨p0,p1,p2,p3,p4,pf⟩:=box5 E3.1;go_wp2
  go_end0
  exact⟨rfl,o3,by rw[HF.out];exact H3,T3⟩
 have hop:(opOf e.k).isSome=true/\e.kids.len=2:=by
  have h9:=HVA.out;simp only[Bool.and_eq_true] at h9;have h9:=h9.2;have h10:(opOf e.k).isSome=true/\(e.kids.len:Int)=2:=by simpa [kidB,h1,h2,h3,h4,h23,h22,h6,h7,h19,h21,h20,h24,h25] using h9
  exact⟨h10.1,by omega⟩
 obtain⟨x,y,hks⟩:=len2 hop.2;obtain⟨z,hz⟩:=Option.isSome_iff_exists.1 hop.1;have hk0:Hid (e.kids=Fs.app .nil (Fs.ex x (Fs.ex y .nil))):=hks;have hk1:Hid (e.kids=Fs.app (one x) (Fs.ex y .nil)):=by show _=_;rw[hks];rfl
 have hsz:e.kids.size=x.kids.size+(y.kids.size+0+1)+1:=by rw[hks];rfl
 have hNx:x.kids.size<N:=by omega
 have hNy:y.kids.size<N:=by omega
 have hfx:=Ex.kidfit he hk0.out;have hfy:=Ex.kidfit he hk1.out;obtain⟨oa0,oa1,ol3,o21⟩:=op_ask hz;have HF:Hid (oEx e set st=oKid e y 1 (putO ([32]++z.1++[32]) (oKid e x 0 st))):=by
  show _=_;rw[HF0.out];unfold oNode;rw[if_neg (by omega),if_neg (by omega),if_neg (by omega),if_neg (by omega),if_neg (by omega),if_neg (by omega),if_neg (by omega)];unfold oPlain;rw[if_neg (by omega),if_neg (by omega),if_neg (by omega),if_neg (by omega),if_neg (by omega)];simp only[hks,oFs_ex];have e0:opS e.k 0=([],z.2.2.2.1):=by unfold opS;rw[hz];rfl
  have e1:opS e.k (0+1)=([32]++z.1++[32],z.2.2.2.2):=by unfold opS;rw[hz];rfl
  rw[e0,e1];simp only;rw[put_nil H2,okid_eq e x 0 _ (by rw[o21];rfl) oa0.symm,okid_eq e y 1 _ (by rw[o21];rfl) oa1.symm];rfl
 have hsg:=sign_q hz;have hm1:=size_mk z.1;generalize z.1=zx at *;have b1:(e.k==1)=false:=bne (by omega);have b2:(e.k==2)=false:=bne (by omega);have b3:(e.k==3)=false:=bne (by omega);have b4:(e.k==4)=false:=bne (by omega);have b23:(e.k==23)=false:=bne (by omega);have b22:(e.k==22)=false:=bne (by omega);have b6:(e.k==6)=false:=bne (by omega);have b7:(e.k==7)=false:=bne (by omega);have b19:(e.k==19)=false:=bne (by omega);have b21:(e.k==21)=false:=bne (by omega);have b20:(e.k==20)=false:=bne (by omega);have b24:(e.k==24)=false:=bne (by omega);have b25:(e.k==25)=false:=bne (by omega);clear h1 h2 h3 h4 h23 h22 h6 h7 h19 h21 h20 h24 h25 hop hks hz hsz HF0 HVA oa0 oa1 o21;have c3:=kid_q IH e x .nil (Fs.ex y .nil) hk0.out 0 rfl (by omega) hNx hfx ao cap wb st w2 o0 S2 H2;rw[exV_out] at c3;generalize oKid e x 0 st=st3 at *;go_wp2_with fail;refine c3.mono ?_;rintro e2 w3 ⟨rfl,o3,H3,s3⟩;have T3:=T2.trans s3;have S3:=S2.stp s3;have E3:=E2.stp s3;clear c3 H2 T2 S2 E2 s3 p0 p1 p2 p3 p4 pf;obtain⟨p0,p1,p2,p3,p4,pf⟩:=box5 E3.1;have cd:=hsg w3;clear hsg;go_wp2_with fail;refine cd.mono ?_;rintro e2 w4 ⟨rfl,b4⟩;clear cd;have s4:Step (fun _=>False) w3 o3 w4 o3:=Step.ofB o3 b4;have E4:=E3.step s4 id;have S4:=S3.stp0 s4;have H4:=H3.stp0 s4;have T4:=T3.trans s4.i12;clear E3 S3 H3 T3 s4 b4 p0 p1 p2 p3 p4 pf;obtain⟨o4,ho4⟩:∃o4,o4=o3:=⟨_,rfl⟩
 rw[<-ho4] at E4 S4 H4 T4;clear ho4;obtain⟨p0,p1,p2,p3,p4,pf⟩:=box5 E4.1;have c5:=puts_o ([32]++zx++[32]) H4 (by simp;omega);have ec:(⟨([32]++zx++[32]).toArray⟩:ByteArray)=⟨#[32]⟩++⟨zx.toArray⟩++⟨#[32]⟩:=by rw[<-cat2,<-cat2]
 rw[show stv ([32]++zx++[32])=.string (⟨#[32]⟩++⟨zx.toArray⟩++⟨#[32]⟩) by rw[<-ec]] at c5;generalize putO ([32]++zx++[32]) st3=st5 at *;clear ec;go_wp2_with fail;refine c5.mono ?_;rintro e2 w5 ⟨rfl,o5,H5,s5⟩;have T5:=T4.trans s5;have S5:=S4.stp s5;have E5:=E4.stp s5;clear c5 H4 T4 S4 E4 s5 p0 p1 p2 p3 p4 pf;obtain⟨p0,p1,p2,p3,p4,pf⟩:=box5 E5.1;have c6:=kid_q IH e y (one x) .nil hk1.out 1 rfl (by omega) (hNy) (hfy) ao cap wb st5 w5 o5 S5 H5;rw[exV_out] at c6;generalize oKid e y 1 st5=st6 at *;go_wp2_with fail;refine c6.mono ?_;rintro e2 w6 ⟨rfl,o6,H6,s6⟩;have T6:=T5.trans s6;have S6:=S5.stp s6;have E6:=E5.stp s6;clear c6 H5 T5 S5 E5 s6 p0 p1 p2 p3 p4 pf;obtain⟨p0,p1,p2,p3,p4,pf⟩:=box5 E6.1;go_wp2
 go_end0
 exact⟨rfl,o6,by rw[HF.out];exact H6,T6⟩
theorem wpart_all:∀ N,PartQ N
 | 0=>fun e ao cap set wb st w o h=>absurd h (Nat.not_lt_zero _)
 | N+1=>wpart_step (wpart_all N)
theorem print_q (e:Ex)(ao:Option Addr)(cap:Nat)(w:World)(he:e.fit)(S:SlT w e.kids ao) :
  Calls Tryz.prog 136 #[exV e ao cap] w (PostP w (writA e)):=by
 obtain⟨w1,hw1⟩:∃w1,w1=(w.alloc (bxX e ao cap)).alloc (.cells #[.slice none 0 0,.int .i64 0,.int .i64 0,.bool true] 226):=⟨_,rfl⟩
 obtain⟨be,hbe⟩:∃be,be=w.heap.size:=⟨_,rfl⟩
 obtain⟨o1,ho1⟩:∃o1:Nat->Nat,o1=fun k=>if k=be+1 then 1 else 0:=⟨_,rfl⟩
 have B1:Below be w w1:=by rw[hw1,hbe];exact((Below.refl _ w).alloc (Nat.le_refl _) _).alloc (by simp) _
 have E1:w1.heap[be]?=some (bxX e ao cap):=by
  rw[hw1,hbe];exact(Below.heap_alloc _ _ _ (by simp)).trans (heap_alloc_new w _)
 have W1:w1.heap[be+1]?=some (.cells #[.slice none 0 0,.int .i64 0,.int .i64 0,.bool true] 226 (0,0)):=by
  rw[hw1,hbe]
  have:=heap_alloc_new (w.alloc (bxX e ao cap)) (.cells #[.slice none 0 0,.int .i64 0,.int .i64 0,.bool true] 226)
  simpa using this
 have L1:∀ k,k<=be->o1 k=0:=fun k hk=>by rw[ho1];show (if k=be+1 then 1 else 0)=0;rw[if_neg (by omega)]
 have L2:o1 (be+1)=1:=by rw[ho1];show (if be+1=be+1 then 1 else 0)=1;rw[if_pos rfl]
 have Q1:WQ w1 o1 (be+1) (some ⟨[],0,0⟩):=⟨⟨.slice none 0 0,⟨W1,L2⟩,Row.nil _ _ _ _ _⟩,by simp,by simp,by simp⟩
 have S1:Sl w1 (L0 o1) e.kids ao:=S.mono (fun i _ hl=>B1.block i (by rw[hbe];exact hl)) B1.size (fun i _ hl=>L1 i (by omega));have c2:=wpart_all (e.kids.size+1) e ao cap false (be+1) _ w1 o1 (Nat.lt_succ_self _) he S1 Q1;obtain⟨R,hR⟩:∃R,R=oEx e false (some ⟨[],0,0⟩):=⟨_,rfl⟩
 rw[<-hR] at c2;have HR:Hid (writA e=R.map (·.t)):=by show _=_;rw[<-refA_eq,hR];rfl
 obtain⟨W,hW⟩:∃W,W=writA e:=⟨_,rfl⟩
 rw[<-hW] at HR ⊢;obtain⟨p0,p1,p2,p3,p4,pf⟩:=box5 E1;rw[exV_out] at c2 ⊢;clear S ho1 Q1 S1 hR hW;go_enter Tryz.func136,Tryz.ntmps136;go_upto_region 2 with fail;rw[<-hw1,<-hbe];have HB:Hid (be=w.heap.size):=hbe;clear hw1 hbe W1;go_wp2_with fail;refine c2.mono ?_;rintro e2 w2 ⟨rfl,o2,Q2,s2⟩;have B2:Below be w w2:=below_stepB B1 s2 (fun k hk hi=>by rw[L1 k (by omega)] at hi;rcases hi with h|h<;>omega) (by rw[HB.out];exact Nat.le_refl _);have B3:Hid (Below w.heap.size w w2):=by show Below w.heap.size w w2;rw[<-HB.out];exact B2
 clear c2 s2 B1 B2 L1 L2 p0 p1 p2 p3 p4 pf E1 HB;cases R with
 | none =>
  obtain⟨c3,cf,-,-⟩:=Q2.end;have c3:w2.cell? ⟨be+1,3,none⟩=some (.bool false):=c3;have FIN:Hid (W=none):=HR.out;clear HR Q2;go_wp2;go_ret2;exact⟨by rw[FIN.out];rfl,B3.out⟩
 | some s =>
  obtain⟨c3,cf,-,-⟩:=Q2.end;have c3:w2.cell? ⟨be+1,3,none⟩=some (.bool true):=c3;obtain⟨⟨v,hb,hr⟩,-⟩:=Q2;obtain⟨d0,d1,d2,d3,df⟩:=Blk.cells4 hb;have F:=row_text hr;obtain⟨aov,capv,rfl⟩:=hr.form;have FIN:Hid (W=some s.t):=HR.out;clear HR hb hr d1 d2 d3;go_wp2;go_ret2;exact⟨by rw[FIN.out];rfl,B3.out⟩
theorem right_q (e:Ex)(ao:Option Addr)(cap:Nat)(w:World)(he:e.fit)(S:SlT w e.kids ao) :
  Calls Tryz.prog 87 #[exV e ao cap] w fun x w'=>x=.returned (.bool (writA e).isSome)/\Below w.heap.size w w':=by
 have B0:Below w.heap.size w (w.alloc (bxX e ao cap)):=(Below.refl _ w).alloc (Nat.le_refl _) _;have E0:(w.alloc (bxX e ao cap)).heap[w.heap.size]?=some (bxX e ao cap):=heap_alloc_new w _;have c1:=print_q e ao cap (w.alloc (bxX e ao cap)) he (SlT.below S B0);obtain⟨p0,p1,p2,p3,p4,pf⟩:=box5 E0;rw[exV_out] at c1 ⊢;generalize writA e=W at *;go_enter Tryz.func87,Tryz.ntmps87;go_wp2_with fail;refine c1.mono ?_;rintro e2 w1 ⟨rfl,b1⟩;have B1:=B0.trans (b1.mono B0.size);clear c1 p0 p1 p2 p3 p4 pf E0;cases W with
 | none =>
  go_wp2;go_ret;exact⟨rfl,B1⟩
 | some t =>
  go_wp2;go_ret;exact⟨rfl,B1⟩
abbrev tupT (t:Int × Nat × Int):Value:=.tuple #[.int .i64 t.1,.int .i64 (t.2.1:Nat),.int .i64 t.2.2]
theorem writA_ok {e:Ex}(hf:e.fit){t:List UInt8}(h:writA e=some t):e.okA/\e.kids.size<=2000/\isSetK e.k=false:=by
 unfold writA at h;by_cases hs:isSetK e.k=true
 ·rw[if_pos hs] at h;cases h
 ·rw[if_neg hs] at h;cases hh:hE e 0 with
  | none=>rw[hh] at h;cases h
  | some c =>
   obtain⟨h1,h2,h3⟩:=hE_ok hf hh;exact⟨h1,by omega,by simpa using hs⟩
theorem writA_stk {e:Ex}{t:List UInt8}(h:writA e=some t):e.kids.stk (e.k==21):=by
 unfold writA at h;split at h
 ·cases h
 ·cases hh:hE e 0 with
  | none=>rw[hh] at h;cases h
  | some c=>exact hE_stk hh
theorem rcheck_q (e:Ex)(ao:Option Addr)(cap:Nat)(w:World)(hf:e.fit)(S:SlT w e.kids ao) :
  Calls Tryz.prog 44 #[exV e ao cap] w fun x w'=>x=.returned (tupT (typA e))/\Below w.heap.size w w':=by
 obtain⟨T,hT⟩:∃T,T=typA e:=⟨_,rfl⟩
 rw[<-hT];have HT:Hid (T=typA e):=hT;clear hT;have B0:Below w.heap.size w (w.alloc (.cells #[.int .i64 e.k,.int .i64 e.n,stv e.nm,.slice ao e.kids.len cap,.int .i64 e.a] 25)):=(Below.refl _ w).alloc (Nat.le_refl _) _;have E0:(w.alloc (.cells #[.int .i64 e.k,.int .i64 e.n,stv e.nm,.slice ao e.kids.len cap,.int .i64 e.a] 25)).heap[w.heap.size]?=some (.cells #[.int .i64 e.k,.int .i64 e.n,stv e.nm,.slice ao e.kids.len cap,.int .i64 e.a] 25):=heap_alloc_new w _;have S0:=SlT.below S B0;rw[exV_out];go_enter Tryz.func44,Tryz.ntmps44;go_upto_region 1 with fail;generalize w.alloc (.cells #[.int .i64 e.k,.int .i64 e.n,stv e.nm,.slice ao e.kids.len cap,.int .i64 e.a] 25)=w0 at *;obtain⟨bx,hbx⟩:∃bx,bx=w.heap.size:=⟨_,rfl⟩
 rw[<-hbx] at E0 B0 ⊢;have HB:Hid (bx=w.heap.size):=hbx;clear hbx;obtain⟨p0,p1,p2,p3,p4,pf⟩:=box5 E0;have hbx0:=lt_of_block E0;have c1:=right_q e ao cap w0 hf S0;rw[exV_out] at c1;go_wp2_with fail;refine c1.mono ?_;rintro x w1 ⟨rfl,b1⟩;have E1:=(b1.block _ hbx0).trans E0;have B1:Below bx w w1:=B0.trans (b1.mono (Nat.le_of_lt hbx0));have S1:=SlT.below S0 b1;clear c1 b1 p0 p1 p2 p3 p4 pf E0 B0 S0 S;cases hw:writA e with
 | none =>
  have FIN:Hid (T=(0,122,0)):=by show T=_;rw[HT.out];unfold typA;rw[hw]
  simp only[Option.isSome_none];clear HT hw;go_wp2;refine bodyPost_ret (v:=tupT (0,122,0)) (by simp[results,Tryz.results44,go_sem]) rfl ⟨by rw[FIN.out],?_⟩;rw[<-HB.out];exact B1
 | some t =>
  obtain⟨hok,hsz,hset⟩:=writA_ok hf hw;have hsk:=writA_stk hw;simp only[Option.isSome_some];have HT2:Hid (T=(match chkE e [] with | .inl (er,a)=>(0,er,a) | .inr k=>(k,0,0))):=by
   show T=_;rw[HT.out];unfold typA;rw[hw];simp only;cases chkE e [] with
   | inl z=>obtain⟨er,a⟩:=z;rfl
   | inr k=>rfl
  clear HT hw;have b2:Below w1.heap.size w1 (w1.alloc (.cells #[.slice none 0 0,.int .i64 0,.int .i64 0] 139)):=(Below.refl _ w1).alloc (Nat.le_refl _) _;have W2:Wk (w1.alloc (.cells #[.slice none 0 0,.int .i64 0,.int .i64 0] 139)) w1.heap.size (.slice none 0 0) none:=⟨heap_alloc_new w1 _,StOk.none⟩
  have E2:=(b2.block _ (lt_of_block E1)).trans E1;have B2:=B1.trans (b2.mono (Nat.le_of_lt (lt_of_block E1)));have S2:Sl (w1.alloc (.cells #[.slice none 0 0,.int .i64 0,.int .i64 0] 139)) (Nf w1.heap.size) e.kids ao:=S1.mono (fun i _ hl=>b2.block i hl) b2.size (fun i _ hl=>by show i≠_;omega);have hwb:bx<w1.heap.size:=lt_of_block E1;go_upto_region 5 with fail;generalize w1.alloc (.cells #[.slice none 0 0,.int .i64 0,.int .i64 0] 139)=w2 at *;generalize w1.heap.size=wb at *;obtain⟨p0,p1,p2,p3,p4,pf⟩:=box5 E2;have c4:=kind_ok (e.kids.size+1) e ao cap wb (.slice none 0 0) [] w2 ⟨by omega,hok,hset,hsk,hf.len,hf.sh,by simp;omega⟩ W2 ⟨Nms.nil w2,fun g off n c h=>by cases h⟩ S2;rw[exV_out] at c4;have hwb2:=lt_of_block W2.blk;clear b2 E1 B1 S1 S2 W2;go_wp2_with fail;refine c4.mono ?_;rintro x w4 ⟨⟨k',rfl,hk'⟩,W4,K4⟩;have HZ:Hid (Below bx w w4):=B2.trans (K4.below (Nat.le_of_lt hwb) hwb2);clear c4 K4 p0 p1 p2 p3 p4 pf;obtain⟨q0,q1,q2,qf⟩:=box3 W4.blk;cases hc:chkE e [] with
  | inl z =>
   obtain⟨er,a⟩:=z;have her:=chkE_er hc;rw[hc] at q1 q2;simp only[stS,erO,plO] at q1 q2;have hne:((er:Int) != 0)=true:=by simp;omega
   have FIN:Hid (T=(0,er,a)):=by show T=_;rw[HT2.out,hc]
   clear HT2 hc her hk' W4;go_wp2_with fail
   go_quiet (fail)
   go_wp2;refine bodyPost_ret (v:=tupT (0,er,a)) (by simp[results,Tryz.results44,go_sem]) rfl ⟨by rw[FIN.out],?_⟩;rw[<-HB.out];exact HZ.out.trans ⟨rfl,rfl,rfl,Nat.le_refl _,fun _ _=>rfl⟩
  | inr k =>
   obtain rfl:=hk' k hc;rw[hc] at q1 q2;simp only[stS,erO,plO] at q1 q2;have FIN:Hid (T=(k',0,0)):=by show T=_;rw[HT2.out,hc]
   clear HT2 hc hk' W4;go_wp2;refine bodyPost_ret (v:=tupT (k',0,0)) (by simp[results,Tryz.results44,go_sem]) rfl ⟨by rw[FIN.out],?_⟩;rw[<-HB.out];exact HZ.out
def sameF:Fs->Fs->Bool
 | ⟨none⟩,⟨none⟩=>true
 | ⟨some ⟨k,n,nm,_,ks,r⟩⟩,⟨some ⟨k',n',nm',_,ks',r'⟩⟩=>k==k'&&n==n'&&nm==nm'&&sameF ks ks'&&sameF r r'
 | _,_=>false
def sameE (a b:Ex):Bool:=a.k==b.k&&a.n==b.n&&a.nm==b.nm&&sameF a.kids b.kids
theorem sameF_len:∀ (x y:Fs),x.len≠y.len->sameF x y=false
 | ⟨none⟩,⟨none⟩,h=>absurd rfl h
 | ⟨none⟩,⟨some ⟨k',n',nm',a',ks',r'⟩⟩,h=>rfl
 | ⟨some ⟨k,n,nm,a,ks,r⟩⟩,⟨none⟩,h=>rfl
 | ⟨some ⟨k,n,nm,a,ks,r⟩⟩,⟨some ⟨k',n',nm',a',ks',r'⟩⟩,h=>by
  have h2:r.len≠r'.len:=fun e=>h (by simp only[Fs.len,e]);simp only[sameF,sameF_len r r' h2,Bool.and_false]
def nmP (k:Int)(nm:List UInt8):Bool:=if k==23 then nameB nm else nm==[]
def nuP (nc:Nat)(k n:Int)(ar:Nat):Bool :=
 if k==1 then true else if k==2 then n==0||n==1 else if k==3 then decide (0<=n) else if k==5 then decide (0<=n)&&decide (n<(ar:Int))
 else if k==20 then decide (1<=n)&&decide (n<=10) else if k==21 then decide (1<=n)&&decide (n<=6) else if k==26 then decide (0<=n)&&decide (n<(nc:Int)) else n==0
def wkP (ks:List Int)(i:Nat):Int :=
 match ks[i]? with
 | some k=>if k=4 then 0 else k
 | none=>0
def formP (k n:Int)(ks:List Int):List Int × Int :=
 if k=1 then ([],1) else if k=2 then ([],2) else if k=3\/k=5 then ([],3) else if k=6 then ([1],1) else if k=7 then ([2],2)
 else if 8<=k/\k<=12 then ([1,1],1) else if k=15\/k=16 then ([1,1],2) else if k=17\/k=18 then ([2,2],2)
 else if k=13\/k=14 then ([wkP ks 0,wkP ks 0],2) else if k=19 then ([2,wkP ks 1,wkP ks 1],wkP ks 1)
 else if k=20 then (if n=1\/n=2 then ([3,3],2) else if n=3 then ([3,3],1) else if n=10 then ([3],3) else ([3],1))
 else if k=21 then (if n=1\/n=2 then ([4,2],2) else if n=3 then ([4,2],1) else ([4,1],1))
 else if k=26 then ([wkP ks 0],wkP ks 0) else if k=22\/k=23 then ([],4) else if k=24 then ([3],4) else if k=25 then (List.replicate ks.length 3,4) else ([],0)
def hgF:Fs->Int->Int
 | ⟨none⟩,_=>0
 | ⟨some ⟨k,n,_,_,ks,r⟩⟩,ar=>max (max (if k=5/\n<ar then n+1 else 0) (hgF ks ar)) (hgF r ar)
def hgE (e:Ex)(ar:Int):Int:=max (if e.k=5/\e.n<ar then e.n+1 else 0) (hgF e.kids ar)
abbrev Rg:=Nat × (Nat->Option Ex)
def spotP (pk:Int)(i ar wi:Nat):Nat × Nat:=if pk=21 then (if i=0 then ar else ar+1,wi+1) else (ar,wi)
def keepP (cells:List Int)(n:Int)(ks:Fs)(ar:Nat)(s:Rg):Option Rg :=
 match cells[n.toNat]? with
 | none=>none
 | some lv =>
  if (ar:Int)<lv\/lv<hgE ks.head ar then none else
  match s.2 n.toNat with
  | none=>some (s.1,fun i=>if i=n.toNat then some ks.head else s.2 i)
  | some x=>if sameE x ks.head then some s else none
def rgF (cells:List Int):Fs->Int->Nat->Nat->Nat->Rg->Option (Rg × List Int)
 | ⟨none⟩,_,_,_,_,s=>some (s,[])
 | ⟨some ⟨k,n,nm,a,ks,r⟩⟩,pk,i,ar,wi,s =>
  if 4096<s.1+1\/4<(spotP pk i ar wi).2\/nmP k nm=false\/nuP cells.length k n (spotP pk i ar wi).1=false then none else
  match rgF cells ks k 0 (spotP pk i ar wi).1 (spotP pk i ar wi).2 (s.1+1,s.2) with
  | none=>none
  | some (s1,kd) =>
   if (formP k n kd).2=0\/(formP k n kd).1≠kd then none else
   match (if k=26 then keepP cells n ks (spotP pk i ar wi).1 s1 else some s1) with
   | none=>none
   | some s2 =>
    match rgF cells r pk (i+1) ar wi s2 with
    | none=>none
    | some (s3,rest)=>some (s3,(formP k n kd).2::rest)
def kindP (cells:List Int)(e:Ex):Int :=
 if 256<cells.length\/cells.any (fun c=>decide (c<0)||decide (4<c))=true then 0 else
 match rgF cells (one e) 0 0 0 0 (0,fun _=>none) with
 | some (_,[k])=>if k=4 then 0 else k
 | _=>0
theorem rgF_len (cells:List Int):∀ (f:Fs) (pk:Int) (i ar wi:Nat) (s s':Rg) (kd:List Int),rgF cells f pk i ar wi s=some (s',kd)->kd.length=f.len
 | ⟨none⟩,pk,i,ar,wi,s,s',kd,h=>by
  simp only[rgF] at h;injection h with h
  injection h with h1 h2
  subst h2;rfl
 | ⟨some ⟨k,n,nm,a,ks,r⟩⟩,pk,i,ar,wi,s,s',kd,h=>by
  unfold rgF at h;split at h
  ·cases h
  ·split at h
   ·cases h
   ·split at h
    ·cases h
    ·split at h
     ·cases h
     ·split at h
      ·cases h
      ·rename_i s3 rest h5
       injection h with h
       injection h with h1 h2
       subst h2
       have:=rgF_len cells r pk (i+1) ar wi _ _ _ h5
       simp only[List.length_cons,Fs.len];omega
def rgE (cells:List Int)(e:Ex)(ar wi:Nat)(s:Rg):Option (Rg × Int) :=
 if 4096<s.1+1\/4<wi\/nmP e.k e.nm=false\/nuP cells.length e.k e.n ar=false then none else
 match rgF cells e.kids e.k 0 ar wi (s.1+1,s.2) with
 | none=>none
 | some (s1,kd) =>
  if (formP e.k e.n kd).2=0\/(formP e.k e.n kd).1≠kd then none else
  match (if e.k=26 then keepP cells e.n e.kids ar s1 else some s1) with
  | none=>none
  | some s2=>some (s2,(formP e.k e.n kd).2)
theorem rg_ex (cells:List Int)(x:Ex)(r:Fs)(pk:Int)(i ar wi:Nat)(s:Rg) :
  rgF cells (Fs.ex x r) pk i ar wi s=(match rgE cells x (spotP pk i ar wi).1 (spotP pk i ar wi).2 s with
   | none=>none
   | some (s2,k)=>match rgF cells r pk (i+1) ar wi s2 with
    | none=>none
    | some (s3,rest)=>some (s3,k::rest)):=by
 obtain⟨k,n,nm,a,ks⟩:=x;unfold Fs.ex
 conv=>lhs;unfold rgF
 unfold rgE;simp only;by_cases h1:4096<s.1+1\/4<(spotP pk i ar wi).2\/nmP k nm=false\/nuP cells.length k n (spotP pk i ar wi).1=false
 ·rw[if_pos h1,if_pos h1]
 ·rw[if_neg h1,if_neg h1];cases rgF cells ks k 0 (spotP pk i ar wi).1 (spotP pk i ar wi).2 (s.1+1,s.2) with
  | none=>rfl
  | some z =>
   obtain⟨s1,kd⟩:=z;simp only;by_cases h2:(formP k n kd).2=0\/(formP k n kd).1≠kd
   ·rw[if_pos h2,if_pos h2]
   ·rw[if_neg h2,if_neg h2];cases (if k=26 then keepP cells n ks (spotP pk i ar wi).1 s1 else some s1) with
    | none=>rfl
    | some s2=>rfl
theorem rgE_pos {cells:List Int}{e:Ex}{ar wi:Nat}{s s':Rg}{k:Int}(h:rgE cells e ar wi s=some (s',k)):k≠0:=by
 unfold rgE at h;split at h
 ·cases h
 ·split at h
  ·cases h
  ·split at h
   ·cases h
   ·rename_i h2
    split at h
    ·cases h
    ·injection h with h
     injection h with _ h
     intro h3;exact h2 (.inl (h.trans h3))
def gdE (cells:List Int)(e:Ex)(ar wi:Nat)(s:Rg):Prop:=¬(4096<s.1+1\/4<wi\/nmP e.k e.nm=false\/nuP cells.length e.k e.n ar=false)
theorem gd_bad {cells:List Int}{e:Ex}{ar wi:Nat}{s:Rg}(h:¬gdE cells e ar wi s):rgE cells e ar wi s=none:=by
 unfold rgE;unfold gdE at h;rw[if_pos (Classical.not_not.1 h)]
def docF (k n:Int)(nm:List UInt8)(len:Nat):Bool :=
 if k=1 then nm==[]&&len==0
 else if k=2 then (n==0||n==1)&&(nm==[]&&len==0)
 else if k=3\/k=5 then decide (0<=n)&&(nm==[]&&len==0)
 else if k=6\/k=7\/k=24 then n==0&&(nm==[]&&len==1)
 else if 8<=k/\k<=18 then n==0&&(nm==[]&&len==2)
 else if k=19 then n==0&&(nm==[]&&len==3)
 else if k=20 then nm==[]&&((decide (1<=n)&&decide (n<=3)&&len==2)||(decide (4<=n)&&decide (n<=10)&&len==1))
 else if k=21 then decide (1<=n)&&(decide (n<=6)&&(nm==[]&&len==2))
 else if k=22 then n==0&&(nm==[]&&len==0)
 else if k=23 then n==0&&(len==0&&nameB nm)
 else if k=25 then n==0&&nm==[]
 else if k=26 then nm==[]&&len==1
 else false
theorem rgE_inv {cells:List Int}{e:Ex}{ar wi:Nat}{s s':Rg}{k:Int}(h:rgE cells e ar wi s=some (s',k)) :
  gdE cells e ar wi s/\∃s1 kd,rgF cells e.kids e.k 0 ar wi (s.1+1,s.2)=some (s1,kd)/\kd.length=e.kids.len/\(formP e.k e.n kd).2≠0/\(formP e.k e.n kd).1=kd/\k=(formP e.k e.n kd).2/\(if e.k=26 then keepP cells e.n e.kids ar s1 else some s1)=some s':=by
 unfold rgE at h;split at h
 ·cases h
 ·rename_i hg
  split at h
  ·cases h
  ·rename_i s1 kd hr
   split at h
   ·cases h
   ·rename_i h2
    split at h
    ·cases h
    ·rename_i s2 h3
     injection h with h
     injection h with h4 h5
     subst h4;exact⟨hg,s1,kd,hr,rgF_len _ _ _ _ _ _ _ _ _ hr,fun h=>h2 (.inl h),Classical.not_not.1 (fun h=>h2 (.inr h)),h5.symm,h3⟩
theorem formP_kind {k n:Int}{kd:List Int}(h:(formP k n kd).2≠0):(1<=k/\k<=3)\/(5<=k/\k<=26):=by
 apply Classical.byContradiction;intro hc;apply h;unfold formP
 repeat rw[if_neg (by omega)]
theorem docF_of {cells:List Int}{e:Ex}{ar wi:Nat}{s s':Rg}{k:Int}(h:rgE cells e ar wi s=some (s',k)):docF e.k e.n e.nm e.kids.len=true:=by
 obtain⟨hg,s1,kd,-,hl,h0,h1,-,-⟩:=rgE_inv h;obtain⟨k0,n,nm,a,f⟩:=e;unfold gdE at hg;simp only at hg hl h0 h1 ⊢;clear h;have hk:=formP_kind h0;have hlen:(formP k0 n kd).1.length=f.len:=by rw[h1,hl]
 have hc:k0=1\/k0=2\/k0=3\/k0=5\/k0=6\/k0=7\/k0=8\/k0=9\/k0=10\/k0=11\/k0=12\/k0=13\/k0=14\/k0=15\/k0=16\/k0=17\/k0=18\/k0=19\/k0=20\/k0=21\/k0=22\/k0=23\/k0=24\/k0=25\/k0=26:=by omega
 clear h0 h1 hl hk;generalize f.len=m at hlen ⊢;rcases hc with rfl|rfl|rfl|rfl|rfl|rfl|rfl|rfl|rfl|rfl|rfl|rfl|rfl|rfl|rfl|rfl|rfl|rfl|rfl|rfl|rfl|rfl|rfl|rfl|rfl <;>
  simp[nmP,nuP] at hg<;>simp[formP] at hlen<;>simp[docF,hg,<-hlen]
 ·omega
 ·have h10:n=1\/n=2\/n=3\/n=4\/n=5\/n=6\/n=7\/n=8\/n=9\/n=10:=by omega
  rcases h10 with rfl|rfl|rfl|rfl|rfl|rfl|rfl|rfl|rfl|rfl<;>simp
 ·have h10:n=1\/n=2\/n=3\/n=4\/n=5\/n=6:=by omega
  rcases h10 with rfl|rfl|rfl|rfl|rfl|rfl<;>simp
theorem docF_kind {k n:Int}{nm:List UInt8}{len:Nat}(h:docF k n nm len=true):k=1\/k=2\/k=3\/k=5\/k=6\/k=7\/k=8\/k=9\/k=10\/k=11\/k=12\/k=13\/k=14\/k=15\/k=16\/k=17\/k=18\/k=19\/k=20\/k=21\/k=22\/k=23\/k=24\/k=25\/k=26:=by
 apply Classical.byContradiction;intro hc;unfold docF at h
 repeat rw[if_neg (by omega)] at h
 cases h
def kndD (cells:List Int)(e:Ex)(ar wi:Nat)(s:Rg):Option (Rg × Int) :=
 match rgE cells e ar wi s with
 | none=>none
 | some (s',k)=>if k=4 then none else some (s',k)
theorem hgF_pos (ar:Int):∀ (f:Fs),0<=hgF f ar
 | ⟨none⟩=>by simp[hgF]
 | ⟨some ⟨k,n,nm,a,ks,r⟩⟩=>by
  have:=hgF_pos ar r
  simp only[hgF];exact Int.le_trans this (Int.le_max_right _ _)
theorem hgF_le (ar:Int)(h0:0<=ar):∀ (f:Fs),hgF f ar<=ar
 | ⟨none⟩=>by simpa [hgF] using h0
 | ⟨some ⟨k,n,nm,a,ks,r⟩⟩=>by
  have h1:=hgF_le ar h0 ks;have h2:=hgF_le ar h0 r;have h3:(if k=5/\n<ar then n+1 else 0)<=ar:=by split<;>omega
  simp only[hgF];generalize (if k=5/\n<ar then n+1 else 0)=z at h3 ⊢;omega
theorem hgE_le (ar:Int)(h0:0<=ar)(e:Ex):hgE e ar<=ar:=by
 have h1:=hgF_le ar h0 e.kids;have h3:(if e.k=5/\e.n<ar then e.n+1 else 0)<=ar:=by split<;>omega
 unfold hgE;generalize (if e.k=5/\e.n<ar then e.n+1 else 0)=z at h3 ⊢;omega
theorem hgE_pos (ar:Int)(e:Ex):0<=hgE e ar:=by
 have:=hgF_pos ar e.kids
 unfold hgE;omega
structure Kp (a b:Nat)(w w':World):Prop where
 os:w'.os=w.os
 tape:w'.tape=w.tape
 output:w'.output=w.output
 size:w.heap.size<=w'.heap.size
 block:∀ k,k<w.heap.size->k≠a->k≠b->w'.heap[k]?=w.heap[k]?
theorem Kp.refl (a b:Nat)(w:World):Kp a b w w:=⟨rfl,rfl,rfl,Nat.le_refl _,fun _ _ _ _=>rfl⟩
theorem Kp.trans {p q:Nat}{a b c:World}(h:Kp p q a b)(k:Kp p q b c):Kp p q a c :=
 ⟨k.os.trans h.os,k.tape.trans h.tape,k.output.trans h.output,Nat.le_trans h.size k.size,fun i hi hn hm=>(k.block i (Nat.lt_of_lt_of_le hi h.size) hn hm).trans (h.block i hi hn hm)⟩
theorem Kp.ofBelow {a b:Nat}{w w':World}(h:Below w.heap.size w w'):Kp a b w w':=⟨h.os,h.tape,h.output,h.size,fun k hk _ _=>h.block k hk⟩
theorem Kp.set {p q:Nat}{a w:World}(h:Kp p q a w)(r:Addr)(u:Value)(hp:a.heap.size<=r.block\/r.block=p\/r.block=q):Kp p q a (w.setCell r u) :=
 ⟨h.os,h.tape,h.output,by simpa using h.size,fun k hk hn hm=>(heap_setCell_other w r k u (fun e=>by
  rcases hp with hp|hp|hp
  ·omega
  ·exact hn (e.trans hp)
  ·exact hm (e.trans hp))).trans (h.block k hk hn hm)⟩
theorem Kp.below {a b n:Nat}{w w':World}(h:Kp a b w w')(ha:n<=a)(hb:n<=b)(hs:n<=w.heap.size):Below n w w':=⟨h.os,h.tape,h.output,h.size,fun k hk=>h.block k (by omega) (by omega) (by omega)⟩
theorem SlN.belowP {P:Nat->Prop}{w w':World}{f:Fs}{ao:Option Addr}(h:SlN w P f ao)(b:Below w.heap.size w w'):SlN w' P f ao:=h.mono (fun i _ hl=>b.block i hl) b.size (fun _ h _=>h)
def Inw (w:World)(P:Nat->Prop)(v:Value)(xs:List Int):Prop :=
 ∃ao cap,v=.slice ao xs.length cap/\(xs=[]\/∃b off,ao=some ⟨b,off,none⟩/\P b/\b<w.heap.size/\∀ j x,xs[j]?=some x->w.cell? ⟨b,off+j,none⟩=some (.int .i64 x))
theorem Inw.mono {w w':World}{P Q:Nat->Prop}{v:Value}{xs:List Int}(hb:∀ k,P k->k<w.heap.size->w'.heap[k]?=w.heap[k]?)(hs:w.heap.size<=w'.heap.size)(hq:∀ k,P k->k<w.heap.size->Q k)(h:Inw w P v xs):Inw w' Q v xs:=by
 obtain⟨ao,cap,rfl,h⟩:=h;refine⟨ao,cap,rfl,?_⟩;rcases h with h|⟨b,off,rfl,hp,hlt,hc⟩
 ·exact .inl h
 ·exact .inr ⟨b,off,rfl,hq b hp hlt,Nat.lt_of_lt_of_le hlt hs,fun j u hu=>(World.cell?_of_block (a:=⟨b,off+j,none⟩) (hb b hp hlt)).trans (hc j u hu)⟩
theorem Inw.below {P:Nat->Prop}{w w':World}{v:Value}{xs:List Int}(h:Inw w P v xs)(b:Below w.heap.size w w'):Inw w' P v xs:=h.mono (fun i _ hl=>b.block i hl) b.size (fun _ h _=>h)
theorem SlN.kidP {P:Nat->Prop}{w:World}{x r:Fs}{y:Ex}{ao:Option Addr}(h:SlN w P (x.app (Fs.ex y r)) ao)(i:Nat)(hi:x.len=i):∃b off ak ck,ao=some ⟨b,off,none⟩/\w.cell? ⟨b,off+i*4,none⟩=some (.int .i64 y.k)/\w.cell? ⟨b,off+i*4+1,none⟩=some (.int .i64 y.n)/\w.cell? ⟨b,off+i*4+2,none⟩=some (stv y.nm)/\w.cell? ⟨b,off+i*4+3,none⟩=some (.slice ak y.kids.len ck)/\SlN w P y.kids ak:=by
 subst hi;obtain⟨b,off,ak,ck,rfl,-,-,x0,x1,x2,x3,S⟩:=SlN.kidQ h;exact⟨b,off,ak,ck,rfl,x0,x1,x2,x3,S⟩
theorem emp_beq {nm:List UInt8}{b:Bool}(h:(nm==[])=b):((⟨nm.toArray⟩:ByteArray)==⟨#[]⟩)=b:=by
 rw[<-h];cases nm with
 | nil=>rfl
 | cons x r =>
  show (List.toArray (x::r)==#[])=((x::r)==[]);rw[Bool.eq_iff_iff];simp
end Go.Proofs.YtkhgahljbpmfaaaGreatDoor

import Derived.Test.YtnfmpocfakblmaaGreatDoorWrqF
set_option maxRecDepth 100000
set_option maxHeartbeats 8000000
namespace Go.Proofs.YtnfmpocfakblmaaGreatDoor
open Go.ChangeShapes Go.WideShapes Go.ChangeAt Go.RowKit
set_option linter.unusedVariables false
set_option linter.unusedSimpArgs false
theorem put_nil {w:World}{o:Nat->Nat}{wb:Nat}{st:Ow}(h:WQ w o wb st):putO [] st=st:=by
 match st,h with
 | none,h=>rfl
 | some s,h =>
  have:=h.2.1
  simp only[putO,List.length_nil,List.append_nil];rw[if_neg (by omega)]
theorem oFs_ex (x:Ex)(r:Fs)(b:Bool)(g:Sep)(i:Nat)(s:Ow):oFs (Fs.ex x r) b g i s=oFs r false g (i+1) (oE x.k x.n x.nm x.kids.len b (g i).2 (fun g s=>oFs x.kids (x.k==21) g 0 s) (putO (g i).1 s)):=rfl
theorem okid_eq (e y:Ex)(i:Nat)(s:Ow){flag:Bool}{asked:Nat}(h1:flag=(e.k==21&&decide (i=0)))(h2:asked=askO e.k i):oE y.k y.n y.nm y.kids.len flag asked (fun g s=>oFs y.kids (y.k==21) g 0 s) s=oKid e y i s:=by subst h1 h2;rfl
theorem kid_bal (e y:Ex)(i:Nat)(s:Ow):Bal s (oKid e y i s):=e_bal (fun g s=>fs_bal _ _ _ _ _) s
theorem Fs.app_rng:∀ {x y:Fs},(x.app y).rng->y.rng
 | ⟨none⟩,y,h=>h
 | ⟨some ⟨k,n,nm,a,ks,r⟩⟩,y,h=>Fs.app_rng h.2.2.2
theorem Ex.kidfit {e:Ex}(h:e.fit){x:Fs}{y:Ex}{r:Fs}(hk:e.kids=x.app (Fs.ex y r)):y.fit:=by
 have h1:(Fs.ex y r).short:=Fs.app_short (by rw[<-hk];exact h.sh);have h2:(Fs.ex y r).rng:=Fs.app_rng (by rw[<-hk];exact h.rng);exact⟨h1.1,h1.2.2.1,h1.2.1,h2.1,h2.2.1,h2.2.2.1⟩
theorem app_snoc:∀ (x:Fs) (y:Ex) (r:Fs),x.app (Fs.ex y r)=(x.snoc y).app r
 | ⟨none⟩,y,r=>by simp only[Fs.snoc,Fs.app,one];rfl
 | ⟨some ⟨k,n,nm,a,ks,rr⟩⟩,y,r=>by
  have:=app_snoc rr y r
  simp only[Fs.snoc] at this ⊢;simp only[Fs.app];rw[this]
theorem list_qw {N:Nat}(IH:PartQ N)(e:Ex)(hek:e.k=20\/e.k=24\/e.k=25)(hN:e.kids.size<=N)(he:e.fit)(ao:Option Addr)(cap wb:Nat)(st:Ow)(w:World)(o:Nat->Nat)(S:Sl w (L0 o) e.kids ao)(H:WQ w o wb st) :
  Calls Tryz.prog 249 #[.pointer (some ⟨wb,0,none⟩),exV e ao cap] w (PostO w o wb (oFs e.kids (e.k==21) comS 0 st)):=by
 have h21:(e.k==21)=false:=bne (by omega);have hask:∀ i,askO e.k i=0:=fun i=>by rcases hek with h|h|h<;>rw[h]<;>rfl
 rw[h21];obtain⟨W,hW⟩:∃W,W=oFs e.kids false comS 0 st:=⟨_,rfl⟩
 rw[<-hW];have HW:Hid (oFs e.kids false comS 0 st=W):=hW.symm;have H21:Hid ((e.k==21)=false):=h21;have HA:Hid (∀ i,askO e.k i=0):=hask;have hlen:=he.len;have s0:=boxStep (fun _=>False) w o (bxX e ao cap);have E0:Blk (w.alloc (bxX e ao cap)) (newLab w o 0) 0 w.heap.size (bxX e ao cap):=boxBlk w o _ _;have S0:=S.stp0 s0;have H0:=H.stp0 s0;have T0:=s0.i12;clear hW h21 hask S H s0 hek;rw[exV_out];go_enter Tryz.func249,Tryz.ntmps249;go_upto_region 1 with fail;generalize w.alloc (bxX e ao cap)=w0 at *;generalize newLab w o 0=o0 at *;generalize w.heap.size=be at *;go_wp2_with fail;go_loopw [4] (fun v wr=>∃(done r:Fs) (u:Ow) (o':Nat->Nat),Hid (e.kids=done.app r)/\v=.int .i64 (done.len:Nat)/\Hid (oFs r false comS done.len u=W)/\WQ wr o' wb u/\Blk wr o' 0 be (.cells #[.int .i64 e.k,.int .i64 e.n,stv e.nm,.slice ao e.kids.len cap,.int .i64 e.a] 25 (0,0))/\Sl wr (L0 o') e.kids ao/\Step I12 w o wr o') (fun v _=>e.kids.len-(intOf v).toNat)
 case atStart=>exact⟨.nil,e.kids,st,o0,rfl,by show _=Value.int .i64 ((0:Nat):Int);rfl,HW,H0,E0,S0,T0⟩
 case round =>
  clear HW H0 E0 S0 T0;obtain⟨done,r,u,o3,hk,rfl,HU,H3,E3,S3,T3⟩:=hrel;have hlk:e.kids.len=done.len+r.len:=by rw[hk.out,Fs.len_app]
  obtain⟨p0,p1,p2,p3,p4,pf⟩:=box5 E3.1;cases r using Fs.on with
  | nil =>
   have hl0:¬(done.len:Int)<(e.kids.len:Int):=by simp only[Fs.len] at hlk;omega
   have hu:u=W:=HU.out;subst hu;clear HU hlk;go_wp2
   go_end0
   exact⟨rfl,o3,H3,T3⟩
  | cons kk kn km ka kks kr =>
   have hl0:(done.len:Int)<(e.kids.len:Int):=by simp only[Fs.len] at hlk;omega
   obtain⟨c3,cf,-,-⟩:=H3.end;cases u with
   | none =>
    have hu:W=none:=by rw[<-HU.out];exact fs_gone _ _ _ _
    have c3:wr.cell? ⟨wb,3,none⟩=some (.bool false):=c3;subst hu;clear HU hlk;go_wp2
    go_end0
    exact⟨rfl,o3,H3,T3⟩
   | some u0 =>
    have c3:wr.cell? ⟨wb,3,none⟩=some (.bool true):=c3;obtain⟨y,hy⟩:∃y:Ex,y=⟨kk,kn,km,ka,kks⟩:=⟨_,rfl⟩
    have hk2:e.kids=done.app (Fs.ex y kr):=by rw[hk.out,hy];rfl
    have hyf:y.fit:=Ex.kidfit he hk2;have hyN:y.kids.size<N:=by
     have:e.kids.size=done.size+(y.kids.size+kr.size+1):=by rw[hk2,Fs.size_app];rfl
     omega
    have HU2:Hid (oFs kr false comS (done.len+1) (oKid e y done.len (putO (comS done.len).1 (some u0)))=W):=by
     show _=W;rw[<-HU.out,<-okid_eq e y done.len _ (flag:=false) (asked:=0) (by rw[H21.out];rfl) (HA.out _).symm,hy];rfl
    have HK9:Hid (e.kids=(done.snoc y).app kr):=by show _=_;rw[hk2,app_snoc]
    have hlen1:done.len+1<=1000000000:=by simp only[Fs.len] at hlk;omega
    have HK2:=Lib.hid hk2;clear HU hy hlk hk2;by_cases hd:done.len=0
    ·have hd0:¬(0:Int)<(done.len:Int):=by omega
     have HU3:Hid (oFs kr false comS (done.len+1) (oKid e y done.len (some u0))=W):=by
      show _=W;rw[<-HU2.out]
      have:(comS done.len).1=[]:=by unfold comS;simp[hd]
      rw[this,put_nil H3]
     have c5:=kid_q IH e y done kr HK2.out done.len rfl (by omega) hyN hyf ao cap wb _ wr o3 S3 H3;rw[exV_out] at c5;clear HU2 hd hyf hyN;generalize oKid e y done.len (some u0)=u5 at *;go_wp2_with fail;refine c5.mono ?_;rintro e2 w5 ⟨rfl,o5,H5,s5⟩;have T5:=T3.trans s5;have S5:=S3.stp s5;have E5:=E3.stp s5;clear c5 H3 T3 S3 E3 s5 p0 p1 p2 p3 p4 pf c3 cf;go_wp2;go_roundw
     case rel=>(try ((repeat apply Exists.intro);refine⟨?_,rfl⟩));exact⟨done.snoc y,kr,u5,o5,HK9,by rw[Fs.len_snoc];go_num,by rw[Fs.len_snoc];exact HU3,H5,E5,S5,T5⟩
     case measure=>simp[intOf];omega
    ·have hd0:(0:Int)<(done.len:Int):=by omega
     have hcs:(comS done.len).1=[44,32]:=by unfold comS;simp[hd]
     rw[hcs] at HU2;have c4:=puts_o [44,32] H3 (by simp);generalize putO [44,32] (some u0)=u4 at *;clear hd hcs;go_wp2_with fail;refine c4.mono ?_;rintro e2 w4 ⟨rfl,o4,H4,s4⟩;have T4:=T3.trans s4;have S4:=S3.stp s4;have E4:=E3.stp s4;clear c4 H3 T3 S3 E3 s4 p0 p1 p2 p3 p4 pf c3 cf;obtain⟨p0,p1,p2,p3,p4,pf⟩:=box5 E4.1;have c5:=kid_q IH e y done kr HK2.out done.len rfl (by omega) hyN hyf ao cap wb _ w4 o4 S4 H4;rw[exV_out] at c5;clear hyf hyN;generalize oKid e y done.len u4=u5 at *;go_wp2_with fail;refine c5.mono ?_;rintro e2 w5 ⟨rfl,o5,H5,s5⟩;have T5:=T4.trans s5;have S5:=S4.stp s5;have E5:=E4.stp s5;clear c5 H4 T4 S4 E4 s5 p0 p1 p2 p3 p4 pf;go_wp2;go_roundw
     case rel=>(try ((repeat apply Exists.intro);refine⟨?_,rfl⟩));exact⟨done.snoc y,kr,u5,o5,HK9,by rw[Fs.len_snoc];go_num,by rw[Fs.len_snoc];exact HU2,H5,E5,S5,T5⟩
     case measure=>simp[intOf];omega
theorem cat2 (l m:List UInt8):(⟨l.toArray⟩:ByteArray)++⟨m.toArray⟩=⟨(l++m).toArray⟩:=by
 apply ByteArray.ext;simp
theorem great_if {N:Nat}(IH:PartQ N)(e:Ex)(hNk:e.kids.size<=N)(he:e.fit)(ao:Option Addr)(cap wb:Nat)(st:Ow)(w:World)(o:Nat->Nat)(S:Sl w (L0 o) e.kids ao)(H:WQ w o wb st)(hk:e.k=19)(hl:e.kids.len=3) :
  Calls Tryz.prog 235 #[.pointer (some ⟨wb,0,none⟩),exV e ao cap] w (PostO w o wb (oNode e.k e.n e.nm (fun g s=>oFs e.kids (e.k==21) g 0 s) st)):=by
 obtain⟨x,y,z,hks⟩:=len3 hl;have hk0:Hid (e.kids=Fs.app .nil (Fs.ex x (Fs.ex y (Fs.ex z .nil)))):=hks;have hk1:Hid (e.kids=Fs.app (one x) (Fs.ex y (Fs.ex z .nil))):=by show _=_;rw[hks];rfl
 have hk2:Hid (e.kids=Fs.app ((one x).snoc y) (Fs.ex z .nil)):=by show _=_;rw[hks];rfl
 have hsz:e.kids.size=x.kids.size+(y.kids.size+(z.kids.size+0+1)+1)+1:=by rw[hks];rfl
 have hNx:x.kids.size<N:=by omega
 have hNy:y.kids.size<N:=by omega
 have hNz:z.kids.size<N:=by omega
 have hfx:=Ex.kidfit he hk0.out;have hfy:=Ex.kidfit he hk1.out;have hfz:=Ex.kidfit he hk2.out;have HF:Hid (oNode e.k e.n e.nm (fun g s=>oFs e.kids (e.k==21) g 0 s) st=leaO (oKid e z 2 (putO [32,101,108,115,101,32] (oKid e y 1 (putO [32,116,104,101,110,32] (oKid e x 0 (putO [105,102,32] (entO st)))))))):=by
  show _=_;unfold oNode;rw[if_neg (by omega),if_neg (by omega),if_pos hk];simp only[hks,oFs_ex];rw[okid_eq e x 0 _ (by rw[hk];rfl) (by rw[hk];rfl),okid_eq e y 1 _ (by rw[hk];rfl) (by rw[hk];rfl),okid_eq e z 2 _ (by rw[hk];rfl) (by rw[hk];rfl)];rfl
 have b19:(e.k==19)=true:=by simp[hk]
 clear hks hk hl hsz;have s0:=boxStep (fun _=>False) w o (bxX e ao cap);have E0:Blk (w.alloc (bxX e ao cap)) (newLab w o 0) 0 w.heap.size (bxX e ao cap):=boxBlk w o _ _;have S0:=S.stp0 s0;have H0:=H.stp0 s0;have T0:=s0.i12;clear S H s0;rw[exV_out];go_enter Tryz.func235,Tryz.ntmps235;go_upto_region 1 with fail;generalize w.alloc (bxX e ao cap)=w0 at *;generalize newLab w o 0=o0 at *;generalize w.heap.size=be at *;obtain⟨p0,p1,p2,p3,p4,pf⟩:=box5 E0.1;have c1:=opens_o [105,102,32] H0 (by simp);have hb1:Bal (entO st) (putO [105,102,32] (entO st)):=(Bal.refl _).put [105,102,32];have hp:Hid (∀ s,Bal (entO st) s->∀ x,s=some x->1<=x.o):=fun s h=>ent_pos h;generalize putO [105,102,32] (entO st)=st1 at *;generalize entO st=se at *;go_wp2_with fail;refine c1.mono ?_;rintro e2 w1 ⟨rfl,o1,H1,s1⟩;have T1:=T0.trans s1;have S1:=S0.stp s1;have E1:=E0.stp s1;clear c1 H0 T0 S0 E0 s1 p0 p1 p2 p3 p4 pf;obtain⟨p0,p1,p2,p3,p4,pf⟩:=box5 E1.1;have c2:=kid_q IH e x .nil (Fs.ex y (Fs.ex z .nil)) hk0.out 0 rfl (by omega) (hNx) (hfx) ao cap wb st1 w1 o1 S1 H1;rw[exV_out] at c2;have hb2:=hb1.trans (kid_bal e x 0 st1);generalize oKid e x 0 st1=st2 at *;go_wp2_with fail;refine c2.mono ?_;rintro e2 w2 ⟨rfl,o2,H2,s2⟩;have T2:=T1.trans s2;have S2:=S1.stp s2;have E2:=E1.stp s2;clear c2 H1 T1 S1 E1 s2 p0 p1 p2 p3 p4 pf hb1;obtain⟨p0,p1,p2,p3,p4,pf⟩:=box5 E2.1;have c3:=puts_o [32,116,104,101,110,32] H2 (by simp);have hb3:=hb2.put [32,116,104,101,110,32];generalize putO [32,116,104,101,110,32] st2=st3 at *;go_wp2_with fail;refine c3.mono ?_;rintro e2 w3 ⟨rfl,o3,H3,s3⟩;have T3:=T2.trans s3;have S3:=S2.stp s3;have E3:=E2.stp s3;clear c3 H2 T2 S2 E2 s3 p0 p1 p2 p3 p4 pf hb2;obtain⟨p0,p1,p2,p3,p4,pf⟩:=box5 E3.1;have c4:=kid_q IH e y (one x) (Fs.ex z .nil) hk1.out 1 rfl (by omega) (hNy) (hfy) ao cap wb st3 w3 o3 S3 H3;rw[exV_out] at c4;have hb4:=hb3.trans (kid_bal e y 1 st3);generalize oKid e y 1 st3=st4 at *;go_wp2_with fail;refine c4.mono ?_;rintro e2 w4 ⟨rfl,o4,H4,s4⟩;have T4:=T3.trans s4;have S4:=S3.stp s4;have E4:=E3.stp s4;clear c4 H3 T3 S3 E3 s4 p0 p1 p2 p3 p4 pf hb3;obtain⟨p0,p1,p2,p3,p4,pf⟩:=box5 E4.1;have c5:=puts_o [32,101,108,115,101,32] H4 (by simp);have hb5:=hb4.put [32,101,108,115,101,32];generalize putO [32,101,108,115,101,32] st4=st5 at *;go_wp2_with fail;refine c5.mono ?_;rintro e2 w5 ⟨rfl,o5,H5,s5⟩;have T5:=T4.trans s5;have S5:=S4.stp s5;have E5:=E4.stp s5;clear c5 H4 T4 S4 E4 s5 p0 p1 p2 p3 p4 pf hb4;obtain⟨p0,p1,p2,p3,p4,pf⟩:=box5 E5.1;have c6:=kid_q IH e z ((one x).snoc y) .nil hk2.out 2 rfl (by omega) (hNz) (hfz) ao cap wb st5 w5 o5 S5 H5;rw[exV_out] at c6;have hb6:=hb5.trans (kid_bal e z 2 st5);generalize oKid e z 2 st5=st6 at *;go_wp2_with fail;refine c6.mono ?_;rintro e2 w6 ⟨rfl,o6,H6,s6⟩;have T6:=T5.trans s6;have S6:=S5.stp s6;have E6:=E5.stp s6;clear c6 H5 T5 S5 E5 s6 p0 p1 p2 p3 p4 pf hb5;obtain⟨p0,p1,p2,p3,p4,pf⟩:=box5 E6.1;obtain⟨oo7,dd7,df7,s7,H7⟩:=H6.lea (hp.out _ hb6);generalize leaO st6=st7 at *;have T7:=T6.trans s7;have S7:=S6.stp s7;have E7:=E6.stp s7;go_wp2;generalize w6.setCell ⟨wb,1,none⟩ (.int .i64 (wrap64 (oo7-1)))=w7 at *;clear dd7 df7 H6 T6 S6 E6 s7 p0 p1 p2 p3 p4 pf hp hb6;generalize o6=o7 at *;obtain⟨p0,p1,p2,p3,p4,pf⟩:=box5 E7.1
 go_end0
 exact⟨rfl,o7,by rw[HF.out];exact H7,T7⟩
theorem great_around {N:Nat}(IH:PartQ N)(e:Ex)(hNk:e.kids.size<=N)(he:e.fit)(ao:Option Addr)(cap wb:Nat)(st:Ow)(w:World)(o:Nat->Nat)(S:Sl w (L0 o) e.kids ao)(H:WQ w o wb st)(hk:e.k=24) :
  Calls Tryz.prog 235 #[.pointer (some ⟨wb,0,none⟩),exV e ao cap] w (PostO w o wb (oNode e.k e.n e.nm (fun g s=>oFs e.kids (e.k==21) g 0 s) st)):=by
 have hek:e.k=20\/e.k=24\/e.k=25:=by omega
 have HF:Hid (oNode e.k e.n e.nm (fun g s=>oFs e.kids (e.k==21) g 0 s) st=putO [41] (leaO (oFs e.kids (e.k==21) comS 0 (putO [40] (entO (putO [97,114,111,117,110,100] st)))))):=by
  show _=_;unfold oNode;rw[if_neg (by omega),if_neg (by omega),if_neg (by omega),if_neg (by omega),if_neg (by omega),if_pos hk];rfl
 have b19:(e.k==19)=false:=bne (by omega);have b21:(e.k==21)=false:=bne (by omega);have b20:(e.k==20)=false:=bne (by omega);have b24:(e.k==24)=true:=by simp[hk]
 have HEK:=Lib.hid hek;clear hk hek;have s0:=boxStep (fun _=>False) w o (bxX e ao cap);have E0:Blk (w.alloc (bxX e ao cap)) (newLab w o 0) 0 w.heap.size (bxX e ao cap):=boxBlk w o _ _;have S0:=S.stp0 s0;have H0:=H.stp0 s0;have T0:=s0.i12;clear S H s0;rw[exV_out];go_enter Tryz.func235,Tryz.ntmps235;go_upto_region 1 with fail;generalize w.alloc (bxX e ao cap)=w0 at *;generalize newLab w o 0=o0 at *;generalize w.heap.size=be at *;obtain⟨p0,p1,p2,p3,p4,pf⟩:=box5 E0.1;have c1:=puts_o [97,114,111,117,110,100] H0 (by simp);generalize putO [97,114,111,117,110,100] st=st1 at *;go_wp2_with fail;refine c1.mono ?_;rintro e2 w1 ⟨rfl,o1,H1,s1⟩;have T1:=T0.trans s1;have S1:=S0.stp s1;have E1:=E0.stp s1;clear c1 H0 T0 S0 E0 s1 p0 p1 p2 p3 p4 pf;obtain⟨p0,p1,p2,p3,p4,pf⟩:=box5 E1.1;have c2:=opens_o [40] H1 (by simp);have hb2:Bal (entO st1) (putO [40] (entO st1)):=(Bal.refl _).put [40];have hp:Hid (∀ s,Bal (entO st1) s->∀ x,s=some x->1<=x.o):=fun s h=>ent_pos h;generalize putO [40] (entO st1)=st2 at *;generalize entO st1=se at *;go_wp2_with fail;refine c2.mono ?_;rintro e2 w2 ⟨rfl,o2,H2,s2⟩;have T2:=T1.trans s2;have S2:=S1.stp s2;have E2:=E1.stp s2;clear c2 H1 T1 S1 E1 s2 p0 p1 p2 p3 p4 pf;obtain⟨p0,p1,p2,p3,p4,pf⟩:=box5 E2.1;have hek:=HEK.out;have c3:=list_qw IH e hek hNk he ao cap wb st2 w2 o2 S2 H2;rw[exV_out] at c3;have hb3:=hb2.trans (fs_bal e.kids (e.k==21) comS 0 st2);generalize oFs e.kids (e.k==21) comS 0 st2=st3 at *;go_wp2_with fail;refine c3.mono ?_;rintro e2 w3 ⟨rfl,o3,H3,s3⟩;have T3:=T2.trans s3;have S3:=S2.stp s3;have E3:=E2.stp s3;clear c3 H2 T2 S2 E2 s3 p0 p1 p2 p3 p4 pf hb2;obtain⟨p0,p1,p2,p3,p4,pf⟩:=box5 E3.1;clear hek;obtain⟨oo4,dd4,df4,s4,H4⟩:=H3.lea (hp.out _ hb3);generalize leaO st3=st4 at *;have T4:=T3.trans s4;have S4:=S3.stp s4;have E4:=E3.stp s4;go_upto_region 35 with fail;generalize w3.setCell ⟨wb,1,none⟩ (.int .i64 (wrap64 (oo4-1)))=w4 at *;clear dd4 df4 H3 T3 S3 E3 s4 p0 p1 p2 p3 p4 pf hp hb3;generalize o3=o4 at *;obtain⟨p0,p1,p2,p3,p4,pf⟩:=box5 E4.1;have c5:=puts_o [41] H4 (by simp);generalize putO [41] st4=st5 at *;go_wp2_with fail;refine c5.mono ?_;rintro e2 w5 ⟨rfl,o5,H5,s5⟩;have T5:=T4.trans s5;have S5:=S4.stp s5;have E5:=E4.stp s5;clear c5 H4 T4 S4 E4 s5 p0 p1 p2 p3 p4 pf;obtain⟨p0,p1,p2,p3,p4,pf⟩:=box5 E5.1;go_wp2
 go_end0
 exact⟨rfl,o5,by rw[HF.out];exact H5,T5⟩
theorem great_list {N:Nat}(IH:PartQ N)(e:Ex)(hNk:e.kids.size<=N)(he:e.fit)(ao:Option Addr)(cap wb:Nat)(st:Ow)(w:World)(o:Nat->Nat)(S:Sl w (L0 o) e.kids ao)(H:WQ w o wb st)(hk:e.k=25) :
  Calls Tryz.prog 235 #[.pointer (some ⟨wb,0,none⟩),exV e ao cap] w (PostO w o wb (oNode e.k e.n e.nm (fun g s=>oFs e.kids (e.k==21) g 0 s) st)):=by
 have hek:e.k=20\/e.k=24\/e.k=25:=by omega
 have HF:Hid (oNode e.k e.n e.nm (fun g s=>oFs e.kids (e.k==21) g 0 s) st=putO [125] (leaO (oFs e.kids (e.k==21) comS 0 (putO [123] (entO st))))):=by
  show _=_;unfold oNode;rw[if_neg (by omega),if_neg (by omega),if_neg (by omega),if_neg (by omega),if_neg (by omega),if_neg (by omega),if_pos hk];rfl
 have b19:(e.k==19)=false:=bne (by omega);have b21:(e.k==21)=false:=bne (by omega);have b20:(e.k==20)=false:=bne (by omega);have b24:(e.k==24)=false:=bne (by omega);have HEK:=Lib.hid hek;clear hk hek;have s0:=boxStep (fun _=>False) w o (bxX e ao cap);have E0:Blk (w.alloc (bxX e ao cap)) (newLab w o 0) 0 w.heap.size (bxX e ao cap):=boxBlk w o _ _;have S0:=S.stp0 s0;have H0:=H.stp0 s0;have T0:=s0.i12;clear S H s0;rw[exV_out];go_enter Tryz.func235,Tryz.ntmps235;go_upto_region 1 with fail;generalize w.alloc (bxX e ao cap)=w0 at *;generalize newLab w o 0=o0 at *;generalize w.heap.size=be at *;obtain⟨p0,p1,p2,p3,p4,pf⟩:=box5 E0.1;have c1:=opens_o [123] H0 (by simp);have hb1:Bal (entO st) (putO [123] (entO st)):=(Bal.refl _).put [123];have hp:Hid (∀ s,Bal (entO st) s->∀ x,s=some x->1<=x.o):=fun s h=>ent_pos h;generalize putO [123] (entO st)=st1 at *;generalize entO st=se at *;go_wp2_with fail;refine c1.mono ?_;rintro e2 w1 ⟨rfl,o1,H1,s1⟩;have T1:=T0.trans s1;have S1:=S0.stp s1;have E1:=E0.stp s1;clear c1 H0 T0 S0 E0 s1 p0 p1 p2 p3 p4 pf;obtain⟨p0,p1,p2,p3,p4,pf⟩:=box5 E1.1;have hek:=HEK.out;have c2:=list_qw IH e hek hNk he ao cap wb st1 w1 o1 S1 H1;rw[exV_out] at c2;have hb2:=hb1.trans (fs_bal e.kids (e.k==21) comS 0 st1);generalize oFs e.kids (e.k==21) comS 0 st1=st2 at *;go_wp2_with fail;refine c2.mono ?_;rintro e2 w2 ⟨rfl,o2,H2,s2⟩;have T2:=T1.trans s2;have S2:=S1.stp s2;have E2:=E1.stp s2;clear c2 H1 T1 S1 E1 s2 p0 p1 p2 p3 p4 pf hb1;obtain⟨p0,p1,p2,p3,p4,pf⟩:=box5 E2.1;clear hek;obtain⟨oo3,dd3,df3,s3,H3⟩:=H2.lea (hp.out _ hb2);generalize leaO st2=st3 at *;have T3:=T2.trans s3;have S3:=S2.stp s3;have E3:=E2.stp s3;go_upto_region 5 with fail;generalize w2.setCell ⟨wb,1,none⟩ (.int .i64 (wrap64 (oo3-1)))=w3 at *;clear dd3 df3 H2 T2 S2 E2 s3 p0 p1 p2 p3 p4 pf hp hb2;generalize o2=o3 at *;obtain⟨p0,p1,p2,p3,p4,pf⟩:=box5 E3.1;have c4:=puts_o [125] H3 (by simp);generalize putO [125] st3=st4 at *;go_wp2_with fail;refine c4.mono ?_;rintro e2 w4 ⟨rfl,o4,H4,s4⟩;have T4:=T3.trans s4;have S4:=S3.stp s4;have E4:=E3.stp s4;clear c4 H3 T3 S3 E3 s4 p0 p1 p2 p3 p4 pf;obtain⟨p0,p1,p2,p3,p4,pf⟩:=box5 E4.1;go_wp2
 go_end0
 exact⟨rfl,o4,by rw[HF.out];exact H4,T4⟩
end Go.Proofs.YtnfmpocfakblmaaGreatDoor

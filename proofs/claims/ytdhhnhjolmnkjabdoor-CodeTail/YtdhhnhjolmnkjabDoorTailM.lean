import Derived.Test.YtdhhnhjolmnkjabDoorRdaD
set_option maxRecDepth 100000
set_option maxHeartbeats 8000000
namespace Go.Proofs.YtdhhnhjolmnkjabDoor
open Go.ChangeShapes Go.WideShapes Go.ChangeAt Go.RowKit
set_option linter.unusedVariables false
set_option linter.unusedSimpArgs false
theorem bd_drewN {g:Nat}{w w':World}(h:Below g w w')(n:Nat):Below g w (w'.drewN n):=by
 induction n with
 | zero=>exact h
 | succ n ih=>exact ih.drew
theorem same_yes (p q:Pl)(c:Cd)(w:World)(hp:CdW w p c)(hq:CdW w q c) :
  Calls Tryd.prog 12 #[cdV p c,cdV q c] w fun e w'=>e=.returned (.bool true)/\Below w.heap.size w w':=by
 obtain⟨g,hg⟩:∃g,g=w.heap.size:=⟨_,rfl⟩
 obtain⟨w2,hw2⟩:∃w2,w2=(w.alloc (.cells (cdA p c) 28)).alloc (.cells (cdA q c) 28):=⟨_,rfl⟩
 have B1:Below g w w2:=by rw[hw2,hg];exact((Below.refl _ w).alloc (Nat.le_refl _) _).alloc (by simp) _
 have z2:w2.heap.size=g+2:=by rw[hw2,hg];simp
 have KP:bx4 p c w2 g:=by
  rw[hw2,hg];exact bx4_below (bx4_new p c w) (by simp) (b1 _ _)
 have KQ:bx4 q c w2 (g+1):=by
  have:=bx4_new q c (w.alloc (.cells (cdA p c) 28))
  rw[hw2,hg];simpa using this
 have P2:CdW w2 p c:=hp.below (by rw[<-hg];exact B1);have Q2:CdW w2 q c:=hq.below (by rw[<-hg];exact B1);have HG:=Lib.hid hg;have l1:=P2.lw;have l2:=P2.lc;have l3:=P2.ln;have l4:=P2.lk;clear hp hq hg;have K:∀ {wr:World},Below w2.heap.size w2 wr->bx4 p c wr g/\bx4 q c wr (g+1)/\CdW wr p c/\CdW wr q c:=fun {wr} B=>⟨bx4_below KP (by omega) B,bx4_below KQ (by omega) B,P2.below B,Q2.below B⟩;have Bz:Below w2.heap.size w2 w2:=Below.refl _ _;obtain⟨a0,a1,a2,a3⟩:=KP;obtain⟨e0,e1,e2,e3⟩:=KQ;clear P2 Q2;go_enter Tryd.func12,Tryd.ntmps12;go_wp2_with fail;rw[<-hw2,<-HG.out];clear hw2;go_wp2_with fail;go_loopw [5] (fun v wr=>∃k:Nat,v=.int .i64 (k:Nat)/\k<=c.ws.length/\Below w2.heap.size w2 wr) (fun v _=>c.ws.length-(intOf v).toNat)
 case atStart=>exact⟨0,by go_num,by omega,Bz⟩
 case round =>
  obtain⟨k,rfl,hk,BR0⟩:=hrel;clear a0 a1 a2 a3 e0 e1 e2 e3;obtain⟨⟨a0,a1,a2,a3⟩,⟨e0,e1,e2,e3⟩,PR,QR⟩:=K BR0;by_cases hlt:k<c.ws.length
  ·have hkI:(k:Int)<(c.ws.length:Int):=by omega
   obtain⟨b1,o1,h1,l1,x1⟩:=PR.ws.at (wsV_at hlt);obtain⟨b2,o2,h2,l2,x2⟩:=QR.ws.at (wsV_at hlt);generalize c.ws[k]=u at x1 x2;rw[h1] at a0;rw[h2] at e0;go_wp2_with fail
   go_quiet (fail)
   go_wp2;go_roundw
   case rel=>(try ((repeat apply Exists.intro);refine⟨?_,rfl⟩));exact⟨k+1,by go_num,by omega,bd_drewN BR0 _⟩
   case measure=>simp[intOf];omega
  ·have hkI:¬(k:Int)<(c.ws.length:Int):=by omega
   clear PR QR;go_wp2_with fail;go_loopw [6] (fun v wr=>∃k:Nat,v=.int .i64 (k:Nat)/\k<=c.cs.length/\Below w2.heap.size w2 wr) (fun v _=>c.cs.length-(intOf v).toNat)
   case atStart=>exact⟨0,by go_num,by omega,BR0⟩
   case round =>
    obtain⟨k,rfl,hk,BR1⟩:=hrel;clear a0 a1 a2 a3 e0 e1 e2 e3;obtain⟨⟨a0,a1,a2,a3⟩,⟨e0,e1,e2,e3⟩,PR,QR⟩:=K BR1;by_cases hlt:k<c.cs.length
    ·have hkI:(k:Int)<(c.cs.length:Int):=by omega
     obtain⟨b1,o1,h1,l1,x1⟩:=PR.cs.at (isV_get hlt);obtain⟨b2,o2,h2,l2,x2⟩:=QR.cs.at (isV_get hlt);generalize c.cs[k]=u at x1 x2;rw[h1] at a1;rw[h2] at e1;go_wp2_with fail
     go_quiet (fail)
     go_wp2;go_roundw
     case rel=>(try ((repeat apply Exists.intro);refine⟨?_,rfl⟩));exact⟨k+1,by go_num,by omega,bd_drewN BR1 _⟩
     case measure=>simp[intOf];omega
    ·have hkI:¬(k:Int)<(c.cs.length:Int):=by omega
     clear PR QR;go_wp2_with fail;go_loopw [7] (fun v wr=>∃k:Nat,v=.int .i64 (k:Nat)/\k<=c.ns.length/\Below w2.heap.size w2 wr) (fun v _=>c.ns.length-(intOf v).toNat)
     case atStart=>exact⟨0,by go_num,by omega,BR1⟩
     case round =>
      obtain⟨k,rfl,hk,BR2⟩:=hrel;clear a0 a1 a2 a3 e0 e1 e2 e3;obtain⟨⟨a0,a1,a2,a3⟩,⟨e0,e1,e2,e3⟩,PR,QR⟩:=K BR2;by_cases hlt:k<c.ns.length
      ·have hkI:(k:Int)<(c.ns.length:Int):=by omega
       obtain⟨b1,o1,h1,l1,x1⟩:=PR.ns.at (nsV_at hlt);obtain⟨b2,o2,h2,l2,x2⟩:=QR.ns.at (nsV_at hlt);generalize c.ns[k]=u at x1 x2;rw[h1] at a2;rw[h2] at e2;go_wp2_with fail
       go_quiet (fail)
       go_wp2;go_roundw
       case rel=>(try ((repeat apply Exists.intro);refine⟨?_,rfl⟩));exact⟨k+1,by go_num,by omega,bd_drewN BR2 _⟩
       case measure=>simp[intOf];omega
      ·have hkI:¬(k:Int)<(c.ns.length:Int):=by omega
       clear PR QR;go_wp2_with fail;go_loopw [8] (fun v wr=>∃k:Nat,v=.int .i64 (k:Nat)/\k<=c.ks.length/\Below w2.heap.size w2 wr) (fun v _=>c.ks.length-(intOf v).toNat)
       case atStart=>exact⟨0,by go_num,by omega,BR2⟩
       case round =>
        obtain⟨k,rfl,hk,BR3⟩:=hrel;clear a0 a1 a2 a3 e0 e1 e2 e3;obtain⟨⟨a0,a1,a2,a3⟩,⟨e0,e1,e2,e3⟩,PR,QR⟩:=K BR3;by_cases hlt:k<c.ks.length
        ·have hkI:(k:Int)<(c.ks.length:Int):=by omega
         obtain⟨b1,o1,h1,l1,x1⟩:=PR.ks.at (isV_get hlt);obtain⟨b2,o2,h2,l2,x2⟩:=QR.ks.at (isV_get hlt);generalize c.ks[k]=u at x1 x2;rw[h1] at a3;rw[h2] at e3;go_wp2_with fail
         go_quiet (fail)
         go_wp2;go_roundw
         case rel=>(try ((repeat apply Exists.intro);refine⟨?_,rfl⟩));exact⟨k+1,by go_num,by omega,bd_drewN BR3 _⟩
         case measure=>simp[intOf];omega
        ·have hkI:¬(k:Int)<(c.ks.length:Int):=by omega
         go_wp2;go_ret;exact⟨rfl,by rw[<-HG.out];exact B1.trans (BR3.mono (by omega))⟩
theorem rword_yes (o a b:Int)(w:World)(h1:0<=o)(h2:o<=255)(h3:0<=a)(h4:a<=268435455)(h5:0<=b)(h6:b<=268435455) :
  Calls Tryd.prog 13 #[.int .i64 o,.int .i64 a,.int .i64 b] w fun e w' =>
   e=.returned (.tuple #[.int .u64 ((o*268435456+a)*268435456+b),.int .i64 0])/\w'=w:=by
 go_enter Tryd.func13,Tryd.ntmps13;go_wp2;go_ret2;exact⟨rfl,rfl⟩
def pk (c n:Int):Int:=(if c<0 then -(c+1) else c) % n
theorem pk_bd (c n:Int)(h:0<n):0<=pk c n/\pk c n<n:=⟨Int.emod_nonneg _ (by omega),Int.emod_lt_of_pos _ h⟩
theorem pick_c (c n:Int)(w:World)(h1:-9223372036854775808<=c)(h2:c<=9223372036854775807)(h3:0<n)(h4:n<=9223372036854775807) :
  Calls Tryd.prog 11 #[.int .i64 c,.int .i64 n] w fun e w'=>e=.returned (.int .i64 (pk c n))/\w'=w:=by
 by_cases h0:c<0
 ·have e:pk c n=(-(c+1)) % n:=by simp[pk,h0]
  have E:Hid ((-(c+1)).tmod n=pk c n):=by
   show _=_;rw[e,Int.tmod_eq_emod_of_nonneg (by omega)]
  have E2:Hid (-((c+1).tmod n)=pk c n):=by
   show _=_;rw[<-Int.neg_tmod];exact E.out
  have bd:=pk_bd c n h3;clear e;have hn0:¬n=0:=by omega
  go_enter Tryd.func11,Tryd.ntmps11;go_wp2;go_ret;exact⟨by first|exact ret_int E2.out|exact ret_int E.out,rfl⟩
 ·have e:pk c n=c % n:=by simp[pk,h0]
  have E:Hid (c.tmod n=pk c n):=by
   show _=_;rw[e,Int.tmod_eq_emod_of_nonneg (by omega)]
  have E2:Hid (c % n=pk c n):=e.symm;have bd:=pk_bd c n h3;clear e;have hn0:¬n=0:=by omega
  go_enter Tryd.func11,Tryd.ntmps11;go_wp2;go_ret;exact⟨by first|exact ret_int E2.out|exact ret_int E.out,rfl⟩
structure Rw where
 o:Int
 a:Int
 b:Int
structure Rw.Ok (r:Rw):Prop where
 o1:-9223372036854775808<=r.o
 o2:r.o<=9223372036854775807
 a1:-9223372036854775808<=r.a
 a2:r.a<=9223372036854775807
 b1:-9223372036854775808<=r.b
 b2:r.b<=9223372036854775807
def wdN (r:Rw):Int:=(pk r.o 28*268435456+pk r.a 12)*268435456+pk r.b 12
theorem wdN_bd (r:Rw):0<=wdN r/\wdN r<18446744073709551616:=by
 have h1:=pk_bd r.o 28 (by omega);have h2:=pk_bd r.a 12 (by omega);have h3:=pk_bd r.b 12 (by omega);unfold wdN;omega
def RawW (w:World)(ao:Option Addr)(l:List Rw):Prop :=
 l=[]\/∃b off,ao=some ⟨b,off,none⟩/\b<w.heap.size/\∀ k (h:k<l.length),w.cell? ⟨b,off+k*3,none⟩=some (.int .i64 (l[k]).o)/\w.cell? ⟨b,off+k*3+1,none⟩=some (.int .i64 (l[k]).a)/\w.cell? ⟨b,off+k*3+2,none⟩=some (.int .i64 (l[k]).b)
theorem RawW.below {w w':World}{ao:Option Addr}{l:List Rw}(h:RawW w ao l)(B:Below w.heap.size w w'):RawW w' ao l:=by
 rcases h with h|⟨b,off,rfl,hlt,hc⟩
 ·exact .inl h
 ·exact .inr ⟨b,off,rfl,Nat.lt_of_lt_of_le hlt B.size,fun k hk=>⟨(B.cell (p:=⟨b,off+k*3,none⟩) hlt).trans (hc k hk).1,(B.cell (p:=⟨b,off+k*3+1,none⟩) hlt).trans (hc k hk).2.1,(B.cell (p:=⟨b,off+k*3+2,none⟩) hlt).trans (hc k hk).2.2⟩⟩
def MkOut (w:World)(l:List Rw)(vc vn vk:Value)(z:Ending)(w':World):Prop :=
 ∃aw cw,z=.returned (.agg #[.slice aw l.length cw,vc,vn,vk])/\Lsv w' aw (wsV (l.map wdN))/\Below w.heap.size w w'
theorem taken_snoc (l:List Rw)(k:Nat)(h:k<l.length):wsV ((l.take (k+1)).map wdN)=wsV ((l.take k).map wdN)++[.int .u64 (wdN l[k])]:=by
 rw[List.take_succ_eq_append_getElem h];simp only[wsV,List.map_append,List.map_cons,List.map_nil]
theorem mk_c (w:World)(ao:Option Addr)(cap:Nat)(l:List Rw)(vc vn vk:Value)(hR:RawW w ao l)(hok:∀ r ∈ l,r.Ok)(hl:l.length<=17592186044416)
  (o1c:∃a n c,vc=.slice a n c) (o2c:∃a n c,vn=.slice a n c) (o3c:∃a n c,vk=.slice a n c) :
  Calls Tryd.prog 6 #[.slice ao l.length cap,vc,vn,vk,.bool true] w (MkOut w l vc vn vk):=by
 obtain⟨x1,y1,z1,rfl⟩:=o1c;obtain⟨x2,y2,z2,rfl⟩:=o2c;obtain⟨x3,y3,z3,rfl⟩:=o3c;obtain⟨ii,hii,hz0,hz1,hz2⟩:=info_parts infoW;obtain⟨g,hg⟩:∃g,g=w.heap.size:=⟨_,rfl⟩
 obtain⟨w2,hw2⟩:∃w2,w2=(w.alloc (.cells nil4 28)).alloc (.cells #[.slice none 0 0,.slice x1 y1 z1,.slice x2 y2 z2,.slice x3 y3 z3] 28):=⟨_,rfl⟩
 have B1:Below g w w2:=by rw[hw2,hg];exact((Below.refl _ w).alloc (Nat.le_refl _) _).alloc (by simp) _
 have sz2:w2.heap.size=g+2:=by rw[hw2,hg];simp
 obtain⟨o,ho⟩:∃o:Nat->Nat,o=fun k=>if k<g then 0 else 9:=⟨_,rfl⟩
 have hol:∀ k,k<g->o k=0:=fun k hk=>by rw[ho];simp[hk]
 have G0:Blk w2 o 9 g (.cells nil4 28):=by
  refine⟨?_,by rw[ho];simp⟩;rw[hw2,hg];exact(Below.heap_alloc _ _ _ (by simp)).trans (heap_alloc_new _ _)
 have G1:Blk w2 o 9 (g+1) (.cells #[.slice none 0 0,.slice x1 y1 z1,.slice x2 y2 z2,.slice x3 y3 z3] 28):=by
  refine⟨?_,by rw[ho];simp⟩
  have:=heap_alloc_new (w.alloc (.cells nil4 28)) (.cells #[.slice none 0 0,.slice x1 y1 z1,.slice x2 y2 z2,.slice x3 y3 z3] 28)
  rw[hw2,hg];simpa using this
 have HG:=Lib.hid hg;have R2:RawW w2 ao l:=hR.below (by rw[<-hg];exact B1);have hlo:∀ b off,l≠[]->ao=some ⟨b,off,none⟩->o b=0:=fun b off hx e=>by
  rcases hR with h|⟨b',off',e',hlt,_⟩
  ·exact absurd h hx
  ·rw[e'] at e;cases e;exact hol _ (by rw[hg];exact hlt)
 clear hg ho hR;go_enter Tryd.func6,Tryd.ntmps6;go_wp2_with fail;rw[<-hw2,<-HG.out];clear hw2;go_loopw [12] (fun v wr=>∃(k:Nat) (o3:Nat->Nat) (av:Option Addr) (cv:Nat),v=.int .i64 (k:Nat)/\k<=l.length/\Blk wr o3 9 (g+1) (.cells #[.slice av k cv,.slice x1 y1 z1,.slice x2 y2 z2,.slice x3 y3 z3] 28)/\Row wr o3 3 33 1 (.slice av k cv) k (wsV ((l.take k).map wdN))/\Blk wr o3 9 g (.cells nil4 28)/\Step (fun k=>k=3\/k=9) w2 o wr o3) (fun v _=>l.length-(intOf v).toNat)
 case atStart=>exact⟨0,o,none,0,by go_num,by omega,G1,Row.nil _ _ _ _ _,G0,Step.refl _ _ _⟩
 case round =>
  obtain⟨k,o3,av,cv,rfl,hk,K3,R3,Z3,S3⟩:=hrel;clear G0 G1;by_cases hlt:k<l.length
  ·have hkI:(k:Int)<(l.length:Int):=by omega
   have hok1:=hok _ (List.getElem_mem hlt);have hne:l≠[]:=fun h=>by subst h;simp at hlt
   have hRr:∃b off,ao=some ⟨b,off,none⟩/\wr.cell? ⟨b,off+k*3,none⟩=some (.int .i64 (l[k]).o)/\wr.cell? ⟨b,off+k*3+1,none⟩=some (.int .i64 (l[k]).a)/\wr.cell? ⟨b,off+k*3+2,none⟩=some (.int .i64 (l[k]).b):=by
    rcases R2 with h|⟨b,off,e,hb,hc⟩
    ·exact absurd h hne
    ·have hl0:=hlo b off hne e;have hbk:∀ q,wr.cell? ⟨b,q,none⟩=w2.cell? ⟨b,q,none⟩:=fun q=>World.cell?_of_block (a:=⟨b,q,none⟩) (S3.block b hb (by rw[hl0];decide));exact⟨b,off,e,(hbk _).trans (hc k hlt).1,(hbk _).trans (hc k hlt).2.1,(hbk _).trans (hc k hlt).2.2⟩
   obtain⟨b,off,hao,q0,q1,q2⟩:=hRr;have HT:=Lib.hid (taken_snoc l k hlt);have hwd:wdN l[k]=(pk (l[k]).o 28*268435456+pk (l[k]).a 12)*268435456+pk (l[k]).b 12:=rfl;generalize l[k]=r at *;obtain⟨ro,ra,rb⟩:=r;simp only at hwd q0 q1 q2;have e1:=hok1.o1;have e2:=hok1.o2;have e3:=hok1.a1;have e4:=hok1.a2;have e5:=hok1.b1;have e6:=hok1.b2;simp only at e1 e2 e3 e4 e5 e6;obtain⟨⟨c0,c1,c2,c3⟩,cf⟩:=cells4 K3.1;have p1:=pk_bd ro 28 (by omega);have p2:=pk_bd ra 12 (by omega);have p3:=pk_bd rb 12 (by omega);have WW:=fun w=>rword_yes (pk ro 28) (pk ra 12) (pk rb 12) w p1.1 (by omega) p2.1 (by omega) p3.1 (by omega);rw[<-hwd] at WW;have PA:=fun w=>pick_c ro 256 w e1 e2 (by omega) (by omega);have PB:=fun w=>pick_c ra 268435456 w e3 e4 (by omega) (by omega);have PC:=fun w=>pick_c rb 268435456 w e5 e6 (by omega) (by omega);have PD:=fun w=>pick_c ro 28 w e1 e2 (by omega) (by omega);have PE:=fun w=>pick_c ra 12 w e3 e4 (by omega) (by omega);have PF:=fun w=>pick_c rb 12 w e5 e6 (by omega) (by omega);clear hwd hok1;generalize wdN ⟨ro,ra,rb⟩=wd at *;generalize pk ro 28=d1 at *;generalize pk ra 12=d2 at *;generalize pk rb 12=d3 at *;generalize pk ro 256=d4 at *;generalize pk ra 268435456=d5 at *;generalize pk rb 268435456=d6 at *;rw[hao];go_wp2_with fail;refine(PA _).mono ?_;rintro e wz ⟨rfl,hz⟩;subst hz;clear PA;go_wp2_with fail;refine(PB _).mono ?_;rintro e wz ⟨rfl,hz⟩;subst hz;clear PB;go_wp2_with fail;refine(PC _).mono ?_;rintro e wz ⟨rfl,hz⟩;subst hz;clear PC;go_wp2_with fail;refine(PD _).mono ?_;rintro e wz ⟨rfl,hz⟩;subst hz;clear PD;go_wp2_with fail;refine(PE _).mono ?_;rintro e wz ⟨rfl,hz⟩;subst hz;clear PE;go_wp2_with fail;refine(PF _).mono ?_;rintro e wz ⟨rfl,hz⟩;subst hz;clear PF;go_wp2_with fail;refine(WW _).mono ?_;rintro e wz ⟨rfl,hz⟩;subst hz;clear WW;go_wp2_with (first|(at_builtin;refine wpList_append_lab rfl _ _ 24 rfl 33 ii (.int .u64 0) 1 8 Tryd.underlying24 hii hz0 hz1 hz2 rfl (by decide) o3 3 _ k (wsV ((l.take k).map wdN)) rfl (R3.step (Step.ofBelow (I:=fun _=>False) o3 (b1 _ _)) (fun h=>h)) ⟨wz.heap.size,0,none⟩ 1 1 [.int .u64 wd] rfl rfl ?c1 ?c2 (by decide) ?c4 ?c5 ?_)|go_in)
   case c1=>exact new_one _ _ _
   case c2=>exact one_one _ rfl
   case c4=>unfold maxLen;omega
   case c5=>omega
   intro g5 cap5 w5 o5 R5 S5;have SA:∀ {I:Nat->Prop},Step I wz o3 (wz.alloc (.cells #[.int .u64 wd] 33)) o3:=fun {I}=>Step.ofBelow o3 (b1 _ _);have KA:=(K3.step (SA (I:=fun _=>False)) (fun h=>h)).step S5 (by decide);have ZA:=(Z3.step (SA (I:=fun _=>False)) (fun h=>h)).step S5 (by decide);obtain⟨⟨f0,f1,f2,f3⟩,ff⟩:=cells4 KA.1;have ff0:=ff 0;have SC:∀ {I:Nat->Prop},I 9->Step I w5 o5 (w5.setCell ⟨g+1,0,none⟩ (.slice (some ⟨g5,0,none⟩) (k+1) cap5)) o5:=fun {I} h9=>(Step.refl I w5 o5).setCell ⟨g+1,0,none⟩ _ (by rw[KA.2];exact h9);have KN:Blk (w5.setCell ⟨g+1,0,none⟩ (.slice (some ⟨g5,0,none⟩) (k+1) cap5)) o5 9 (g+1) (.cells #[.slice (some ⟨g5,0,none⟩) (k+1) cap5,.slice x1 y1 z1,.slice x2 y2 z2,.slice x3 y3 z3] 28):=⟨heap_setCell_same _ _ 0 _ _ _ KA.1,KA.2⟩
   have ZN:Blk (w5.setCell ⟨g+1,0,none⟩ (.slice (some ⟨g5,0,none⟩) (k+1) cap5)) o5 9 g (.cells nil4 28):=⟨(heap_setCell_other _ _ _ _ (by show g≠g+1;omega)).trans ZA.1,ZA.2⟩
   have RN:Row (w5.setCell ⟨g+1,0,none⟩ (.slice (some ⟨g5,0,none⟩) (k+1) cap5)) o5 3 33 1 (.slice (some ⟨g5,0,none⟩) (k+1) cap5) (k+1) (wsV ((l.take (k+1)).map wdN)):=by
    rw[HT.out]
    first|exact R5.step (SC (I:=fun k=>k=9) rfl) (by decide)|(rw[List.map_take];exact R5.step (SC (I:=fun k=>k=9) rfl) (by decide))
   have SN:Step (fun k=>k=3\/k=9) w2 o (w5.setCell ⟨g+1,0,none⟩ (.slice (some ⟨g5,0,none⟩) (k+1) cap5)) o5:=((S3.trans SA).trans (S5.mono (fun k hk=>Or.inl hk))).trans (SC (Or.inr rfl));have HH:Hid (Blk (w5.setCell ⟨g+1,0,none⟩ (.slice (some ⟨g5,0,none⟩) (k+1) cap5)) o5 9 (g+1) (.cells #[.slice (some ⟨g5,0,none⟩) (k+1) cap5,.slice x1 y1 z1,.slice x2 y2 z2,.slice x3 y3 z3] 28)/\Row (w5.setCell ⟨g+1,0,none⟩ (.slice (some ⟨g5,0,none⟩) (k+1) cap5)) o5 3 33 1 (.slice (some ⟨g5,0,none⟩) (k+1) cap5) (k+1) (wsV ((l.take (k+1)).map wdN))/\Blk (w5.setCell ⟨g+1,0,none⟩ (.slice (some ⟨g5,0,none⟩) (k+1) cap5)) o5 9 g (.cells nil4 28)/\Step (fun k=>k=3\/k=9) w2 o (w5.setCell ⟨g+1,0,none⟩ (.slice (some ⟨g5,0,none⟩) (k+1) cap5)) o5):=⟨KN,RN,ZN,SN⟩
   clear KN RN ZN SN SC KA ZA SA R5 S5 K3 R3 Z3 S3 HT ff;go_wp2;go_roundw
   case rel=>(try ((repeat apply Exists.intro);refine⟨?_,rfl⟩));exact⟨k+1,o5,_,_,by go_num,by omega,HH.out.1,HH.out.2.1,HH.out.2.2.1,HH.out.2.2.2⟩
   case measure=>simp[intOf];omega
  ·have hkI:¬(k:Int)<(l.length:Int):=by omega
   obtain rfl:k=l.length:=by omega
   rw[List.take_length] at R3;obtain⟨⟨c0,c1,c2,c3⟩,-⟩:=cells4 K3.1;obtain⟨⟨f0,f1,f2,f3⟩,ff⟩:=cells4 Z3.1;have ff0:=ff 0;have ff1:=ff 1;have ff2:=ff 2;have ff3:=ff 3;have ZE:=set4c (.slice av l.length cv) (.slice x1 y1 z1) (.slice x2 y2 z2) (.slice x3 y3 z3) Z3.1;have h9:∀ {I:Nat->Prop},I 9->I (o3 g):=fun {I} h=>by rw[Z3.2];exact h
   have SE:∀ {I:Nat->Prop},I 9->Step I wr o3 ((((wr.setCell ⟨g,0,none⟩ (.slice av l.length cv)).setCell ⟨g,1,none⟩ (.slice x1 y1 z1)).setCell ⟨g,2,none⟩ (.slice x2 y2 z2)).setCell ⟨g,3,none⟩ (.slice x3 y3 z3)) o3:=fun {I} h=>((((Step.refl I wr o3).setCell ⟨g,0,none⟩ _ (h9 h)).setCell ⟨g,1,none⟩ _ (h9 h)).setCell ⟨g,2,none⟩ _ (h9 h)).setCell ⟨g,3,none⟩ _ (h9 h);have RE:=(R3.step (SE (I:=fun k=>k=9) rfl) (by decide)).lsv;have BE:Below g w ((((wr.setCell ⟨g,0,none⟩ (.slice av l.length cv)).setCell ⟨g,1,none⟩ (.slice x1 y1 z1)).setCell ⟨g,2,none⟩ (.slice x2 y2 z2)).setCell ⟨g,3,none⟩ (.slice x3 y3 z3)):=B1.trans (Below.mono (⟨(S3.trans (SE (Or.inr rfl))).os,(S3.trans (SE (Or.inr rfl))).tape,(S3.trans (SE (Or.inr rfl))).output,(S3.trans (SE (Or.inr rfl))).size,fun k hk=>(S3.trans (SE (Or.inr rfl))).block k (by omega) (by rw[hol k hk];decide)⟩) (Nat.le_refl _));obtain⟨⟨u0,u1,u2,u3⟩,-⟩:=cells4 ZE;have HRE:=Lib.hid RE;have HBE:=Lib.hid BE;clear ZE SE RE BE R3 K3 Z3 S3 R2 ff;go_wp2;exact bodyPost_ret (v:=.agg #[.slice av l.length cv,.slice x1 y1 z1,.slice x2 y2 z2,.slice x3 y3 z3]) (by simp[results,Tryd.results6,go_sem,u0,u1,u2,u3]) rfl ⟨_,_,rfl,HRE.out,by rw[<-HG.out];exact HBE.out⟩
def rw0:List Rw:=[⟨1,0,1⟩,⟨0,0,0⟩]
def cd0:Cd:=⟨rw0.map wdN,[7],[],[]⟩
theorem cd0_right:rgtB cd0=true:=by decide +kernel
theorem cd0_ok:cd0.Ok:=by
 refine⟨fun u hu=>?_,fun u hu=>?_,fun u hu=>?_,fun u hu=>?_⟩
 ·simp only[cd0,List.mem_map] at hu;obtain⟨r,_,rfl⟩:=hu;exact wdN_bd r
 ·simp[cd0] at hu;omega
 ·simp[cd0] at hu
 ·simp[cd0] at hu
def en0:ByteArray:=⟨(encB cd0).toArray⟩
theorem en0_head:en0.extract 0 4=⟨#[73,67,49,2]⟩:=by decide +kernel
theorem en0_size:4<en0.size/\en0.size<=1000:=by decide +kernel
theorem sm0_ne:¬smR cd0=0:=by decide +kernel
theorem en0_is:IsE en0.data.toList cd0:=⟨cd0_ok,cd0_right,by simp[en0]⟩
theorem encR0:encR cd0=.tuple #[.string en0,.int .i64 0]:=by simp[encR,cd0_right,en0]
theorem DecOut.yes {s:List UInt8}{w w':World}{z:Ending}{c:Cd}(h:DecOut s w z w')(hc:IsE s c):Below w.heap.size w w'/\∃p,z=.returned (.tuple #[cdV p c,.int .i64 0])/\CdW w' p c/\∃o',(∀ k,k<w.heap.size->o' k=0)/\CdR w' o' p c:=by
 obtain⟨B,⟨p,d,h1,h2,o',h3,h4⟩|⟨_,h2⟩⟩:=h
 ·have e:=h2.uniq hc;subst e;exact⟨B,p,h1,h4.cdw hc.1,o',h3,h4⟩
 ·exact absurd hc (h2 c)
theorem bdt {g:Nat}{a b c:World}(h:Below g a b)(k:Below b.heap.size b c)(hg:g<=b.heap.size):Below g a c:=h.trans (k.mono hg)
abbrev rawA:Array Value:=#[.int .i64 1,.int .i64 0,.int .i64 1,.int .i64 0,.int .i64 0,.int .i64 0]
theorem awake_c (w:World)(hF:Fx w) :
  Calls Tryd.prog 5 #[] w fun e w'=>e=.returned (.bool true)/\Below w.heap.size w w':=by
 obtain⟨g,hg⟩:∃g,g=w.heap.size:=⟨_,rfl⟩
 obtain⟨w2,hw2⟩:∃w2,w2=(w.alloc (.cells rawA 43)).alloc (.cells #[.int .i64 7] 3):=⟨_,rfl⟩
 have B2:Below g w w2:=by rw[hw2,hg];exact((Below.refl _ w).alloc (Nat.le_refl _) _).alloc (by simp) _
 have sz2:w2.heap.size=g+2:=by rw[hw2,hg];simp
 have R2:RawW w2 (some ⟨g,0,none⟩) rw0:=by
  have hh:w2.heap[g]?=some (.cells rawA 43):=by
   rw[hw2,hg];exact(Below.heap_alloc _ _ _ (by simp)).trans (heap_alloc_new _ _)
  refine .inr ⟨g,0,rfl,by omega,fun k hk=>?_⟩;have hk2:k<2:=hk
  match k,hk2 with
  | 0,_=>refine⟨?_,?_,?_⟩<;>(unfold World.cell?;rw[hh];rfl)
  | 1,_=>refine⟨?_,?_,?_⟩<;>(unfold World.cell?;rw[hh];rfl)
 have L2:Lsv w2 (some ⟨g+1,0,none⟩) (isV [7]):=by
  have hh:w2.heap[g+1]?=some (.cells #[.int .i64 7] 3):=by
   have:=heap_alloc_new (w.alloc (.cells rawA 43)) (.cells #[.int .i64 7] 3)
   rw[hw2,hg];simpa using this
  refine .inr ⟨g+1,0,rfl,by omega,fun j x hx=>?_⟩
  match j,hx with
  | 0,hx=>simp[isV] at hx;subst hx;unfold World.cell?;rw[hh];rfl
 have hok:∀ r ∈ rw0,r.Ok:=by
  intro r hr;simp[rw0] at hr;rcases hr with rfl|rfl<;>exact⟨by decide,by decide,by decide,by decide,by decide,by decide⟩
 have HM:=mk_c w2 (some ⟨g,0,none⟩) 2 rw0 (.slice (some ⟨g+1,0,none⟩) 1 1) (.slice none 0 0) (.slice none 0 0) R2 hok (by decide) ⟨_,_,_,rfl⟩ ⟨_,_,_,rfl⟩ ⟨_,_,_,rfl⟩;have e2:rw0.length=2:=rfl;rw[e2] at HM;have HG:=Lib.hid hg;have F2:Fx w2:=hF.below (by rw[<-hg];exact B2);clear hg R2 hok e2 hF;go_enter Tryd.func5,Tryd.ntmps5;go_wp2_with fail;rw[<-hw2,<-HG.out];clear hw2;refine HM.mono ?_;rintro e w3 ⟨aw,cw,rfl,LW,B3⟩;obtain⟨p,hp⟩:∃p:Pl,p=⟨aw,cw,some ⟨g+1,0,none⟩,1,none,0,none,0⟩:=⟨_,rfl⟩
 have C3:CdW w3 p cd0:=by
  rw[hp];exact⟨cd0_ok,LW,L2.below B3,.inl rfl,.inl rfl,by decide,by decide,by decide,by decide⟩
 have F3:=F2.below B3;have BB3:=bdt B2 B3 (by omega);have z3:=B3.size;have hv:(.agg #[.slice aw rw0.length cw,.slice (some ⟨g+1,0,none⟩) 1 1,.slice none 0 0,.slice none 0 0]:Value)=cdV p cd0:=by rw[hp];rfl
 rw[hv];clear HM LW L2 B3 F2 hv hp;obtain⟨w4,hw4⟩:∃w4,w4=w3.alloc (.cells (cdA p cd0) 28):=⟨_,rfl⟩
 obtain⟨g4,hg4⟩:∃g4,g4=w3.heap.size:=⟨_,rfl⟩
 have B4:Below w3.heap.size w3 w4:=by rw[hw4];exact b1 _ _
 have K4:bx4 p cd0 w4 g4:=by rw[hw4,hg4];exact bx4_new p cd0 w3
 have L4:g4<w4.heap.size:=by rw[hw4,hg4];simp
 have C4:=C3.below B4;have F4:=F3.below B4;have BB4:=bdt BB3 B4 (by omega);have z4:=B4.size;have HG4:=Lib.hid hg4;have HE:=encode_c p cd0 w4 F4 C4;rw[encR0] at HE;clear C3 F3 B4 hg4;go_upto_region 2 with fail;rw[<-hw4,<-HG4.out];clear hw4;obtain⟨k0,k1,k2,k3⟩:=K4;have hz:=en0_size;have hz4:=en0_head;have HD:=fun w F=>decode_c en0 w F (by omega);have HIS:=Lib.hid en0_is;obtain⟨ez,hez⟩:∃ez,ez=en0:=⟨_,rfl⟩
 rw[<-hez] at HE hz hz4 HD HIS;clear hez;go_wp2_with fail;refine HE.mono ?_;rintro e w5 ⟨rfl,B5⟩;have K5:=bx4_below ⟨k0,k1,k2,k3⟩ L4 B5;have C5:=C4.below B5;have F5:=F4.below B5;have BB5:=bdt BB4 B5 (by omega);have z5:=B5.size;have L5:=Nat.lt_of_lt_of_le L4 B5.size;have HD5:=HD w5 F5;clear HE B5 C4 F4 k0 k1 k2 k3 HD;go_wp2_with fail;refine HD5.mono ?_;intro e w6 hD;obtain⟨B6,q,rfl,C6q,-⟩:=hD.yes HIS.out;have K6:=bx4_below K5 L5 B6;have C6:=C5.below B6;have F6:=F5.below B6;have BB6:=bdt BB5 B6 (by omega);have z6:=B6.size;have L6:=Nat.lt_of_lt_of_le L5 B6.size;clear HD5 hD B6 C5 F5 K5;obtain⟨w7,hw7⟩:∃w7,w7=w6.alloc (.cells (cdA q cd0) 28):=⟨_,rfl⟩
 obtain⟨g7,hg7⟩:∃g7,g7=w6.heap.size:=⟨_,rfl⟩
 have B7:Below w6.heap.size w6 w7:=by rw[hw7];exact b1 _ _
 have KQ:bx4 q cd0 w7 g7:=by rw[hw7,hg7];exact bx4_new q cd0 w6
 have L7:g7<w7.heap.size:=by rw[hw7,hg7];simp
 have K7:=bx4_below K6 L6 B7;have C7:=C6.below B7;have C7q:=C6q.below B7;have F7:=F6.below B7;have BB7:=bdt BB6 B7 (by omega);have z7:=B7.size;have L7b:=Nat.lt_of_lt_of_le L6 B7.size;have HG7:=Lib.hid hg7;have HS:=same_yes p q cd0 w7 C7 C7q;clear C6 C6q F6 B7 hg7 K6;go_upto_region 4 with fail;rw[<-hw7,<-HG7.out];clear hw7;obtain⟨k0,k1,k2,k3⟩:=K7;obtain⟨j0,j1,j2,j3⟩:=KQ;go_wp2_with fail;refine HS.mono ?_;rintro e w8 ⟨rfl,B8⟩;have K8:=bx4_below ⟨k0,k1,k2,k3⟩ L7b B8;have C8:=C7.below B8;have F8:=F7.below B8;have BB8:=bdt BB7 B8 (by omega);have z8:=B8.size;have L8:=Nat.lt_of_lt_of_le L7b B8.size;have HR:=right_c p cd0 w8 F8 C8;rw[cd0_right] at HR;clear HS B8 C7 C7q F7 k0 k1 k2 k3 j0 j1 j2 j3;obtain⟨k0,k1,k2,k3⟩:=K8;go_wp2_with fail;refine HR.mono ?_;rintro e w9 ⟨rfl,B9⟩;obtain⟨k0',k1',k2',k3'⟩:=bx4_below ⟨k0,k1,k2,k3⟩ L8 B9;have C9:=C8.below B9;have F9:=F8.below B9;have BB9:=bdt BB8 B9 (by omega);have z9:=B9.size;have HM:=sumc_c p cd0 w9 F9 C9;have hsm:=sm0_ne;generalize smR cd0=sm at HM hsm;have h4I:(4:Int)<(ez.size:Int):=by omega
 clear HR B9 C8 F8 k0 k1 k2 k3;go_wp2_with (go_at_call 8;refine HM.mono ?_;rintro e wA ⟨rfl,BA⟩);go_ret;exact⟨by simp[hsm],by rw[<-HG.out];exact bdt BB9 BA (by omega)⟩
theorem tl_len (c:Cd):(encB c).length=(bodB c).length+8:=sldB_len _
theorem tl_bod (c:Cd):4<=(bodB c).length:=by
 have:=sevs_len (c.ws.length:Int)
 unfold bodB lst;simp only[List.length_append,List.length_cons,List.length_nil];omega
theorem no_turn (c:Cd)(ho:c.Ok)(hr:rgtB c=true)(r:List UInt8)(hne:bodB c++r≠encB c):∀ d,¬IsE (bodB c++r) d:=fun d hd=>by
 have h1:=hd.read (mn:=12) (mk:=3) (by omega) (by omega) (by omega) (by omega);rw[rdC_put (mn:=12) (mk:=3) (by omega) (by omega) (by omega) (by omega) c r ho hr] at h1;simp only[Option.some.injEq,Prod.mk.injEq] at h1;obtain⟨rfl,-⟩:=h1;exact hne hd.2.2.symm
theorem tail_no {s:List UInt8}{w w':World}{z:Ending}(h:DecOut s w z w')(hc:∀ c,¬IsE s c):Below w.heap.size w w'/\z=.returned (.tuple #[.agg nil4,.int .i64 180]):=by
 obtain⟨B,⟨p,c,-,h1,-⟩|⟨h1,-⟩⟩:=h
 ·exact absurd h1 (hc c)
 ·exact⟨B,h1⟩
theorem seal_at (c:Cd)(z:ByteArray)(hz:z=⟨(encB c).toArray⟩)(k:Nat)(hk:k<8)(h:(bodB c).length+k<z.size):((z[(bodB c).length+k]'h).toNat:Int)=sumB (bodB c) / ((256 ^ k:Nat):Int) % 256:=by
 subst hz;have hb:=(sumB_bd (bodB c)).1;obtain⟨n,hn⟩:=Int.eq_ofNat_of_zero_le hb;have e:(⟨(encB c).toArray⟩:ByteArray)[(bodB c).length+k]'h=UInt8.ofNat (n / 256 ^ k):=by
  show (encB c).toArray[(bodB c).length+k]'_=_;unfold encB sldB selB;simp[hn]
 rw[e,hn,UInt8.toNat_ofNat'];omega
theorem seal_turn (c:Cd)(ho:c.Ok)(hr:rgtB c=true)(z:ByteArray)(hz:z=⟨(encB c).toArray⟩)(j:Nat)(h1:(bodB c).length<=j)(h2:j<z.size)(b:UInt8)(hb:b≠z[j]'h2) :
  ∀ d,¬IsE (z.extract 0 j++(⟨#[b]⟩:ByteArray)++z.extract (j+1) z.size).data.toList d:=by
 have hs:z.size=(encB c).length:=by rw[hz,size_mk]
 have hd:z.data.toList=encB c:=by rw[hz]
 have hl:(encB c)[j]'(by omega)=z[j]'h2:=by subst hz;rfl
 have e:(z.extract 0 j++(⟨#[b]⟩:ByteArray)++z.extract (j+1) z.size).data.toList=(encB c).take j++[b]++(encB c).drop (j+1):=by
  simp only[ByteArray.data_append,ByteArray.data_extract,Array.toList_append,Array.toList_extract,hd,hs,List.extract,List.drop_zero];rw[List.take_of_length_le (l:=(encB c).drop (j+1)) (by simp)];try simp only[Nat.sub_zero]
 have e2:(encB c).take j=bodB c++(selB (sumB (bodB c))).take (j-(bodB c).length):=by
  unfold encB sldB;rw[List.take_append,List.take_of_length_le h1]
 rw[e,e2,List.append_assoc,List.append_assoc];refine no_turn c ho hr _ (fun h=>?_);rw[<-List.append_assoc,<-e2] at h;have h3:((encB c).take j++([b]++(encB c).drop (j+1)))[j]?=(encB c)[j]?:=by rw[h]
 have h4:(encB c)[j]?=some (z[j]'h2):=by rw[List.getElem?_eq_getElem (by omega),hl]
 rw[h4,List.getElem?_append_right (by simp;omega)] at h3
 have:j-((encB c).take j).length=0:=by simp;omega
 rw[this] at h3;simp at h3;exact hb h3
end Go.Proofs.YtdhhnhjolmnkjabDoor

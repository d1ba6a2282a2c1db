import Derived.Test.YtpdfdhkdfkhfkaaDoorReA
set_option maxRecDepth 100000
set_option maxHeartbeats 8000000
namespace Go.Proofs.YtpdfdhkdfkhfkaaDoor
open Go.ChangeShapes Go.WideShapes Go.ChangeAt Go.RowKit
set_option linter.unusedVariables false
set_option linter.unusedSimpArgs false
theorem rwrd_c (u:Int)(h1:0<=u)(h2:u<18446744073709551616)(p:Pl)(c:Cd)(w:World)(hC:CdW w p c) :
  Calls Tryd.prog 29 #[cdV p c,.int .u64 u] w fun e w'=>e=.returned (.bool (wrdB c u))/\Below w.heap.size w w':=by
 obtain⟨o,ho⟩:=Int.eq_ofNat_of_zero_le (show 0<=u / 72057594037927936 by omega);obtain⟨a,ha⟩:=Int.eq_ofNat_of_zero_le (show 0<=u / 268435456 % 268435456 by omega);obtain⟨b,hb⟩:=Int.eq_ofNat_of_zero_le (show 0<=u % 268435456 by omega);have e:wrdB c u=wrdD c o a b:=by
  unfold wrdB;rw[show opW u=(o:Int) from ho,show aW u=(a:Int) from ha,show bW u=(b:Int) from hb]
 rw[e];have HP:∀ w,Calls Tryd.prog 30 #[.int .u64 u] w fun e w'=>e=.returned (.tuple #[.int .i64 (o:Int),.int .i64 (a:Int),.int .i64 (b:Int)])/\w'=w:=fun w=>by
  have:=rparts_any u w h1 h2
  rw[ho,ha,hb] at this;exact this
 have hob:o<256:=by omega
 have hab:a<268435456:=by omega
 have hbb:b<268435456:=by omega
 clear e;by_cases n1:(o:Int)=1
 ·rw[n1] at HP ⊢;exact rwd_1 u a b HP hab hbb p c w hC
 by_cases n2:(o:Int)=2
 ·rw[n2] at HP ⊢;exact rwd_2 u a b HP hab hbb p c w hC
 by_cases n3:(o:Int)=3
 ·rw[n3] at HP ⊢;exact rwd_3 u a b HP hab hbb p c w hC
 by_cases n11:(o:Int)=11
 ·rw[n11] at HP ⊢;exact rwd_11 u a b HP hab hbb p c w hC
 by_cases n12:(o:Int)=12
 ·rw[n12] at HP ⊢;exact rwd_12 u a b HP hab hbb p c w hC
 by_cases n13:(o:Int)=13
 ·rw[n13] at HP ⊢;exact rwd_13 u a b HP hab hbb p c w hC
 by_cases n14:(o:Int)=14
 ·rw[n14] at HP ⊢;exact rwd_14 u a b HP hab hbb p c w hC
 by_cases n15:(o:Int)=15
 ·rw[n15] at HP ⊢;exact rwd_15 u a b HP hab hbb p c w hC
 by_cases n24:(o:Int)=24
 ·rw[n24] at HP ⊢;exact rwd_24 u a b HP hab hbb p c w hC
 by_cases n16:(o:Int)=16
 ·rw[n16] at HP ⊢;exact rwd_16 u a b HP hab hbb p c w hC
 by_cases n17:(o:Int)=17
 ·rw[n17] at HP ⊢;exact rwd_17 u a b HP hab hbb p c w hC
 by_cases n18:(o:Int)=18
 ·rw[n18] at HP ⊢;exact rwd_18 u a b HP hab hbb p c w hC
 by_cases n19:(o:Int)=19
 ·rw[n19] at HP ⊢;exact rwd_19 u a b HP hab hbb p c w hC
 by_cases n21:(o:Int)=21
 ·rw[n21] at HP ⊢;exact rwd_21 u a b HP hab hbb p c w hC
 by_cases n23:(o:Int)=23
 ·rw[n23] at HP ⊢;exact rwd_23 u a b HP hab hbb p c w hC
 by_cases n26:(o:Int)=26
 ·rw[n26] at HP ⊢;exact rwd_26 u a b HP hab hbb p c w hC
 exact rwd_z u o a b HP hob n1 n2 n3 n11 n12 n13 n14 n15 n24 n16 n17 n18 n19 n21 n23 n26 hab hbb p c w hC
theorem rgt_parts (c:Cd):rgtB c=(decide (0<c.ws.length)&&decide (c.ws.length<=32768)&&lenB c&&c.ns.all (fun s=>nameB s.data.toList)&&c.ks.all kndB&&c.ws.all (wrdB c)):=by
 unfold rgtB lstB wdsB;cases decide (0<c.ws.length)<;>cases decide (c.ws.length<=32768)<;>cases lenB c<;>cases c.ns.all (fun s=>nameB s.data.toList)<;>cases c.ks.all kndB<;>cases c.ws.all (wrdB c)<;>rfl
theorem rright_c (p:Pl)(c:Cd)(w:World)(hC:CdW w p c) :
  Calls Tryd.prog 16 #[cdV p c] w fun e w'=>e=.returned (.bool (rgtB c))/\Below w.heap.size w w':=by
 rw[rgt_parts];obtain⟨w1,hw1⟩:∃w1,w1=w.alloc (.cells (cdA p c) 26):=⟨_,rfl⟩
 obtain⟨b0,hb0⟩:∃b0,b0=w.heap.size:=⟨_,rfl⟩
 have B1:Below w.heap.size w w1:=by rw[hw1];exact b1 _ _
 have K1:bx4 p c w1 b0:=by rw[hw1,hb0];exact bx4_new p c w
 have L1:b0<w1.heap.size:=by rw[hw1,hb0];simp
 have C1:=hC.below B1;have HB0:Hid (b0=w.heap.size):=hb0;clear hb0 hC;have hlw:=C1.lw;have hlc:=C1.lc;have hln:=C1.ln;have hlk:=C1.lk;obtain⟨k0,k1,k2,k3⟩:=K1;cases hle:(decide (0<c.ws.length)&&decide (c.ws.length<=32768)&&lenB c)
 ·simp only[Bool.false_and];have hx:(c.ws.length:Int)<1\/(¬(c.ws.length:Int)<1/\(32768:Int)<(c.ws.length:Int))\/(¬(c.ws.length:Int)<1/\¬(32768:Int)<(c.ws.length:Int)/\(32768:Int)<(c.cs.length:Int))\/(¬(c.ws.length:Int)<1/\¬(32768:Int)<(c.ws.length:Int)/\¬(32768:Int)<(c.cs.length:Int)/\(2000:Int)<(c.ns.length:Int))\/(¬(c.ws.length:Int)<1/\¬(32768:Int)<(c.ws.length:Int)/\¬(32768:Int)<(c.cs.length:Int)/\¬(2000:Int)<(c.ns.length:Int)/\(256:Int)<(c.ks.length:Int)):=by
   have:¬(0<c.ws.length/\c.ws.length<=32768/\c.cs.length<=32768/\c.ns.length<=2000/\c.ks.length<=256):=fun ⟨g1,g2,h1,h2,h3⟩=>by simp[lenB,g1,g2,h1,h2,h3] at hle<;>omega
   omega
  clear hle;rcases hx with x1|⟨x1,x2⟩|⟨x1,x2,x3⟩|⟨x1,x2,x3,x4⟩|⟨x1,x2,x3,x4,x5⟩
  all_goals
   go_enter Tryd.func16,Tryd.ntmps16;go_wp2_with fail;rw[<-hw1,<-HB0.out];clear hw1;go_wp2;go_ret;exact⟨rfl,by first|(rw[HB0.out];exact B1)|exact B1⟩
 ·simp only[Bool.true_and];have hl3:0<c.ws.length/\c.ws.length<=32768/\c.cs.length<=32768/\c.ns.length<=2000/\c.ks.length<=256:=by simpa [lenB,and_assoc] using hle
  clear hle;have x1:¬(c.ws.length:Int)<1:=by omega
  have x2:¬(32768:Int)<(c.ws.length:Int):=by omega
  have x3:¬(32768:Int)<(c.cs.length:Int):=by omega
  have x4:¬(2000:Int)<(c.ns.length:Int):=by omega
  have x5:¬(256:Int)<(c.ks.length:Int):=by omega
  obtain⟨NB,hNB⟩:∃NB:Bool,NB=c.ns.all (fun s=>nameB s.data.toList):=⟨_,rfl⟩
  obtain⟨KB,hKB⟩:∃KB:Bool,KB=c.ks.all kndB:=⟨_,rfl⟩
  obtain⟨WB,hWB⟩:∃WB:Bool,WB=c.ws.all (wrdB c):=⟨_,rfl⟩
  rw[<-hNB,<-hKB,<-hWB];have KK:∀ {wr:World},Below w1.heap.size w1 wr->bx4 p c wr b0:=fun {wr} B=>bx4_below ⟨k0,k1,k2,k3⟩ L1 B;have HNB:=Lib.hid hNB;have HKB:=Lib.hid hKB;have HWB:=Lib.hid hWB;clear hNB hKB hWB;go_enter Tryd.func16,Tryd.ntmps16;go_wp2_with fail;rw[<-hw1,<-HB0.out];clear hw1;go_wp2_with fail;go_loopw [3] (fun v wr=>∃k:Nat,v=.int .i64 (k:Nat)/\k<=c.ns.length/\Hid ((c.ns.take k).all (fun s=>nameB s.data.toList)=true)/\Below w1.heap.size w1 wr) (fun v _=>c.ns.length-(intOf v).toNat)
  case atStart=>exact⟨0,by go_num,by omega,rfl,Below.refl _ _⟩
  case round =>
   obtain⟨k,rfl,hk,HA,BR0⟩:=hrel;have QR0:=KK BR0;clear k0 k1 k2 k3;obtain⟨k0,k1,k2,k3⟩:=QR0;by_cases hlt:k<c.ns.length
   ·have hkI:(k:Int)<(c.ns.length:Int):=by omega
    have CR:=C1.below BR0;obtain⟨wb,wo,haw,hwl,hcx⟩:=CR.ns.at (nsV_at hlt);have WR:=fun (wz:World) (CZ:CdW wz p c)=>name_r (c.ns[k]) wz (C1.ok.ns _ (List.getElem_mem hlt));have HN:Hid ((c.ns.take (k+1)).all (fun s=>nameB s.data.toList)=nameB (c.ns[k]).data.toList):=by
     show _=_;rw[all_next _ _ _ hlt,HA.out,Bool.true_and]
    have HZ:Hid (nameB (c.ns[k]).data.toList=false->NB=false):=fun h=>by rw[HNB.out];exact all_no _ _ _ hlt h
    generalize nameB (c.ns[k]).data.toList=bb at WR HN HZ;generalize c.ns[k]=u at *;rw[haw] at k2;cases bb
    ·have fin:=HZ.out rfl
     (try rw[haw])
     go_wp2_with (go_at_call 27;refine(WR _ CR).mono ?_;rintro e w5 ⟨rfl,B6⟩);go_ret;exact⟨by first|rfl|(rw[fin];simp),B1.trans ((BR0.trans (B6.mono BR0.size)).mono B1.size)⟩
    ·(try rw[haw])
     go_wp2_with (go_at_call 27;refine(WR _ CR).mono ?_;rintro e w5 ⟨rfl,B6⟩);go_roundw
     case rel=>(try ((repeat apply Exists.intro);refine⟨?_,rfl⟩));exact⟨k+1,by go_num,by omega,HN.out,BR0.trans (B6.mono BR0.size)⟩
     case measure=>simp[intOf];omega
   ·have hkI:¬(k:Int)<(c.ns.length:Int):=by omega
    have fin:NB=true:=by
     have:=HA.out
     rw[List.take_of_length_le (by omega)] at this;rw[HNB.out];exact this
    subst fin;clear HA HNB hlt;go_wp2_with fail;go_loopw [5] (fun v wr=>∃k:Nat,v=.int .i64 (k:Nat)/\k<=c.ks.length/\Hid ((c.ks.take k).all kndB=true)/\Below w1.heap.size w1 wr) (fun v _=>c.ks.length-(intOf v).toNat)
    case atStart=>exact⟨0,by go_num,by omega,rfl,BR0⟩
    case round =>
     obtain⟨k,rfl,hk,HA,BR1⟩:=hrel;have QR1:=KK BR1;clear k0 k1 k2 k3;obtain⟨k0,k1,k2,k3⟩:=QR1;by_cases hlt:k<c.ks.length
     ·have hkI:(k:Int)<(c.ks.length:Int):=by omega
      have CR:=C1.below BR1;obtain⟨wb,wo,haw,hwl,hcx⟩:=CR.ks.at (isV_get hlt);have WR:=fun (wz:World) (CZ:CdW wz p c)=>(rkindw_c (c.ks[k]) wz).mono fun e w2 (h:_/\_)=>(⟨h.1,h.2 ▸ Below.refl _ _⟩:e=_/\Below wz.heap.size wz w2);have HN:Hid ((c.ks.take (k+1)).all kndB=kndB (c.ks[k])):=by
       show _=_;rw[all_next _ _ _ hlt,HA.out,Bool.true_and]
      have HZ:Hid (kndB (c.ks[k])=false->KB=false):=fun h=>by rw[HKB.out];exact all_no _ _ _ hlt h
      generalize kndB (c.ks[k])=bb at WR HN HZ;generalize c.ks[k]=u at *;rw[haw] at k3;cases bb
      ·have fin:=HZ.out rfl
       (try rw[haw])
       go_wp2_with (go_at_call 28;refine(WR _ CR).mono ?_;rintro e w5 ⟨rfl,B6⟩);go_ret;exact⟨by first|rfl|(rw[fin];simp),B1.trans ((BR1.trans (B6.mono BR1.size)).mono B1.size)⟩
      ·(try rw[haw])
       go_wp2_with (go_at_call 28;refine(WR _ CR).mono ?_;rintro e w5 ⟨rfl,B6⟩);go_roundw
       case rel=>(try ((repeat apply Exists.intro);refine⟨?_,rfl⟩));exact⟨k+1,by go_num,by omega,HN.out,BR1.trans (B6.mono BR1.size)⟩
       case measure=>simp[intOf];omega
     ·have hkI:¬(k:Int)<(c.ks.length:Int):=by omega
      have fin:KB=true:=by
       have:=HA.out
       rw[List.take_of_length_le (by omega)] at this;rw[HKB.out];exact this
      subst fin;clear HA HKB hlt;go_wp2_with fail;go_loopw [7] (fun v wr=>∃k:Nat,v=.int .i64 (k:Nat)/\k<=c.ws.length/\Hid ((c.ws.take k).all (wrdB c)=true)/\Below w1.heap.size w1 wr) (fun v _=>c.ws.length-(intOf v).toNat)
      case atStart=>exact⟨0,by go_num,by omega,rfl,BR1⟩
      case round =>
       obtain⟨k,rfl,hk,HA,BR2⟩:=hrel;have QR2:=KK BR2;clear k0 k1 k2 k3;obtain⟨k0,k1,k2,k3⟩:=QR2;by_cases hlt:k<c.ws.length
       ·have hkI:(k:Int)<(c.ws.length:Int):=by omega
        have CR:=C1.below BR2;obtain⟨wb,wo,haw,hwl,hcx⟩:=CR.ws.at (wsV_at hlt);have WR:=fun (wz:World) (CZ:CdW wz p c)=>rwrd_c (c.ws[k]) (C1.ok.ws _ (List.getElem_mem hlt)).1 (C1.ok.ws _ (List.getElem_mem hlt)).2 p c wz CZ;have HN:Hid ((c.ws.take (k+1)).all (wrdB c)=wrdB c (c.ws[k])):=by
         show _=_;rw[all_next _ _ _ hlt,HA.out,Bool.true_and]
        have HZ:Hid (wrdB c (c.ws[k])=false->WB=false):=fun h=>by rw[HWB.out];exact all_no _ _ _ hlt h
        generalize wrdB c (c.ws[k])=bb at WR HN HZ;generalize c.ws[k]=u at *;unfold cdV cdA at WR;rw[haw] at WR;rw[haw] at k0;have CRd:=CR.below ((Below.refl _ wr).drew);have hb0l:b0<wr.heap.size:=Nat.lt_of_lt_of_le L1 BR2.size;have KH:wr.cell? ⟨wb,wo+k,none⟩=some (.int .u64 u)/\wr.cell? ⟨b0,0,none⟩=some (.slice (some ⟨wb,wo,none⟩) c.ws.length p.cw)/\wr.cell? ⟨b0,1,none⟩=some (.slice p.ac c.cs.length p.cc)/\wr.cell? ⟨b0,2,none⟩=some (.slice p.an c.ns.length p.cn)/\wr.cell? ⟨b0,3,none⟩=some (.slice p.ak c.ks.length p.ck):=⟨hcx,k0,k1,k2,k3⟩
        cases bb
        ·have fin:=HZ.out rfl
         (try rw[haw])
         go_wp2_with fail;go_region_held3 (fun wx=>wx.cell? ⟨wb,wo+k,none⟩=some (.int .u64 u)/\wx.cell? ⟨b0,0,none⟩=some (.slice (some ⟨wb,wo,none⟩) c.ws.length p.cw)/\wx.cell? ⟨b0,1,none⟩=some (.slice p.ac c.cs.length p.cc)/\wx.cell? ⟨b0,2,none⟩=some (.slice p.an c.ns.length p.cn)/\wx.cell? ⟨b0,3,none⟩=some (.slice p.ak c.ks.length p.ck)) (first|exact KH|go_keep) ((go_at_call 29;refine(WR _ CRd).mono ?_;rintro e w5 ⟨rfl,B6⟩;have KH:=keep5 B6 hwl hb0l KH));go_wp2;go_ret;exact⟨by first|rfl|(rw[fin];simp),B1.trans ((BR2.drew.trans (B6.mono BR2.size)).mono B1.size)⟩
        ·(try rw[haw])
         go_wp2_with fail;go_region_held3 (fun wx=>wx.cell? ⟨wb,wo+k,none⟩=some (.int .u64 u)/\wx.cell? ⟨b0,0,none⟩=some (.slice (some ⟨wb,wo,none⟩) c.ws.length p.cw)/\wx.cell? ⟨b0,1,none⟩=some (.slice p.ac c.cs.length p.cc)/\wx.cell? ⟨b0,2,none⟩=some (.slice p.an c.ns.length p.cn)/\wx.cell? ⟨b0,3,none⟩=some (.slice p.ak c.ks.length p.ck)) (first|exact KH|go_keep) ((go_at_call 29;refine(WR _ CRd).mono ?_;rintro e w5 ⟨rfl,B6⟩;have KH:=keep5 B6 hwl hb0l KH));go_wp2;go_roundw
         case rel=>(try ((repeat apply Exists.intro);refine⟨?_,rfl⟩));exact⟨k+1,by go_num,by omega,HN.out,BR2.drew.trans (B6.mono BR2.size)⟩
         case measure=>simp[intOf];omega
       ·have hkI:¬(k:Int)<(c.ws.length:Int):=by omega
        have fin:WB=true:=by
         have:=HA.out
         rw[List.take_of_length_le (by omega)] at this;rw[HWB.out];exact this
        go_wp2;go_ret;exact⟨by first|rfl|(rw[fin];rfl),B1.trans (BR2.mono B1.size)⟩
end Go.Proofs.YtpdfdhkdfkhfkaaDoor

import Derived.Test.YtkhgahljbpmfaaaGreatDoorCodB
import Derived.OrdersHeld
import Derived.SizedLaws
import Derived.Stop.LaidErr
import Derived.ShutString
import Derived.Deep.DeepHandedRow
import Derived.Test.YtkhgahljbpmfaaaGreatDoorCards
import Derived.Test.YtkhgahljbpmfaaaGreatDoorTie
set_option maxRecDepth 100000
set_option maxHeartbeats 8000000
namespace Go.Proofs.YtkhgahljbpmfaaaGreatDoor
open Go.ChangeShapes Go.WideShapes Go.ChangeAt Go.RowKit
set_option linter.unusedVariables false
set_option linter.unusedSimpArgs false
structure Fx (w:World):Prop where
 tab:TabG w
 rul:Rul w
 wd:WdG w
theorem Fx.below {w w':World}(h:Fx w)(B:Below w.heap.size w w'):Fx w':=⟨h.tab.below B,h.rul.below B,h.wd.below B⟩
theorem wsV_at {l:List Int}{k:Nat}(h:k<l.length):(wsV l)[k]?=some (.int .u64 l[k]):=by
 simp[wsV,List.getElem?_eq_getElem h]
theorem isV_get {l:List Int}{k:Nat}(h:k<l.length):(isV l)[k]?=some (.int .i64 l[k]):=by
 simp[isV,List.getElem?_eq_getElem h]
theorem nsV_at {l:List ByteArray}{k:Nat}(h:k<l.length):(nsV l)[k]?=some (.string l[k]):=by
 simp[nsV,List.getElem?_eq_getElem h]
theorem all_next {α:Type}(f:α->Bool)(l:List α)(k:Nat)(h:k<l.length):(l.take (k+1)).all f=((l.take k).all f&&f l[k]):=by
 rw[List.take_succ_eq_append_getElem h,List.all_append];simp
theorem all_no {α:Type}(f:α->Bool)(l:List α)(k:Nat)(h:k<l.length)(hf:f l[k]=false):l.all f=false:=by
 rw[<-Bool.not_eq_true,List.all_eq_true];intro H
 have:=H _ (List.getElem_mem h)
 rw[hf] at this;cases this
abbrev bx4 (p:Pl)(c:Cd)(w:World)(b:Nat):Prop:=w.cell? ⟨b,0,none⟩=some (.slice p.aw c.ws.length p.cw)/\w.cell? ⟨b,1,none⟩=some (.slice p.ac c.cs.length p.cc)/\w.cell? ⟨b,2,none⟩=some (.slice p.an c.ns.length p.cn)/\w.cell? ⟨b,3,none⟩=some (.slice p.ak c.ks.length p.ck)
theorem bx4_below {p:Pl}{c:Cd}{w w':World}{b:Nat}(h:bx4 p c w b)(hb:b<w.heap.size)(B:Below w.heap.size w w'):bx4 p c w' b :=
 ⟨(B.cell (p:=⟨b,0,none⟩) hb).trans h.1,(B.cell (p:=⟨b,1,none⟩) hb).trans h.2.1,(B.cell (p:=⟨b,2,none⟩) hb).trans h.2.2.1,(B.cell (p:=⟨b,3,none⟩) hb).trans h.2.2.2⟩
theorem bx4_new (p:Pl)(c:Cd)(w:World):bx4 p c (w.alloc (.cells (cdA p c) 42)) w.heap.size:=box4_cells (box4G _ _ _ _ _ _)
theorem wordsRight_c (p:Pl)(c:Cd)(w:World)(hF:Fx w)(hC:CdW w p c) :
  Calls Tryz.prog 47 #[cdV p c] w fun e w'=>e=.returned (.bool (wdsB c))/\Below w.heap.size w w':=by
 obtain⟨w1,hw1⟩:∃w1,w1=w.alloc (.cells (cdA p c) 42):=⟨_,rfl⟩
 obtain⟨b0G,hb0⟩:∃b0G,b0G=w.heap.size:=⟨_,rfl⟩
 have B1:Below w.heap.size w w1:=by rw[hw1];exact b1G _ _
 have K1:bx4 p c w1 b0G:=by rw[hw1,hb0];exact bx4_new p c w
 have L1:b0G<w1.heap.size:=by rw[hw1,hb0];simp
 have F1:=hF.below B1;have C1:=hC.below B1;have HB0:Hid (b0G=w.heap.size):=hb0;clear hb0 hF hC;have hlw:=C1.lw;obtain⟨k0,k1,k2,k3⟩:=K1;by_cases h0:c.ws.length=0
 ·have fin:wdsB c=false:=by simp[wdsB,h0]
  rw[fin];have h0I:(c.ws.length:Int)=0:=by omega
  go_enter Tryz.func47,Tryz.ntmps47;go_wp2_with fail;rw[<-hw1,<-HB0.out];clear hw1;go_wp2;go_ret;exact⟨rfl,by first|(rw[HB0.out];exact B1)|exact B1⟩
 have h0I:¬(c.ws.length:Int)=0:=by omega
 by_cases h1:32768<c.ws.length
 ·have fin:wdsB c=false:=by
   have:decide (c.ws.length<=32768)=false:=by simp;omega
   unfold wdsB;rw[this];simp
  rw[fin];have h1I:(32768:Int)<(c.ws.length:Int):=by omega
  go_enter Tryz.func47,Tryz.ntmps47;go_wp2_with fail;rw[<-hw1,<-HB0.out];clear hw1;go_wp2;go_ret;exact⟨rfl,by first|(rw[HB0.out];exact B1)|exact B1⟩
 have h1I:¬(32768:Int)<(c.ws.length:Int):=by omega
 have fin:wdsB c=c.ws.all (wrdB c):=by
  have e1:decide (0<c.ws.length)=true:=by simp;omega
  have e2:decide (c.ws.length<=32768)=true:=by simp;omega
  unfold wdsB;rw[e1,e2];simp
 rw[fin];clear fin;go_enter Tryz.func47,Tryz.ntmps47;go_wp2_with fail;rw[<-hw1,<-HB0.out];clear hw1;go_wp2_with fail;go_loopw [18] (fun v wr=>∃k:Nat,v=.int .i64 (k:Nat)/\k<=c.ws.length/\Hid ((c.ws.take k).all (wrdB c)=true)/\Below w1.heap.size w1 wr) (fun v _=>c.ws.length-(intOf v).toNat)
 case atStart=>exact⟨0,by go_num,by omega,rfl,Below.refl _ _⟩
 case round =>
  obtain⟨k,rfl,hk,HA,BR⟩:=hrel;by_cases hlt:k<c.ws.length
  ·have hkI:(k:Int)<(c.ws.length:Int):=by omega
   have CR:=C1.below BR;have FR:=F1.below BR;obtain⟨q0,q1,q2,q3⟩:=bx4_below ⟨k0,k1,k2,k3⟩ L1 BR;obtain⟨wb,wo,haw,hwl,hcx⟩:=CR.ws.at (wsV_at hlt);have hu:=C1.ok.ws _ (List.getElem_mem hlt);have WR:=fun w1 F1 C1=>wordRight_c (c.ws[k]) hu.1 hu.2 p c w1 (Fx.tab F1) (Fx.rul F1) C1;have HN:Hid ((c.ws.take (k+1)).all (wrdB c)=wrdB c c.ws[k]):=by
    show _=_;rw[all_next _ _ _ hlt,HA.out,Bool.true_and]
   have HZ:Hid (wrdB c c.ws[k]=false->c.ws.all (wrdB c)=false):=all_no _ _ _ hlt;generalize wrdB c c.ws[k]=bb at WR HN HZ;generalize c.ws[k]=u at *;unfold cdV cdA at WR;rw[haw] at WR;clear k0 k1 k2 k3;rw[haw] at q0 ;cases bb
   ·have fin:=HZ.out rfl;rw[haw];go_wp2_with (go_at_call 91;refine(WR _ FR CR).mono ?_;rintro e w5 ⟨rfl,B6⟩);go_ret;exact⟨by first|rfl|(rw[fin];rfl),B1.trans ((BR.trans (B6.mono BR.size)).mono B1.size)⟩
   ·rw[haw];go_wp2_with (go_at_call 91;refine(WR _ FR CR).mono ?_;rintro e w5 ⟨rfl,B6⟩);go_roundw
    case rel=>(try ((repeat apply Exists.intro);refine⟨?_,rfl⟩));exact⟨k+1,by go_num,by omega,HN.out,BR.trans (B6.mono BR.size)⟩
    case measure=>simp[intOf];omega
  ·have hkI:¬(k:Int)<(c.ws.length:Int):=by omega
   have fin:c.ws.all (wrdB c)=true:=by
    have:=HA.out
    rw[List.take_of_length_le (by omega)] at this;exact this
   go_wp2;go_ret;exact⟨by first|rfl|(rw[fin];rfl),B1.trans (BR.mono B1.size)⟩
theorem listsRight_c (p:Pl)(c:Cd)(w:World)(hF:Fx w)(hC:CdW w p c) :
  Calls Tryz.prog 46 #[cdV p c] w fun e w'=>e=.returned (.bool (lstB c))/\Below w.heap.size w w':=by
 obtain⟨w1,hw1⟩:∃w1,w1=w.alloc (.cells (cdA p c) 42):=⟨_,rfl⟩
 obtain⟨b0G,hb0⟩:∃b0G,b0G=w.heap.size:=⟨_,rfl⟩
 have B1:Below w.heap.size w w1:=by rw[hw1];exact b1G _ _
 have K1:bx4 p c w1 b0G:=by rw[hw1,hb0];exact bx4_new p c w
 have L1:b0G<w1.heap.size:=by rw[hw1,hb0];simp
 have F1:=hF.below B1;have C1:=hC.below B1;have HB0:Hid (b0G=w.heap.size):=hb0;clear hb0 hF hC;have hlw:=C1.lw;have hlc:=C1.lc;have hln:=C1.ln;have hlk:=C1.lk;obtain⟨k0,k1,k2,k3⟩:=K1;cases hle:lenB c
 ·have fin:lstB c=false:=by simp[lstB,hle]
  rw[fin];have hx:(32768:Int)<(c.cs.length:Int)\/(¬(32768:Int)<(c.cs.length:Int)/\(2000:Int)<(c.ns.length:Int))\/(¬(32768:Int)<(c.cs.length:Int)/\¬(2000:Int)<(c.ns.length:Int)/\(256:Int)<(c.ks.length:Int)):=by
   have:¬(c.cs.length<=32768/\c.ns.length<=2000/\c.ks.length<=256):=fun ⟨h1,h2,h3⟩=>by simp[lenB,h1,h2,h3] at hle
   omega
  clear hle fin;rcases hx with x1|⟨x1,x2⟩|⟨x1,x2,x3⟩
  all_goals
   go_enter Tryz.func46,Tryz.ntmps46;go_wp2_with fail;rw[<-hw1,<-HB0.out];clear hw1;go_wp2;go_ret;exact⟨rfl,by first|(rw[HB0.out];exact B1)|exact B1⟩
 ·have hl3:c.cs.length<=32768/\c.ns.length<=2000/\c.ks.length<=256:=by simpa [lenB,and_assoc] using hle
  have fin:lstB c=(c.ns.all (fun s=>nameBG s.data.toList)&&c.ks.all kndB):=by simp[lstB,hle]
  rw[fin];clear fin hle;have x1:¬(32768:Int)<(c.cs.length:Int):=by omega
  have x2:¬(2000:Int)<(c.ns.length:Int):=by omega
  have x3:¬(256:Int)<(c.ks.length:Int):=by omega
  obtain⟨NB,hNB⟩:∃NB:Bool,NB=c.ns.all (fun s=>nameBG s.data.toList):=⟨_,rfl⟩
  obtain⟨KB,hKB⟩:∃KB:Bool,KB=c.ks.all kndB:=⟨_,rfl⟩
  rw[<-hNB,<-hKB];have HNB:=Lib.hid hNB;have HKB:=Lib.hid hKB;clear hNB hKB;go_enter Tryz.func46,Tryz.ntmps46;go_wp2_with fail;rw[<-hw1,<-HB0.out];clear hw1;go_wp2_with fail;go_loopw [26] (fun v wr=>∃k:Nat,v=.int .i64 (k:Nat)/\k<=c.ns.length/\Hid ((c.ns.take k).all (fun s=>nameBG s.data.toList)=true)/\Below w1.heap.size w1 wr) (fun v _=>c.ns.length-(intOf v).toNat)
  case atStart=>exact⟨0,by go_num,by omega,rfl,Below.refl _ _⟩
  case round =>
   obtain⟨k,rfl,hk,HA,BR⟩:=hrel;by_cases hlt:k<c.ns.length
   ·have hkI:(k:Int)<(c.ns.length:Int):=by omega
    have CR:=C1.below BR;have FR:=F1.below BR;obtain⟨q0,q1,q2,q3⟩:=bx4_below ⟨k0,k1,k2,k3⟩ L1 BR;obtain⟨wb,wo,haw,hwl,hcx⟩:=CR.ns.at (nsV_at hlt);have hu:=C1.ok.ns _ (List.getElem_mem hlt);have WR:=fun w=>name_cG (c.ns[k]) w;have HN:Hid ((c.ns.take (k+1)).all (fun s=>nameBG s.data.toList)=nameBG (c.ns[k]).data.toList):=by
     show _=_;rw[all_next _ _ _ hlt,HA.out,Bool.true_and]
    have HZ:Hid (nameBG (c.ns[k]).data.toList=false->NB=false):=fun h=>by rw[HNB.out];exact all_no _ _ _ hlt h
    generalize nameBG (c.ns[k]).data.toList=bb at WR HN HZ;generalize c.ns[k]=u at *;clear k0 k1 k2 k3;cases bb
    ·have fin:=HZ.out rfl;rw[haw];go_wp2_with (go_at_call 89;refine(WR _ FR.wd hu).mono ?_;rintro e w5 ⟨rfl,B6⟩);go_ret;exact⟨by first|rfl|(rw[fin];rfl),B1.trans ((BR.trans (B6.mono BR.size)).mono B1.size)⟩
    ·rw[haw];go_wp2_with (go_at_call 89;refine(WR _ FR.wd hu).mono ?_;rintro e w5 ⟨rfl,B6⟩);go_roundw
     case rel=>(try ((repeat apply Exists.intro);refine⟨?_,rfl⟩));exact⟨k+1,by go_num,by omega,HN.out,BR.trans (B6.mono BR.size)⟩
     case measure=>simp[intOf];omega
   ·have hkI:¬(k:Int)<(c.ns.length:Int):=by omega
    have fin:NB=true:=by
     have:=HA.out
     rw[List.take_of_length_le (by omega)] at this;rw[HNB.out];exact this
    have CW:=C1.below BR;have FW:=F1.below BR;have QW:=bx4_below ⟨k0,k1,k2,k3⟩ L1 BR;have LW:=Nat.lt_of_lt_of_le L1 BR.size;have BW:=B1.trans (BR.mono B1.size);subst fin;clear k0 k1 k2 k3 HA HNB hlt;obtain⟨k0,k1,k2,k3⟩:=QW;go_wp2_with fail;go_loopw [37] (fun v ws=>∃j:Nat,v=.int .i64 (j:Nat)/\j<=c.ks.length/\Hid ((c.ks.take j).all kndB=true)/\Below wr.heap.size wr ws) (fun v _=>c.ks.length-(intOf v).toNat)
    case atStart=>exact⟨0,by go_num,by omega,rfl,Below.refl _ _⟩
    case round =>
     rename_i ws
     obtain⟨j,rfl,hj,HA,BS⟩:=hrel;by_cases hlt:j<c.ks.length
     ·have hjI:(j:Int)<(c.ks.length:Int):=by omega
      have CS:=CW.below BS;obtain⟨q0,q1,q2,q3⟩:=bx4_below ⟨k0,k1,k2,k3⟩ LW BS;obtain⟨wb,wo,haw,hwl,hcx⟩:=CS.ks.at (isV_get hlt);have WR:=fun w=>may_c 7 (by omega) (c.ks[j]) p c w hlc hln hlk;have e7:mayB c 7 (c.ks[j])=kndB (c.ks[j]):=rfl;rw[e7] at WR;have HN:Hid ((c.ks.take (j+1)).all kndB=kndB (c.ks[j])):=by
       show _=_;rw[all_next _ _ _ hlt,HA.out,Bool.true_and]
      have HZ:Hid (kndB (c.ks[j])=false->KB=false):=fun h=>by rw[HKB.out];exact all_no _ _ _ hlt h
      clear e7;generalize kndB (c.ks[j])=bb at WR HN HZ;generalize c.ks[j]=u at *;unfold cdV cdA at WR;rw[haw] at WR;clear k0 k1 k2 k3;rw[haw] at q3;cases bb
      ·have fin:=HZ.out rfl;rw[haw];go_wp2_with (go_at_call 90;refine(WR _).mono ?_;rintro e w5 ⟨rfl,B6⟩);go_ret;exact⟨by first|rfl|(rw[fin];rfl),BW.trans ((BS.trans (B6.mono BS.size)).mono BW.size)⟩
      ·rw[haw];go_wp2_with (go_at_call 90;refine(WR _).mono ?_;rintro e w5 ⟨rfl,B6⟩);go_roundw
       case rel=>(try ((repeat apply Exists.intro);refine⟨?_,rfl⟩));exact⟨j+1,by go_num,by omega,HN.out,BS.trans (B6.mono BS.size)⟩
       case measure=>simp[intOf];omega
     ·have hjI:¬(j:Int)<(c.ks.length:Int):=by omega
      have fin:KB=true:=by
       have:=HA.out
       rw[List.take_of_length_le (by omega)] at this;rw[HKB.out];exact this
      go_wp2;go_ret;exact⟨by first|rfl|(rw[fin];rfl),BW.trans (BS.mono BW.size)⟩
theorem right_c (p:Pl)(c:Cd)(w:World)(hF:Fx w)(hC:CdW w p c) :
  Calls Tryz.prog 21 #[cdV p c] w fun e w'=>e=.returned (.bool (rgtB c))/\Below w.heap.size w w':=by
 obtain⟨w1,hw1⟩:∃w1,w1=w.alloc (.cells (cdA p c) 42):=⟨_,rfl⟩
 obtain⟨b0G,hb0⟩:∃b0G,b0G=w.heap.size:=⟨_,rfl⟩
 have B1:Below w.heap.size w w1:=by rw[hw1];exact b1G _ _
 have K1:bx4 p c w1 b0G:=by rw[hw1,hb0];exact bx4_new p c w
 have L1:b0G<w1.heap.size:=by rw[hw1,hb0];simp
 have F1:=hF.below B1;have C1:=hC.below B1;have HB0:Hid (b0G=w.heap.size):=hb0;clear hb0 hF hC;obtain⟨k0,k1,k2,k3⟩:=K1;have R1:=listsRight_c p c w1 F1 C1;have fin:rgtB c=(lstB c&&wdsB c):=rfl;rw[fin];cases hl:lstB c
 ·rw[hl] at R1;rw[Bool.false_and];go_enter Tryz.func21,Tryz.ntmps21;go_wp2_with fail;rw[<-hw1,<-HB0.out];clear hw1;go_wp2_with (go_at_call 46;refine R1.mono ?_;rintro e w2 ⟨rfl,B2⟩);go_ret;exact⟨rfl,by first|(rw[HB0.out];exact B1.trans (B2.mono B1.size))|exact B1.trans (B2.mono B1.size)⟩
 ·rw[hl] at R1;rw[Bool.true_and];have R2:=fun w2 F2 C2=>wordsRight_c p c w2 F2 C2;generalize wdsB c=X at R2;go_enter Tryz.func21,Tryz.ntmps21;go_wp2_with fail;rw[<-hw1,<-HB0.out];clear hw1;go_wp2_with (first|(go_at_call 46;refine R1.mono ?_;rintro e w2 ⟨rfl,B2⟩;have F2:=F1.below B2;have C2:=C1.below B2;obtain⟨q0,q1,q2,q3⟩:=bx4_below ⟨k0,k1,k2,k3⟩ L1 B2)|(go_at_call 47;refine(R2 _ F2 C2).mono ?_;rintro e w3 ⟨rfl,B3⟩));go_ret;exact⟨rfl,by first|(rw[HB0.out];exact B1.trans ((B2.trans (B3.mono B2.size)).mono B1.size))|exact B1.trans ((B2.trans (B3.mono B2.size)).mono B1.size)⟩
theorem Row.lenF {w:World}{o:Nat->Nat}{i:Nat}{e:TypeId}{size:Nat}{v:Value}{n:Nat}{xs:List Value}(h:Row w o i e size v n xs):n<=9223372036854775807:=by
 by_cases hn:0<n
 ·obtain⟨g,cap,-,-,h1,h2,-⟩:=h.pos hn;unfold maxLen at h2;omega
 ·omega
theorem Row.lsvF {w:World}{o:Nat->Nat}{i:Nat}{e:TypeId}{ao:Option Addr}{n cap:Nat}{xs:List Value}(h:Row w o i e 1 (.slice ao n cap) n xs):Lsv w ao xs:=by
 rcases h.lse with h|⟨b,h1,h2,h3⟩
 ·exact .inl h
 ·exact .inr ⟨b,0,h1,h2,fun j x hx=>by rw[Nat.zero_add];exact h3 j x hx⟩
theorem EmC.outF {w:World}{o:Nat->Nat}{s:Em}{vw vc vn vk:Value}(h:EmC w o s vw vc vn vk)(hc:(cdM s).Ok):∃p,(#[vw,vc,vn,vk]:Array Value)=cdA p (cdM s)/\CdW w p (cdM s):=by
 obtain⟨-,-,-,h1,h2,h3,h4⟩:=h;obtain⟨aw,cw,rfl⟩:=h1.form;obtain⟨ac,cc,rfl⟩:=h2.form;obtain⟨an,cn,rfl⟩:=h3.form;obtain⟨ak,ck,rfl⟩:=h4.form;have e1:wsV (s.ws.map encW)=woV s.ws:=by simp[wsV,woV]
 have e3:nsV (s.ns.map (fun l=>(⟨l.toArray⟩:ByteArray)))=esV s.ns:=by simp[nsV,esV]
 refine⟨⟨aw,cw,ac,cc,an,cn,ak,ck⟩,by simp[cdA,cdM],⟨hc,?_,h2.lsvF,?_,h4.lsvF,?_,h2.lenF,?_,h4.lenF⟩⟩
 ·show Lsv w aw (wsV (s.ws.map encW));rw[e1];exact h1.lsvF
 ·show Lsv w an (nsV (s.ns.map _));rw[e3];exact h3.lsvF
 ·show (s.ws.map encW).length<=_;simp;exact h1.lenF
 ·show (s.ns.map _).length<=_;simp;exact h3.lenF
theorem EmOut.fit {w w':World}{e:Ex}{cells:List Int}{z:Ending}(ho:kindP cells e≠0->okE cells.length e)(h:EmOut w e cells z w') :
  Below w.heap.size w w'/\((∃er,(er=140\/er=190)/\z=.returned (.tuple #[.agg nil4e,.int .i64 er])) \/
   ∃s p,z=.returned (.tuple #[cdV p (cdM s),.int .i64 0])/\CdW w' p (cdM s)/\rgtB (cdM s)=true/\s.ks.length=cells.length/\cells.length<=256/\s.ws.length<=32768/\s.ws.length<=8*szF (one e)+cells.length*quF (one e)+1 /\
    (∀ x ∈ s.ws,x.ok)/\(∀ x ∈ s.ws,ldW x<(s.ws.length:Int))/\∃n,n+1=s.ws.length/\s.ws[n]?=some ⟨0,0,0⟩):=by
 obtain⟨B,h⟩:=h;refine⟨B,?_⟩;rcases h with ⟨hk,rfl⟩|⟨hk,hv,rfl⟩|⟨hk,h1,h2,-,vw,vc,vn,vk,o',rfl,-,C⟩
 ·exact .inl ⟨140,.inl rfl,rfl⟩
 ·exact .inl ⟨190,.inr rfl,rfl⟩
 ·obtain⟨p,e1,hp⟩:=C.outF (cdM_ok hk (ho hk) h1 h2);obtain⟨f1,f2,f3,n,f4,f5⟩:=fit_A hk (ho hk) h1 h2;refine .inr ⟨emA cells e,p,by rw[e1],hp,f1,f2,(kindP_inv hk).1,h1,len_A cells e (ho hk),C.ok,fun x hx=>?_,n,f4,f5⟩;have h3:=f3 x hx;unfold ldW;unfold ledTo at h3;split
  ·rename_i ha
   rw[if_pos ha] at h3
   have:=h3 x.a rfl
   omega
  ·rename_i ha
   rw[if_neg ha] at h3;split
   ·rename_i hb
    rw[if_pos hb] at h3
    have:=h3 x.b rfl
    omega
   ·omega
theorem wsV_atF {s:Em}{j:Nat}{x:Wo}(h:s.ws[j]?=some x):(wsV (cdM s).ws)[j]?=some (.int .u64 (encW x)):=by simp[cdM,wsV,h]
theorem emitFits_walk (e:Ex)(ao:Option Addr)(cap:Nat)(cv:Value)(cells:List Int)(w:World)(hlen:e.kids.len<=maxLen)(hwd:e.kids.wide)(hfit:e.kids.size<=100000000->FitN e/\(-9223372036854775808<=e.n/\e.n<=9223372036854775807)/\e.kids.rng)(S:SnA w e.kids ao)(hc:InA w cv cells)(hcl:cells.length<=maxLen)(hW:Wd w)(hT:EmTab w)(hF:Fx w) :
  Calls Tryz.prog 6 #[plV e ao cap cv] w fun x w'=>x=.returned (.bool true)/\Below w.heap.size w w':=by
 obtain⟨ac,cc,hcv,hx⟩:=hc;have hc:InA w cv cells:=⟨ac,cc,hcv,hx⟩
 subst hcv;clear hx;obtain⟨g,hg⟩:∃g,g=w.heap.size:=⟨_,rfl⟩
 obtain⟨w0,hw0⟩:∃w0,w0=w.alloc (.cells #[.int .i64 e.k,.int .i64 e.n,stv e.nm,.slice ao e.kids.len cap,.slice ac cells.length cc] 37):=⟨_,rfl⟩
 have b0:Below w.heap.size w w0:=by rw[hw0];exact b1 _ _
 have P0:w0.heap[g]?=some (.cells #[.int .i64 e.k,.int .i64 e.n,stv e.nm,.slice ao e.kids.len cap,.slice ac cells.length cc] 37):=by rw[hw0,hg];exact heap_alloc_new _ _
 have L0:g<w0.heap.size:=lt_of_block P0;have B0:Below g w w0:=by rw[hg];exact b0
 have c1:=heavy14_c e ao cap 0 _ cells w0 (hc.below b0) hcl hlen hwd (SnA.below S b0);rw[plV_out] at c1 ⊢;have HG:=Lib.hid hg;clear hg;obtain⟨p0,p1,p2,p3,p4⟩:=cells5e P0;go_enter Tryz.func6,Tryz.ntmps6;go_upto_region 1 with fail;rw[<-hw0,<-HG.out];clear hw0;go_wp2_with fail;refine c1.mono ?_;rintro x w1 ⟨rfl,b1'⟩;have P1:=(b1'.block g L0).trans P0;have bb1:=b0.trans (b1'.mono b0.size);have B1:Below g w w1:=B0.trans (b1'.mono (Nat.le_of_lt L0));have L1:=lt_of_block P1;clear c1 p0 p1 p2 p3 p4;cases hh:hvP e cells with
 | true =>
  clear hh;go_wp2;go_ret;exact⟨rfl,by rw[<-HG.out];exact B1⟩
 | false =>
 obtain⟨hcl2,hsz⟩:=hvE_not hh;obtain⟨hf,hn,hr⟩:=hfit (by omega);clear hh hfit hcl;have c2:=awakee_r w1 (hW.below bb1) (hT.below bb1);go_upto_region 4 with (first|(go_at_call 13;refine c2.mono ?_;rintro x w2 ⟨rfl,b2⟩))
 have P2:=(b2.block g L1).trans P1;have bb2:=bb1.trans (b2.mono bb1.size);have B2:Below g w w2:=B1.trans (b2.mono (Nat.le_of_lt L1));have L2:=lt_of_block P2;have c3:=(emit_c e ao cap _ cells w2 hf hn hr (hW.below bb2) (hT.below bb2) (hc.below bb2) (by omega) (SnA.below S bb2)).mono fun x w' h=>EmOut.fit (e:=e) (cells:=cells) (fun hk=>(kindP_ok hk hn hr).1) h;rw[plV_out] at c3;obtain⟨p0,p1,p2,p3,p4⟩:=cells5e P2;clear c2 P0 P1 b0 b1' bb1 B0 B1 L0 L1 b2;go_wp2_with fail;refine c3.mono ?_;rintro x w3 ⟨b3,h3⟩;clear c3 p0 p1 p2 p3 p4;have P3:=(b3.block g L2).trans P2;have bb3:=bb2.trans (b3.mono bb2.size);have B3:Below g w w3:=B2.trans (b3.mono (Nat.le_of_lt L2));have L3:=lt_of_block P3;rcases h3 with ⟨er,her,rfl⟩|⟨s,p,rfl,C3,hr3,hk3,h256,hwl,hl8,okw,hld,n,hn1,hnx⟩
 ·rcases her with rfl|rfl
  ·go_wp2;go_ret;exact⟨rfl,by rw[<-HG.out];exact B3.alloc (Nat.le_of_lt L3) _⟩
  ·go_wp2;go_ret;exact⟨rfl,by rw[<-HG.out];exact B3.alloc (Nat.le_of_lt L3) _⟩
 have hwM:(cdM s).ws.length=s.ws.length:=by simp[cdM]
 have hkM:(cdM s).ks.length=cells.length:=hk3;have HX:Hid (∀ k,k<s.ws.length->∃x,(wsV (cdM s).ws)[k]?=some (.int .u64 (encW x))/\x.ok/\ldW x<(s.ws.length:Int)):=fun k hk=>by
  have hx:s.ws[k]?=some s.ws[k]:=List.getElem?_eq_getElem hk;exact⟨_,wsV_atF hx,okw _ (List.mem_of_getElem? hx),hld _ (List.mem_of_getElem? hx)⟩
 have HE:Hid (∃k,k+1=s.ws.length/\(wsV (cdM s).ws)[k]?=some (.int .u64 (encW ⟨0,0,0⟩))/\Wo.ok ⟨0,0,0⟩):=⟨n,hn1,wsV_atF hnx,okw _ (List.mem_of_getElem? hnx)⟩
 obtain⟨m,hm⟩:∃m,m=s.ws.length:=⟨_,rfl⟩
 rw[<-hm] at hwM hwl hl8 HX HE hn1;clear okw hld hnx;obtain⟨c,hcd⟩:∃c,c=cdM s:=⟨_,rfl⟩
 rw[<-hcd] at C3 hr3 hwM hkM HX HE ⊢;clear hcd hm hk3;obtain⟨PS,hPS⟩:∃PS,PS=szF (one e):=⟨_,rfl⟩
 obtain⟨QS,hQS⟩:∃QS,QS=quF (one e):=⟨_,rfl⟩
 have hP1:PS<=20001:=by rw[hPS];refine Nat.le_trans (szF_size _) ?_;show e.kids.size+0+1<=_;omega
 have hQ1:QS<=20001:=by rw[hQS];refine Nat.le_trans (quF_size _) ?_;show e.kids.size+0+1<=_;omega
 rw[<-hPS,<-hQS] at hl8;obtain⟨w4,hw4⟩:∃w4,w4=w3.alloc (.cells (cdA p c) 42):=⟨_,rfl⟩
 obtain⟨g4,hg4⟩:∃g4,g4=w3.heap.size:=⟨_,rfl⟩
 have B4:Below w3.heap.size w3 w4:=by rw[hw4];exact b1 _ _
 have K4:bx4 p c w4 g4:=by rw[hw4,hg4];exact bx4_new p c w3
 have G4:g4<w4.heap.size:=by rw[hw4,hg4];simp
 have P4:=(B4.block g L3).trans P3;have bb4:=bb3.trans (B4.mono bb3.size);have BB4:Below g w w4:=B3.trans (B4.mono (Nat.le_of_lt L3));have HV:=right_c p c w4 (hF.below bb4) (C3.below B4);rw[hr3] at HV;have L4:=lt_of_block P4;have HL:Hid (∀ wx,Below w4.heap.size w4 wx->Lsv wx p.aw (wsV c.ws)):=fun wx b=>(C3.below B4).ws.below b;have HG4:=Lib.hid hg4;have HPr:∀ wx,Below w4.heap.size w4 wx->Calls Tryz.prog 22 #[exN e ao cap] wx fun x w'=>x=.returned (.int .i64 (PS:Nat))/\Below wx.heap.size wx w':=fun wx b=>by rw[hPS];exact prts_ok _ e ao cap wx (Nat.lt_succ_self _) (by omega) hlen hwd (SnA.below S (bb4.trans (b.mono bb4.size)))
 have HQr:∀ wx,Below w4.heap.size w4 wx->Calls Tryz.prog 23 #[exN e ao cap] wx fun x w'=>x=.returned (.int .i64 (QS:Nat))/\Below wx.heap.size wx w':=fun wx b=>by rw[hQS];exact qnts_ok _ e ao cap wx (Nat.lt_succ_self _) (by omega) hlen hwd (SnA.below S (bb4.trans (b.mono bb4.size)))
 rw[exN_out] at HPr HQr;have HC:Hid (∀ wx,Below w4.heap.size w4 wx->(wx.cell? ⟨g4,0,none⟩=some (.slice p.aw m p.cw)/\wx.cell? ⟨g4,3,none⟩=some (.slice p.ak cells.length p.ck)/\wx.cell? ⟨g,0,none⟩=some (.int .i64 e.k)/\wx.cell? ⟨g,1,none⟩=some (.int .i64 e.n)/\wx.cell? ⟨g,2,none⟩=some (stv e.nm)/\wx.cell? ⟨g,3,none⟩=some (.slice ao e.kids.len cap)/\wx.cell? ⟨g,4,none⟩=some (.slice ac cells.length cc))):=fun wx b=>by
  obtain⟨j0,j1,j2,j3⟩:=bx4_below K4 G4 b;obtain⟨q0,q1,q2,q3,q4⟩:=cells5e ((b.block g L4).trans P4);rw[hwM] at j0;rw[hkM] at j3;exact⟨j0,j3,q0,q1,q2,q3,q4⟩
 have HB:Hid (∀ wx,Below w4.heap.size w4 wx->Below g w wx):=fun wx b=>BB4.trans (b.mono (Nat.le_of_lt L4));clear hwM hkM P3 bb3 B3 L3 hg4 hr3 B4 hPS hQS S hc hW hT hF hf hn hr hlen hwd P2 B2 L2 bb2 b3;go_upto_region 7 with fail;rw[<-hw4,<-HG4.out];clear hw4;obtain⟨k0,k1,k2,k3⟩:=K4;go_wp2_with fail;refine HV.mono ?_;rintro x w5 ⟨rfl,b5⟩;clear HV k0 k1 k2 k3;obtain⟨j0,j3,q0,q1,q2,q3,q4⟩:=HC.out w5 b5;have c5:=HPr w5 b5;go_wp2_with fail;refine c5.mono ?_;rintro x w6 ⟨rfl,b6'⟩;have b6:=b5.trans (b6'.mono b5.size);clear c5 j0 j3 q0 q1 q2 q3 q4 b6' HPr P4 bb4 BB4;obtain⟨j0,j3,q0,q1,q2,q3,q4⟩:=HC.out w6 b6;obtain⟨T,hT⟩:∃T,T=cells.length*QS:=⟨_,rfl⟩
 have hT1:T<=256*20001:=by rw[hT];exact Nat.mul_le_mul h256 hQ1
 have hT2:(cells.length:Int)*(QS:Int)=(T:Int):=by rw[hT];simp
 rw[<-hT] at hl8;clear hT;have hcmp:¬((8:Int)*(PS:Int)+(T:Int)+1<(m:Int)):=by omega
 have hcmp2:¬(8*PS+T+1<m):=by omega
 have z1:(PS:Int)<=20001:=by omega
 have z2:(T:Int)<=5120256:=by omega
 have z3:(m:Int)<=32768:=by omega
 have v1:IntKind.i64.wrap ((8:Int)*(PS:Int))=(8:Int)*(PS:Int):=by rw[IntKind.wrap_i64];omega
 have v2:IntKind.i64.wrap (T:Int)=(T:Int):=by rw[IntKind.wrap_i64];omega
 have v3:IntKind.i64.wrap ((8:Int)*(PS:Int)+(T:Int))=(8:Int)*(PS:Int)+(T:Int):=by rw[IntKind.wrap_i64];omega
 have v4:IntKind.i64.wrap ((8:Int)*(PS:Int)+(T:Int)+1)=(8:Int)*(PS:Int)+(T:Int)+1:=by rw[IntKind.wrap_i64];omega
 go_upto_region 9 with fail;have hcmpD:decide ((8:Int)*(PS:Int)+(T:Int)+1<(m:Int))=false:=decide_eq_false (by omega);go_region_held (fun wx=>wx.cell? ⟨g4,0,none⟩=some (.slice p.aw m p.cw)/\wx.cell? ⟨g4,3,none⟩=some (.slice p.ak cells.length p.ck)/\wx.cell? ⟨g,0,none⟩=some (.int .i64 e.k)/\wx.cell? ⟨g,1,none⟩=some (.int .i64 e.n)/\wx.cell? ⟨g,2,none⟩=some (stv e.nm)/\wx.cell? ⟨g,3,none⟩=some (.slice ao e.kids.len cap)/\wx.cell? ⟨g,4,none⟩=some (.slice ac cells.length cc)) (first|exact⟨j0,j3,q0,q1,q2,q3,q4⟩|go_keep) ((go_at_call 23;refine(HQr _ (by first|exact b6.drew|assumption)).mono ?_;rintro x wz ⟨rfl,bz⟩;have bq:Below w4.heap.size w4 wz:=(by exact b6.drew.trans (bz.mono b6.size));obtain⟨y0,y1,y2,y3,y4,y5,y6⟩:=HC.out _ bq));clear HQr hcmp hcmpD hcmp2 v1 v2 v3 v4 hT1 hT2 hl8 z1 z2 j0 j3 q0 q1 q2 q3 q4 y0 y1 y2 y3 y4 y5 y6 bz b6 b5 hP1 hQ1 h256 C3 hcl2 hsz;go_wp2_with fail;go_loopw [8] (fun v wr=>∃k:Nat,v=.int .i64 (k:Nat)/\k<=m/\Below w4.heap.size w4 wr) (fun v _=>m-(intOf v).toNat)
 case atStart=>exact⟨0,by go_num,by omega,bq⟩
 case round =>
  clear bq;obtain⟨k,rfl,hk,BR⟩:=hrel;obtain⟨j0,j3,q0,q1,q2,q3,q4⟩:=HC.out wr BR;have LW:=HL.out wr BR;by_cases hlt:k<m
  ·have hkI:(k:Int)<(m:Int):=by omega
   obtain⟨x,hx,okx,hlx⟩:=HX.out k hlt;obtain⟨b,off,ha,lb,cx⟩:=LW.at hx;rw[ha] at j0;have HLd:=wleads x okx;generalize encW x=u at cx HLd;generalize ldW x=d at HLd hlx;have HBR:=Lib.hid BR;clear LW hx okx lb BR;go_wp2_with fail;have hdD:decide ((m:Int)<=d)=false:=decide_eq_false (by omega)
   go_quiet ((go_at_call 24;exact Calls.quiet_of_same (HLd _)))
   go_wp2;go_roundw
   case rel=>(try ((repeat apply Exists.intro);refine⟨?_,rfl⟩));exact⟨k+1,by go_num,by omega,bdr HBR.out _⟩
   case measure=>simp[intOf];omega
  ·have hkI:¬(k:Int)<(m:Int):=by omega
   obtain⟨n',hn',hx,ok0⟩:=HE.out;obtain⟨b,off,ha,lb,cx⟩:=LW.at hx;rw[ha] at j0;have HP:=wparts ⟨0,0,0⟩ ok0 wr;have hm1:(m:Int)-1=(n':Int):=by omega
   have hm2:(n':Int)<(m:Int):=by omega
   have HY:Hid (Below g w wr):=HB.out wr BR;generalize encW ⟨0,0,0⟩=u at cx HP;clear LW hx lb BR ok0;go_wp2_with (first|(go_at_call 25;refine HP.mono ?_;rintro z wp ⟨rfl,hww⟩;subst hww));go_ret;exact⟨rfl,by rw[<-HG.out];exact HY.out⟩
theorem ownK:ownKnob Tryz.prog.godebug=none:=by kernel_rfl
theorem laidOut:laidOutB Tryz.prog=true:=by kernel_rfl
theorem cellsInt:Tryz.prog.cellsOf 3=1:=by kernel_rfl
theorem gWd : Tryz.prog.globalNamed "isthmus/lex.words" = some 3 := by kernel_rfl
theorem gWdType:(Tryz.prog.globals[3]?).map (·.type)=some 229:=by kernel_rfl
theorem cellsWd:Tryz.prog.cellsOf 229=27:=by kernel_rfl
theorem cellsStr:Tryz.prog.cellsOf 9=1:=by kernel_rfl
def wordsD:List (DataW Unit):=(List.range 27).map fun j=>.lit (.string (wd j).data.toList)
theorem wordsD_eq:(Rows.laid_isthmus_lex_words:DataW Unit)=.agg wordsD:=by rfl
theorem wordsA_list:wordsA.toList=(List.range 27).map fun j=>Value.string (wd j):=by rfl
theorem words_of_cells {W:World}{fuel:Nat}{cs:List Value}{p:List MemPlace}(h:DataW.trod (fun _=>()) Tryz.prog W 0 (fun _=>true) false fuel 229 cs=some (.agg wordsD,p)):cs=wordsA.toList:=by
 obtain⟨xs,m,_,hx,hl,hlen,hf⟩:=DataW.trod_array Tryz.underlying229 h;rw[cellsWd] at hl;simp only[cellsStr,Nat.mul_one] at hf;simp only[Prod.mk.injEq,DataW.agg.injEq] at hx;rw[wordsA_list];apply List.ext_getElem?;intro i;by_cases hi:i<27
 ·have hfi:=hf i hi;have hxi:xs[i]?=some xs[i]:=List.getElem?_eq_getElem (by omega);rw[hxi] at hfi;obtain⟨s,h1,h2⟩:=DataW.trod_string Tryz.underlying9 hfi;have hc:cs[i]?=some (.string s):=by
   have:=congrArg (·[0]?) h1
   simpa [List.getElem?_take,List.getElem?_drop] using this
  have hd:(xs.map (·.1))[i]?=some (.lit (.string s.data.toList)):=by rw[List.getElem?_map,hxi,h2.1];rfl
  rw[<-hx.1] at hd;unfold wordsD at hd;rw[List.getElem?_map,List.getElem?_range hi] at hd;simp only[Option.map_some,Option.some.injEq,DataW.lit.injEq,Lit.string.injEq] at hd;have hs:=bytes_eq.1 hd;rw[hc,List.getElem?_map,List.getElem?_range hi,<-hs];rfl
 ·rw[List.getElem?_eq_none (by omega),List.getElem?_eq_none (by simp;omega)]
theorem wd_of_laid {W : World} {r : List (String × DataW Unit)} (h : laidMet Tryz.prog (("isthmus/lex.words", Rows.laid_isthmus_lex_words) :: r) W) : Wd W := by
 rw[wordsD_eq] at h;obtain⟨ps,⟨g',t',cs,fuel,p,q,hg',ht',hvar,hd,_,_⟩,_⟩:=h;obtain rfl:=Option.some.inj (gWd.symm.trans hg');obtain rfl:=Option.some.inj (gWdType.symm.trans ht');have hcs:=words_of_cells hd;have hcs':cs=wordsA:=Array.toList_inj.1 hcs;subst hcs';simp only[World.var?,gWd,Option.bind_some] at hvar;split at hvar
 ·rename_i c t fr hh
  cases hvar;exact⟨t,fr,hh⟩
 ·cases hvar
def layCells (cs:Array Value):Obj->Obj
 | .cells _ t frozen=>.cells cs t frozen
 | o=>o
def lowB (P:Program):Nat:=(World.holding P default ⟨#[],#[],[]⟩).heap.size
theorem field_cellsR {W:World}{m:Nat}{l:List Value}{a b:Int}{p:List MemPlace}
  (h:DataW.trod (fun _=>()) Tryz.prog W 0 (fun _=>true) false m 222 l=some (.agg [.lit (.int .u64 a),.lit (.int .u64 b)],p)):l=[.int .u64 a,.int .u64 b]:=by
 obtain⟨y0,y1,n,hx,hl,h0,h1⟩:=trod_struct2 Tryz.underlying222 h;simp only[Prod.mk.injEq,DataW.agg.injEq,List.cons.injEq,and_true] at hx;obtain⟨⟨e0,e1⟩,_⟩:=hx;obtain⟨z0,c0,r0,_⟩:=DataW.trod_int Tryz.underlying175 h0;obtain⟨z1,c1,r1,_⟩:=DataW.trod_int Tryz.underlying54 h1;subst r0 r1;simp only[DataW.lit.injEq,Lit.int.injEq,true_and] at e0 e1;subst e0 e1;rw[cellsField] at hl;simp only[cellsUint,cellsUint64] at c0 c1
 match l,hl with
 | [v0,v1],_ =>
  simp at c0 c1;rw[c0,c1]
theorem tab_of_laid2 {W : World} {r : List (String × DataW Unit)} (h : laidMet Tryz.prog (("isthmus/pack.fields", Rows.laid_isthmus_pack_fields) :: r) W) : Tab W := by
 obtain⟨ps,⟨g',t',cs,fuel,p,q,hg',ht',hvar,hd,_,_⟩,_⟩:=h;obtain rfl:=Option.some.inj (gTab.symm.trans hg');obtain rfl:=Option.some.inj (gTabType.symm.trans ht');obtain⟨xs,m,_,hx,hl,hlen,hf⟩:=DataW.trod_array Tryz.underlying223 hd;rw[cellsTab] at hl;simp only[cellsField] at hf
 match xs,hlen with
 | [x0,x1,x2],_ =>
  have f0:=hf 0 (by omega);have f1:=hf 1 (by omega);have f2:=hf 2 (by omega);simp only[Rows.laid_isthmus_pack_fields,List.map_cons,List.map_nil,Prod.mk.injEq,DataW.agg.injEq,List.cons.injEq,and_true] at hx;obtain⟨⟨e0,e1,e2⟩,_⟩:=hx;obtain⟨d0,p0⟩:=x0;obtain⟨d1,p1⟩:=x1;obtain⟨d2,p2⟩:=x2;simp only at e0 e1 e2;subst e0 e1 e2;have g0:=field_cellsR f0;have g1:=field_cellsR f1;have g2:=field_cellsR f2;obtain⟨l⟩:=cs
  match l,hl with
  | [v0,v1,v2,v3,v4,v5],_ =>
   simp at g0 g1 g2;obtain⟨rfl,rfl⟩:=g0;obtain⟨rfl,rfl⟩:=g1;obtain⟨rfl,rfl⟩:=g2;have hc:=fun i=>World.var?_cell gTab hvar i;have c0:=hc 0;have c1:=hc 1;have c2:=hc 2;have c3:=hc 3;have c4:=hc 4;have c5:=hc 5;simp at c0 c1 c2 c3 c4 c5;refine⟨c0,c1,c2,c3,c4,c5,?_⟩;by_cases hs:2<W.heap.size
   ·exact hs
   ·exfalso
    have:W.heap[2]?=none:=Array.getElem?_eq_none (by omega)
    simp[World.cell?,this] at c0
theorem gBar : Tryz.prog.globalNamed "isthmus/emit.bare" = some 0 := by kernel_rfl
theorem gBarType:(Tryz.prog.globals[0]?).map (·.type)=some 181:=by kernel_rfl
theorem cellsBar:Tryz.prog.cellsOf 181=25:=by kernel_rfl
def barL:List Int:=[0,0,0,0,0,0,4,5,6,7,8,9,10,0,0,0,0,0,0,0,0,0,20,0,22]
def barD:List (DataW Unit):=(List.range 25).map fun j=>.lit (.int .i64 (barL.getD j 0))
theorem barD_eq:(Rows.laid_isthmus_emit_bare:DataW Unit)=.agg barD:=by rfl
theorem bar_of_laid {W : World} {r : List (String × DataW Unit)} (h : laidMet Tryz.prog (("isthmus/emit.bare", Rows.laid_isthmus_emit_bare) :: r) W) : (∀ k : Nat, k < 25 → W.cell? ⟨0, k, none⟩ = some (.int .i64 (barL.getD k 0))) ∧ 0 < W.heap.size := by
 rw[barD_eq] at h;obtain⟨ps,⟨g',t',cs,fuel,p,q,hg',ht',hvar,hd,_,_⟩,_⟩:=h;obtain rfl:=Option.some.inj (gBar.symm.trans hg');obtain rfl:=Option.some.inj (gBarType.symm.trans ht');obtain⟨xs,m,_,hx,hl,hlen,hf⟩:=DataW.trod_array Tryz.underlying181 hd;rw[cellsBar] at hl;simp only[cellsInt,Nat.mul_one] at hf;simp only[Prod.mk.injEq,DataW.agg.injEq] at hx;have hc:=fun i=>World.var?_cell gBar hvar i;have key:∀ o,o<25->cs[o]?=some (.int .i64 (barL.getD o 0)):=fun o ho=>by
  have hfi:=hf o ho;have hxi:xs[o]?=some xs[o]:=List.getElem?_eq_getElem (by omega);rw[hxi] at hfi;obtain⟨z,c0,r0,_⟩:=DataW.trod_int Tryz.underlying3 hfi;have hd:(xs.map (·.1))[o]?=some (.lit (.int .i64 z)):=by rw[List.getElem?_map,hxi,r0];rfl
  rw[<-hx.1] at hd;unfold barD at hd;rw[List.getElem?_map,List.getElem?_range ho] at hd;simp only[Option.map_some,Option.some.injEq,DataW.lit.injEq,Lit.int.injEq,true_and] at hd;have h0:((cs.toList.drop o).take 1)[0]?=some (.int .i64 z):=by rw[c0];rfl
  simp only[List.getElem?_take,List.getElem?_drop] at h0;rw[hd];simpa using h0
 refine⟨fun o ho=>(hc o).trans (key o ho),?_⟩;by_cases hs:0<W.heap.size
 ·exact hs
 ·exfalso;have h0:=(hc 0).trans (key 0 (by omega))
  have:W.heap[0]?=none:=Array.getElem?_eq_none (by omega)
  simp[World.cell?,this] at h0
def bareA:Array Value:=((List.range 25).map fun j=>Value.int .i64 (barL.getD j 0)).toArray
theorem gRul : Tryz.prog.globalNamed "isthmus/code.rules" = some 1 := by kernel_rfl
theorem gRulType:(Tryz.prog.globals[1]?).map (·.type)=some 188:=by kernel_rfl
theorem cellsRul:Tryz.prog.cellsOf 188=56:=by kernel_rfl
theorem cellsRu1:Tryz.prog.cellsOf 187=2:=by kernel_rfl
def rulesD:List (DataW Unit):=(List.range 28).map fun j=>.agg [.lit (.int .i64 (rulA.getD j 0:Nat)),.lit (.int .i64 (rulB.getD j 0:Nat))]
theorem rulesD_eq:(Rows.laid_isthmus_code_rules:DataW Unit)=.agg rulesD:=by rfl
theorem rule_cells {W:World}{m:Nat}{l:List Value}{a b:Int}{p:List MemPlace}
  (h:DataW.trod (fun _=>()) Tryz.prog W 0 (fun _=>true) false m 187 l=some (.agg [.lit (.int .i64 a),.lit (.int .i64 b)],p)):l=[.int .i64 a,.int .i64 b]:=by
 obtain⟨y0,y1,n,hx,hl,h0,h1⟩:=trod_struct2 Tryz.underlying187 h;simp only[Prod.mk.injEq,DataW.agg.injEq,List.cons.injEq,and_true] at hx;obtain⟨⟨e0,e1⟩,_⟩:=hx;obtain⟨z0,c0,r0,_⟩:=DataW.trod_int Tryz.underlying3 h0;obtain⟨z1,c1,r1,_⟩:=DataW.trod_int Tryz.underlying3 h1;subst r0 r1;simp only[DataW.lit.injEq,Lit.int.injEq,true_and] at e0 e1;subst e0 e1;rw[cellsRu1] at hl;simp only[cellsInt] at c0 c1
 match l,hl with
 | [v0,v1],_ =>
  simp at c0 c1;rw[c0,c1]
theorem rul_of_laid {W : World} {r : List (String × DataW Unit)} (h : laidMet Tryz.prog (("isthmus/code.rules", Rows.laid_isthmus_code_rules) :: r) W) : Rul W := by
 rw[rulesD_eq] at h;obtain⟨ps,⟨g',t',cs,fuel,p,q,hg',ht',hvar,hd,_,_⟩,_⟩:=h;obtain rfl:=Option.some.inj (gRul.symm.trans hg');obtain rfl:=Option.some.inj (gRulType.symm.trans ht');obtain⟨xs,m,_,hx,hl,hlen,hf⟩:=DataW.trod_array Tryz.underlying188 hd;rw[cellsRul] at hl;simp only[cellsRu1] at hf;simp only[Prod.mk.injEq,DataW.agg.injEq] at hx;have hc:=fun i=>World.var?_cell gRul hvar i;have key:∀ o,o<28->cs[o*2]?=some (.int .i64 (rulA.getD o 0:Nat))/\cs[o*2+1]?=some (.int .i64 (rulB.getD o 0:Nat)):=fun o ho=>by
  have hfi:=hf o ho;have hxi:xs[o]?=some xs[o]:=List.getElem?_eq_getElem (by omega);rw[hxi] at hfi;have hd:(xs.map (·.1))[o]?=some (xs[o].1):=by rw[List.getElem?_map,hxi];rfl
  rw[<-hx.1] at hd;unfold rulesD at hd;rw[List.getElem?_map,List.getElem?_range ho] at hd;simp only[Option.map_some,Option.some.injEq] at hd;have g:=rule_cells (p:=xs[o].2) (hfi.trans (congrArg some (Prod.ext hd.symm rfl)));have h0:((cs.toList.drop (o*2)).take 2)[0]?=some (.int .i64 (rulA.getD o 0:Nat)):=by rw[g];rfl
  have h1:((cs.toList.drop (o*2)).take 2)[1]?=some (.int .i64 (rulB.getD o 0:Nat)):=by rw[g];rfl
  simp only[List.getElem?_take,List.getElem?_drop] at h0 h1;exact⟨by simpa using h0,by simpa using h1⟩
 refine⟨?_,fun o ho=>⟨(hc (o*2)).trans (key o ho).1,(hc (o*2+1)).trans (key o ho).2⟩⟩;by_cases hs:1<W.heap.size
 ·exact hs
 ·exfalso;have h0:=(hc (0*2)).trans (key 0 (by omega)).1
  have:W.heap[1]?=none:=Array.getElem?_eq_none (by omega)
  simp[World.cell?,this] at h0
theorem emtab_of_laidF {W : World} (h : laidMet Tryz.prog [("isthmus/pack.fields", Rows.laid_isthmus_pack_fields), ("isthmus/lex.words", Rows.laid_isthmus_lex_words), ("isthmus/code.rules", Rows.laid_isthmus_code_rules), ("isthmus/emit.bare", Rows.laid_isthmus_emit_bare)] W) : EmTab W := ⟨tab_of_laid2 h, (bar_of_laid h.tail.tail.tail).1, (bar_of_laid h.tail.tail.tail).2⟩
abbrev laidF : List (String × DataW Unit) := [("isthmus/pack.fields", Rows.laid_isthmus_pack_fields), ("isthmus/lex.words", Rows.laid_isthmus_lex_words), ("isthmus/code.rules", Rows.laid_isthmus_code_rules), ("isthmus/emit.bare", Rows.laid_isthmus_emit_bare)]
theorem fx_of_laidF {W:World}(h:laidMet Tryz.prog laidF W):Fx W:=⟨(emtab_of_laidF h).tab,rul_of_laid h.tail.tail,wd_of_laid h.tail⟩
def rulesA:Array Value:=((List.range 56).map fun j=>if j % 2=0 then Value.int .i64 (rulA.getD (j / 2) 0:Nat) else .int .i64 (rulB.getD (j / 2) 0:Nat)).toArray
def laidWorldF (P:Program)(os:Os):World :=
 let w0:=World.holding P os ⟨#[],#[],[]⟩
 { w0 with heap:=(((w0.heap.modify 2 (layCells #[.int .u64 56,.int .u64 255,.int .u64 28,.int .u64 268435455,.int .u64 0,.int .u64 268435455])).modify 3 (layCells wordsA)).modify 0 (layCells bareA)).modify 1 (layCells rulesA) }
theorem str_lit {s:ByteArray}{a:List UInt8}(h:s.data.toList=a):Value.string s=stv a:=by
 subst h;rfl
def rawP (n:Int)(nm:List UInt8)(a:Int)(len:Nat):Prop:=-9223372036854775808<=n/\n<=9223372036854775807/\nm.length<=maxLen/\-9223372036854775808<=a/\a<=9223372036854775807/\len<=maxLen
def Fs.raw:Fs->Prop
 | ⟨none⟩=>True
 | ⟨some ⟨_,n,nm,a,ks,r⟩⟩=>rawP n nm a ks.len/\ks.raw/\r.raw
def Ex.raw (e:Ex):Prop:=rawP e.n e.nm e.a e.kids.len/\e.kids.raw
theorem Fs.raw_wide:∀ {f:Fs},f.raw->f.wide
 | ⟨none⟩,h=>trivial
 | ⟨some ⟨k,n,nm,a,ks,r⟩⟩,h=>⟨h.1.2.2.2.2.2,Fs.raw_wide (f:=ks) h.2.1,Fs.raw_wide (f:=r) h.2.2⟩
theorem Fs.len_size':∀ (x:Fs),x.len<=x.size
 | ⟨none⟩=>Nat.le_refl _
 | ⟨some ⟨k,n,nm,a,ks,r⟩⟩=>by have:=Fs.len_size' r;show r.len+1<=ks.size+r.size+1;omega
theorem Fs.raw_fit:∀ {f:Fs},f.raw->f.size<=100000000->f.short/\f.rng
 | ⟨none⟩,h,hs=>⟨trivial,trivial⟩
 | ⟨some ⟨k,n,nm,a,ks,r⟩⟩,h,hs=>by
  have hs:ks.size+r.size+1<=100000000:=hs;have h1:=Fs.raw_fit (f:=ks) h.2.1 (by omega);have h2:=Fs.raw_fit (f:=r) h.2.2 (by omega)
  have:=Fs.len_size' ks
  exact⟨⟨h.1.2.2.1,by omega,h1.1,h2.1⟩,⟨h.1.1,h.1.2.1,h1.2,h2.2⟩⟩
theorem Ex.raw_fit {e:Ex}(h:e.raw)(hs:e.kids.size<=100000000):e.fit:=by
 obtain⟨h1,h2⟩:=Fs.raw_fit h.2 hs
 have:=Fs.len_size' e.kids
 exact⟨h.1.2.2.1,h1,by omega,h.1.1,h.1.2.1,h2⟩
theorem add_plain' (b off j:Nat):(⟨b,off,none⟩:Addr).add j=⟨b,off+j,none⟩:=by
 unfold Addr.add;split
 ·subst j;simp_all
 ·rfl
theorem cellsNd:Tryz.prog.cellsOf 34=4:=by kernel_rfl
theorem cellsNs:Tryz.prog.cellsOf 32=1:=by kernel_rfl
theorem cellsIs:Tryz.prog.cellsOf 35=1:=by kernel_rfl
theorem cellsPl:Tryz.prog.cellsOf 37=5:=by kernel_rfl
theorem open_node {H:Type}{enc:TypeId × Value->H}{W:World}{sp:Nat->Bool}{held:Bool}:∀ (fuel:Nat) (cs:List Value) (x:DataW H × List MemPlace),DataW.trod enc Tryz.prog W 0 sp held fuel 34 cs=some x->(∀ q ∈ x.2,q.block<W.heap.size) ->
  ∃(e:Ex) (ao:Option Addr) (cap:Nat),cs=[.int .i64 e.k,.int .i64 e.n,stv e.nm,.slice ao e.kids.len cap]/\SnA W e.kids ao/\e.raw:=by
 intro fuel
 induction fuel using Nat.strongRecOn with
 | _ fuel IH =>
 intro cs x h hlt;obtain⟨xs,k,hk,hxy,hl,hxl,hff⟩:=DataW.trod_struct Tryz.underlying34 h;rw[cellsNd] at hl
 match xs,hxl,cs,hl with
 | [y0,y1,y2,y3],_,[u0,u1,u2,u3],_ =>
  have g0:=hff 0 _ rfl;have g1:=hff 1 _ rfl;have g2:=hff 2 _ rfl;have g3:=hff 3 _ rfl;simp[cellsInt,cellsStr,cellsNs] at g0 g1 g2 g3;obtain⟨z0,e0,x0,w0⟩:=DataW.trod_int Tryz.underlying3 g0;obtain⟨z1,e1,x1,w1⟩:=DataW.trod_int Tryz.underlying3 g1;obtain⟨z2,e2,x2,w2⟩:=DataW.trod_string Tryz.underlying9 g2;simp at e0 e1 e2;have b1:=bd_i64 w1;have hz2:(z2.data.toList).length<=maxLen:=by rw[data_len];exact w2
  have hlt3:∀ q ∈ y3.2,q.block<W.heap.size:=fun q hq=>hlt q (by rw[hxy];simp[hq]);rcases DataW.trod_slice Tryz.underlying32 g3 with ⟨hs,_⟩|⟨a,len,cap,elems,rest,n,hn,hs,hx3,_,hlc,hcm,hel,hE,_,_⟩
  ·simp at hs;refine⟨⟨z0,z1,z2.data.toList,0,.nil⟩,none,0,?_,.inl rfl,⟨b1.1,b1.2,hz2,by show -9223372036854775808<=(0:Int);decide,by show (0:Int)<=9223372036854775807;decide,by show 0<=_;omega⟩,trivial⟩;rw[e0,e1,e2,hs,str_lit rfl];rfl
  ·simp at hs;obtain⟨b,off,spot⟩:=a;have each:∀ i,i<len->∃(e:Ex) (ak:Option Addr) (ck:Nat),spot=none/\b<W.heap.size/\(∀ j u,([.int .i64 e.k,.int .i64 e.n,stv e.nm,.slice ak e.kids.len ck]:List Value)[j]?=some u->W.cell? ⟨b,off+i*4+j,none⟩=some u)/\SnA W e.kids ak/\e.raw:=by
    intro i hi;have hEi:=hE i hi;rw[List.getElem?_eq_getElem (by omega),cellsNd] at hEi;obtain⟨cs',h1,h2⟩:=Option.bind_eq_some_iff.1 hEi;obtain⟨_,hlen,hcell⟩:=World.cells?_some h1;have hsub:∀ q ∈ (elems[i]'(by omega)).2,q.block<W.heap.size:=fun q hq=>hlt3 q (by
     rw[hx3];simp only[List.mem_append,List.mem_flatMap];exact .inr ⟨_,.inl (List.getElem_mem _),hq⟩)
    obtain⟨e,ak,ck,hcs,SK,hr⟩:=IH n (by omega) cs' _ h2 hsub;have hspot:spot=none:=by
     have hE0:=hE 0 (by omega);rw[List.getElem?_eq_getElem (by omega),cellsNd] at hE0;obtain⟨cs0,k1,k2⟩:=Option.bind_eq_some_iff.1 hE0;obtain⟨_,klen,kcell⟩:=World.cells?_some k1;have k3:=kcell 0 (by omega);rw[List.getElem?_eq_getElem (by omega)] at k3;simpa [Addr.add] using World.cell?_spot k3
    subst hspot;have hbl:b<W.heap.size:=hlt3 (.cell b off) (by
     rw[hx3];exact List.mem_append_left _ (MemPlace.mem_row.2 ⟨0,by rw[cellsNd];omega,by simp⟩))
    refine⟨e,ak,ck,rfl,hbl,fun j u hu=>?_,SK,hr⟩;rw[<-hcs] at hu;have hj:j<4:=by
     by_cases hj:j<4
     ·exact hj
     ·rw[List.getElem?_eq_none (by omega)] at hu;cases hu
    have:=hcell j hj
    rw[add_plain',add_plain',hu] at this;exact this
   have build:∀ m,m<=len->∃f:Fs,f.len=m/\f.raw/\(m=0\/spot=none/\b<W.heap.size)/\∃zs,(∀ j u,zs[j]?=some u->W.cell? ⟨b,off+(len-m)*4+j,none⟩=some u)/\FcN W (fun _=>True) f zs:=by
    intro m
    induction m with
    | zero=>intro _;exact⟨.nil,rfl,trivial,.inl rfl,[],fun j u hu=>by simp at hu,rfl⟩
    | succ m ih =>
     intro hm;obtain⟨f,f1,f2,_,zs,f3,f4⟩:=ih (by omega);obtain⟨e,ak,ck,s1,s2,s3,s4,s5⟩:=each (len-(m+1)) (by omega);refine⟨.cons e.k e.n e.nm e.a e.kids f,by show f.len+1=_;rw[f1],⟨s5.1,s5.2,f2⟩,.inr ⟨s1,s2⟩,.int .i64 e.k::.int .i64 e.n::stv e.nm::.slice ak e.kids.len ck::zs,fun j u hu=>?_,ak,ck,zs,rfl,s4,f4⟩;by_cases hj:j<4
     ·refine s3 j u ?_;rw[<-hu]
      match j,hj with
      | 0,_=>rfl
      | 1,_=>rfl
      | 2,_=>rfl
      | 3,_=>rfl
     ·obtain⟨i,rfl⟩:∃i,j=i+4:=⟨j-4,by omega⟩
      have:=f3 i u (by simpa using hu)
      rw[show off+(len-(m+1))*4+(i+4)=off+(len-m)*4+i by
       have:len-m=len-(m+1)+1:=by omega
       rw[this];omega]
      exact this
   obtain⟨f,f1,f2,f5,zs,f3,f4⟩:=build len (Nat.le_refl _);have hcm':len<=maxLen:=Nat.le_trans hlc hcm;refine⟨⟨z0,z1,z2.data.toList,0,f⟩,some ⟨b,off,spot⟩,cap,?_,?_,⟨b1.1,b1.2,hz2,by show -9223372036854775808<=(0:Int);decide,by show (0:Int)<=9223372036854775807;decide,by show f.len<=_;rw[f1];exact hcm'⟩,f2⟩
   ·show _=[Value.int .i64 z0,.int .i64 z1,stv z2.data.toList,.slice (some ⟨b,off,spot⟩) f.len cap];rw[e0,e1,e2,hs,str_lit rfl,f1]
   ·rcases f5 with h0|⟨rfl,hb⟩
    ·refine .inl ?_;rw[h0] at f1;cases f using Fs.on with
     | nil=>rfl
     | cons k n nm a ks r=>cases f1
    ·refine .inr ⟨b,off,zs,rfl,trivial,hb,fun j u hu=>?_,f4⟩
     have:=f3 j u hu
     rw[Nat.sub_self,Nat.zero_mul,Nat.add_zero] at this;exact this
def rawI (cells:List Int):Prop:=cells.length<=maxLen/\∀ c,c ∈ cells->-9223372036854775808<=c/\c<=9223372036854775807
theorem open_plan {H:Type}{enc:TypeId × Value->H}{W:World}{v:Value}{d:DataW H}{ps:List MemPlace}(h:DataW.Trod enc Tryz.prog W 0 (fun _=>true) true 37 v d ps)(hlt:∀ q ∈ ps,q.block<W.heap.size) :
  ∃(e:Ex) (ao:Option Addr) (cap:Nat) (cv:Value) (cells:List Int),v=plV e ao cap cv/\SnA W e.kids ao/\e.raw/\InA W cv cells/\rawI cells:=by
 obtain⟨fuel,hf⟩:=h;obtain⟨xs,k,hk,hxy,hl,hxl,hff⟩:=DataW.trod_struct Tryz.underlying37 hf;rw[cellsPl] at hl;obtain⟨cs,hcs⟩:∃cs,cs=v.cells.toList:=⟨_,rfl⟩
 rw[<-hcs] at hl hff
 match xs,hxl,cs,hl with
 | [y0,y1],_,[u0,u1,u2,u3,u4],_ =>
  have g0:=hff 0 _ rfl;have g1:=hff 1 _ rfl;simp[cellsNd,cellsIs] at g0 g1;have hp0:∀ q ∈ y0.2,q.block<W.heap.size:=fun q hq=>hlt q (by
   have h2:ps=[y0,y1].flatMap (·.2):=congrArg Prod.snd hxy;rw[h2];simp[hq])
  have hp1:∀ q ∈ y1.2,q.block<W.heap.size:=fun q hq=>hlt q (by
   have h2:ps=[y0,y1].flatMap (·.2):=congrArg Prod.snd hxy;rw[h2];simp[hq])
  obtain⟨e,ao,cap,hc4,S,R⟩:=open_node _ _ _ g0 hp0;obtain⟨cv,cells,hcv,IN,RI⟩:∃(cv:Value) (cells:List Int),u4=cv/\InA W cv cells/\rawI cells:=by
   rcases open_ints Tryz.underlying35 Tryz.underlying3 cellsInt g1 with ⟨hcs,hx⟩|⟨a,len',cap',zs,hcs,_,hl,hm,hz,hx,hcell,hwz⟩
   ·simp at hcs;exact⟨_,[],hcs,⟨none,0,rfl,.inl rfl⟩,by simp[rawI]⟩
   ·simp at hcs;simp only[if_true] at hz;refine⟨_,zs.take len',hcs,?_,by simp[rawI];exact⟨by omega,fun c hc=>by have:=bd_i64 (hwz c (List.mem_of_mem_take hc));omega⟩⟩;obtain⟨b,off,spot⟩:=a;refine⟨some ⟨b,off,spot⟩,cap',by simp;omega,?_⟩;by_cases h0:len'=0
    ·exact .inl (by simp[h0])
    ·refine .inr ?_;have hspot:spot=none:=by simpa [Addr.add] using World.cell?_spot (hcell 0 (by omega))
     subst hspot;have hbW:b<W.heap.size:=hp1 (.cell b off) (by
      rw[hx];exact MemPlace.mem_row.2 ⟨0,by omega,by simp⟩)
     refine⟨b,off,rfl,trivial,hbW,fun j x hj=>?_⟩;rw[List.getElem?_take] at hj;split at hj
     ·rename_i hjl
      have h3:=hcell j (by omega);rw[add_plain',List.getD_eq_getElem?_getD,hj] at h3;exact h3
     ·cases hj
  refine⟨e,ao,cap,cv,cells,?_,S,R,IN,RI⟩;subst hcv;have hcs':v.cells=#[.int .i64 e.k,.int .i64 e.n,stv e.nm,.slice ao e.kids.len cap,u4]:=by
   apply Array.toList_inj.1;rw[<-hcs];simp at hc4;obtain⟨rfl,rfl,rfl,rfl⟩:=hc4;rfl
  cases v with
  | agg cs=>rw[show (Value.agg cs).cells=cs from rfl] at hcs';rw[hcs'];rfl
  | _=>have h5:=congrArg Array.size hcs';simp[Value.cells] at h5
end Go.Proofs.YtkhgahljbpmfaaaGreatDoor
namespace Go.Proofs.YtkhgahljbpmfaaaGreatDoor.emitFits
open Go.ChangeShapes Go.WideShapes Go.ChangeAt Go.RowKit
open Go.ChangeMaps (open_string shut_string)
set_option linter.unusedVariables false
theorem contract (H:Type)(enc:TypeId × Value->H)(W:World)(base:Nat)(args:Array Value)(ds gs:List (DataW H))(before:List MemPlace)
  (hval:∀ (j:Nat) t v,Tryz.f6.params[j]?=some t->args[j]?=some v->Value.okWide Tryz.prog W .any base t v)
  (hW:DataW.Whole enc Tryz.prog Tryz.f6.params.toList Rows.emitFitsSpec.vars false W args.toList ds gs before)
  (hsz:(DataW.weightsEach Tryz.prog (Tryz.f6.params.toList++(OpenSpec.ofChange Rows.emitFitsSpec).bare.plain.varTypes Tryz.prog) (ds++gs)).all (·<=reachBytes)=true) (hL:laidMetH Tryz.prog Rows.emitFitsRow.laid W) :
  Calls Tryz.prog 6 args W fun e W'=>∃v,e=.returned v/\Rows.emitFitsSpec.post enc Tryz.prog Tryz.f6 false true false false W args v W':=by
 have hW':=hW;obtain⟨p,q,hA0,hV,rfl,hfz,hnd⟩:=hW;have hA:DataW.TrodAll enc Tryz.prog W 0 (fun _=>true) true Tryz.f6.params.toList args.toList ds p:=hA0;rw[Tryz.params6] at hA hval hsz;obtain⟨v0,vs0,d0,ds0,p0,q0,hargs,rfl,rfl,h0,r0⟩:=trodAll_cons hA;obtain⟨rfl,rfl,rfl⟩:=trodAll_nil r0;obtain rfl:args=#[v0]:=by cases args;simp_all
 obtain⟨rfl,rfl⟩:=trodVars_none hV;clear hA0;simp only[List.append_nil] at hW';have hlt0:∀ x ∈ p0,x.block<W.heap.size:=fun x hx=>by simpa using hW'.lt x (by simp[hx])
 obtain⟨e0,ao0,cap0,cv0,cells0,rfl,SX0,RX0,IC0,RI0⟩:=open_plan h0 hlt0;refine(emitFits_walk e0 ao0 cap0 cv0 cells0   W RX0.1.2.2.2.2.2 (Fs.raw_wide RX0.2) (fun h=>⟨⟨(Ex.raw_fit RX0 h).nm,(Ex.raw_fit RX0 h).len,(Ex.raw_fit RX0 h).sh⟩,⟨(Ex.raw_fit RX0 h).n1,(Ex.raw_fit RX0 h).n2⟩,(Ex.raw_fit RX0 h).rng⟩) SX0 IC0 RI0.1  (wd_of_laid hL.tail) (emtab_of_laidF hL) (fx_of_laidF hL)).mono fun e W' ⟨he,hnx⟩=>?_;subst he;exact⟨_,rfl,_,_,_,[],(p0++[]),[],hW',trodAll_cons_mk (shut_bool Tryz.underlying4 _) trodAll_mk0,(trodAll_cons_mk (Below.trod laidOut (by kernel_rfl) (of_decide_eq_true (by kernel_rfl)) h0 hnx hlt0) trodAll_mk0),rfl,hnx.frame _,fun h=>by cases h⟩
theorem laid_met (os:Os):laidMet Tryz.prog Rows.emitFitsRow.laid ((laidWorldF Tryz.prog os).forCall (fun _ _=>0) ⟨#[],#[.agg #[.int .i64 0,.int .i64 0,.string ByteArray.empty,.slice none 0 0,.slice none 0 0]],[]⟩).memory :=
 laidMet_of_run' 8 (by kernel_rfl) (by kernel_rfl)
theorem reads (os:Os){H:Type}(enc:TypeId × Value->H):∃places,DataW.whole enc Tryz.prog ((laidWorldF Tryz.prog os).forCall (fun _ _=>0) ⟨#[],#[.agg #[.int .i64 0,.int .i64 0,.string ByteArray.empty,.slice none 0 0,.slice none 0 0]],[]⟩).memory Tryz.f6.params.toList Rows.emitFitsSpec.vars false (#[.agg #[.int .i64 0,.int .i64 0,.string ByteArray.empty,.slice none 0 0,.slice none 0 0]]:Array Value).toList 8=some ([.agg [.agg [.lit (.int .i64 0),.lit (.int .i64 0),.lit (.string []),.nil],.nil]],[],places) :=
 ⟨[],by kernel_rfl⟩
theorem lifted (os:Os)(started:os.Started)(H:Type)(enc:TypeId × Value->H)(F:Stop.Interp) :
  ReturnsInHanded {} Tryz.checked os 6 .any ((OpenSpec.ofChange Rows.emitFitsSpec).preRow enc Tryz.prog Tryz.f6 Rows.emitFitsRow.domain false Rows.emitFitsRow.laid) (((OpenSpec.ofChange Rows.emitFitsSpec).at F).post enc Tryz.prog Tryz.f6 false true false false):=by
 obtain⟨places,hx⟩:=reads os enc;refine returnsInHanded_of_row (C:=Tryz.checked) (s:=OpenSpec.ofChange Rows.emitFitsSpec) ownK started (by kernel_rfl) Tryz.func6
  (witness_row_at (enc:=enc) (C:=Tryz.checked) false (laidWorldF Tryz.prog os) #[.agg #[.int .i64 0,.int .i64 0,.string ByteArray.empty,.slice none 0 0,.slice none 0 0]] rfl (by kernel_rfl) (by kernel_rfl) (by kernel_rfl)
   (OpenSpec.preRow_of_cond 8 hx (by kernel_rfl) (fun k hk=>by cases hk) (by kernel_rfl) (laid_met os))) ?_
 intro W base args ds gs before hval hW _ _ hsz hL _ _;exact contract H enc W base args ds gs before hval hW hsz hL
theorem facts:joinedFacts Tryz.pinned.checked.prog 6 Tryz.f6 (OpenSpec.ofChange Rows.emitFitsSpec).bare Rows.emitFitsRow=true:=by
 unfold joinedFacts;simp only[Bool.and_eq_true]
 repeat' apply And.intro
 all_goals (as_aux_lemma=>kernel_rfl)
end Go.Proofs.YtkhgahljbpmfaaaGreatDoor.emitFits

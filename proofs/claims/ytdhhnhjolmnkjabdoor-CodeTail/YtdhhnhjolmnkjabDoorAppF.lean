import Derived.Test.YtdhhnhjolmnkjabDoorCodB
import Derived.Lib.AppendStr
import Derived.Lib.SlBytesConst
set_option maxRecDepth 100000
set_option maxHeartbeats 8000000
namespace Go.Proofs.YtdhhnhjolmnkjabDoor
open Go.ChangeShapes Go.WideShapes Go.ChangeAt Go.RowKit
set_option linter.unusedVariables false
set_option linter.unusedSimpArgs false
structure Fx (w:World):Prop where
 tab:Tab w
 rul:Rul w
 wd:Wd w
theorem Fx.below {w w':World}(h:Fx w)(B:Below w.heap.size w w'):Fx w':=⟨h.tab.below B,h.rul.below B,h.wd.below B⟩
theorem wsV_at {l:List Int}{k:Nat}(h:k<l.length):(wsV l)[k]?=some (.int .u64 l[k]):=by
 simp[wsV,List.getElem?_eq_getElem h]
theorem isV_get {l:List Int}{k:Nat}(h:k<l.length):(isV l)[k]?=some (.int .i64 l[k]):=by
 simp[isV,List.getElem?_eq_getElem h]
theorem nsV_at {l:List ByteArray}{k:Nat}(h:k<l.length):(nsV l)[k]?=some (.string l[k]):=by
 simp[nsV,List.getElem?_eq_getElem h]
theorem all_next {α:Type}(f:α->Bool)(l:List α)(k:Nat)(h:k<l.length):(l.take (k+1)).all f=((l.take k).all f&&f l[k]):=by
 rw[List.take_succ_eq_append_getElem h,List.all_append];simp
theorem all_no {α:Type}(f:α->Bool)(l:List α)(k:Nat)(h:k<l.length)(hf:f l[k]=false):l.all f=false:=by
 rw[<-Bool.not_eq_true,List.all_eq_true];intro H
 have:=H _ (List.getElem_mem h)
 rw[hf] at this;cases this
abbrev bx4 (p:Pl)(c:Cd)(w:World)(b:Nat):Prop:=w.cell? ⟨b,0,none⟩=some (.slice p.aw c.ws.length p.cw)/\w.cell? ⟨b,1,none⟩=some (.slice p.ac c.cs.length p.cc)/\w.cell? ⟨b,2,none⟩=some (.slice p.an c.ns.length p.cn)/\w.cell? ⟨b,3,none⟩=some (.slice p.ak c.ks.length p.ck)
theorem bx4_below {p:Pl}{c:Cd}{w w':World}{b:Nat}(h:bx4 p c w b)(hb:b<w.heap.size)(B:Below w.heap.size w w'):bx4 p c w' b :=
 ⟨(B.cell (p:=⟨b,0,none⟩) hb).trans h.1,(B.cell (p:=⟨b,1,none⟩) hb).trans h.2.1,(B.cell (p:=⟨b,2,none⟩) hb).trans h.2.2.1,(B.cell (p:=⟨b,3,none⟩) hb).trans h.2.2.2⟩
theorem bx4_new (p:Pl)(c:Cd)(w:World):bx4 p c (w.alloc (.cells (cdA p c) 28)) w.heap.size:=box4_cells (box4 _ _ _ _ _ _)
theorem wordsRight_c (p:Pl)(c:Cd)(w:World)(hF:Fx w)(hC:CdW w p c) :
  Calls Tryd.prog 18 #[cdV p c] w fun e w'=>e=.returned (.bool (wdsB c))/\Below w.heap.size w w':=by
 obtain⟨w1,hw1⟩:∃w1,w1=w.alloc (.cells (cdA p c) 28):=⟨_,rfl⟩
 obtain⟨b0,hb0⟩:∃b0,b0=w.heap.size:=⟨_,rfl⟩
 have B1:Below w.heap.size w w1:=by rw[hw1];exact b1 _ _
 have K1:bx4 p c w1 b0:=by rw[hw1,hb0];exact bx4_new p c w
 have L1:b0<w1.heap.size:=by rw[hw1,hb0];simp
 have F1:=hF.below B1;have C1:=hC.below B1;have HB0:Hid (b0=w.heap.size):=hb0;clear hb0 hF hC;have hlw:=C1.lw;obtain⟨k0,k1,k2,k3⟩:=K1;by_cases h0:c.ws.length=0
 ·have fin:wdsB c=false:=by simp[wdsB,h0]
  rw[fin];have h0I:(c.ws.length:Int)=0:=by omega
  go_enter Tryd.func18,Tryd.ntmps18;go_wp2_with fail;rw[<-hw1,<-HB0.out];clear hw1;go_wp2;go_ret;exact⟨rfl,by first|(rw[HB0.out];exact B1)|exact B1⟩
 have h0I:¬(c.ws.length:Int)=0:=by omega
 by_cases h1:32768<c.ws.length
 ·have fin:wdsB c=false:=by
   have:decide (c.ws.length<=32768)=false:=by simp;omega
   unfold wdsB;rw[this];simp
  rw[fin];have h1I:(32768:Int)<(c.ws.length:Int):=by omega
  go_enter Tryd.func18,Tryd.ntmps18;go_wp2_with fail;rw[<-hw1,<-HB0.out];clear hw1;go_wp2;go_ret;exact⟨rfl,by first|(rw[HB0.out];exact B1)|exact B1⟩
 have h1I:¬(32768:Int)<(c.ws.length:Int):=by omega
 have fin:wdsB c=c.ws.all (wrdB c):=by
  have e1:decide (0<c.ws.length)=true:=by simp;omega
  have e2:decide (c.ws.length<=32768)=true:=by simp;omega
  unfold wdsB;rw[e1,e2];simp
 rw[fin];clear fin;go_enter Tryd.func18,Tryd.ntmps18;go_wp2_with fail;rw[<-hw1,<-HB0.out];clear hw1;go_wp2_with fail;go_loopw [18] (fun v wr=>∃k:Nat,v=.int .i64 (k:Nat)/\k<=c.ws.length/\Hid ((c.ws.take k).all (wrdB c)=true)/\Below w1.heap.size w1 wr) (fun v _=>c.ws.length-(intOf v).toNat)
 case atStart=>exact⟨0,by go_num,by omega,rfl,Below.refl _ _⟩
 case round =>
  obtain⟨k,rfl,hk,HA,BR⟩:=hrel;by_cases hlt:k<c.ws.length
  ·have hkI:(k:Int)<(c.ws.length:Int):=by omega
   have CR:=C1.below BR;have FR:=F1.below BR;obtain⟨q0,q1,q2,q3⟩:=bx4_below ⟨k0,k1,k2,k3⟩ L1 BR;obtain⟨wb,wo,haw,hwl,hcx⟩:=CR.ws.at (wsV_at hlt);have hu:=C1.ok.ws _ (List.getElem_mem hlt);have WR:=fun w1 F1 C1=>wordRight_c (c.ws[k]) hu.1 hu.2 p c w1 (Fx.tab F1) (Fx.rul F1) C1;have HN:Hid ((c.ws.take (k+1)).all (wrdB c)=wrdB c c.ws[k]):=by
    show _=_;rw[all_next _ _ _ hlt,HA.out,Bool.true_and]
   have HZ:Hid (wrdB c c.ws[k]=false->c.ws.all (wrdB c)=false):=all_no _ _ _ hlt;generalize wrdB c c.ws[k]=bb at WR HN HZ;generalize c.ws[k]=u at *;unfold cdV cdA at WR;rw[haw] at WR;clear k0 k1 k2 k3;rw[haw] at q0 ;cases bb
   ·have fin:=HZ.out rfl;rw[haw];go_wp2_with (go_at_call 30;refine(WR _ FR CR).mono ?_;rintro e w5 ⟨rfl,B6⟩);go_ret;exact⟨by first|rfl|(rw[fin];rfl),B1.trans ((BR.trans (B6.mono BR.size)).mono B1.size)⟩
   ·rw[haw];go_wp2_with (go_at_call 30;refine(WR _ FR CR).mono ?_;rintro e w5 ⟨rfl,B6⟩);go_roundw
    case rel=>(try ((repeat apply Exists.intro);refine⟨?_,rfl⟩));exact⟨k+1,by go_num,by omega,HN.out,BR.trans (B6.mono BR.size)⟩
    case measure=>simp[intOf];omega
  ·have hkI:¬(k:Int)<(c.ws.length:Int):=by omega
   have fin:c.ws.all (wrdB c)=true:=by
    have:=HA.out
    rw[List.take_of_length_le (by omega)] at this;exact this
   go_wp2;go_ret;exact⟨by first|rfl|(rw[fin];rfl),B1.trans (BR.mono B1.size)⟩
theorem listsRight_c (p:Pl)(c:Cd)(w:World)(hF:Fx w)(hC:CdW w p c) :
  Calls Tryd.prog 17 #[cdV p c] w fun e w'=>e=.returned (.bool (lstB c))/\Below w.heap.size w w':=by
 obtain⟨w1,hw1⟩:∃w1,w1=w.alloc (.cells (cdA p c) 28):=⟨_,rfl⟩
 obtain⟨b0,hb0⟩:∃b0,b0=w.heap.size:=⟨_,rfl⟩
 have B1:Below w.heap.size w w1:=by rw[hw1];exact b1 _ _
 have K1:bx4 p c w1 b0:=by rw[hw1,hb0];exact bx4_new p c w
 have L1:b0<w1.heap.size:=by rw[hw1,hb0];simp
 have F1:=hF.below B1;have C1:=hC.below B1;have HB0:Hid (b0=w.heap.size):=hb0;clear hb0 hF hC;have hlw:=C1.lw;have hlc:=C1.lc;have hln:=C1.ln;have hlk:=C1.lk;obtain⟨k0,k1,k2,k3⟩:=K1;cases hle:lenB c
 ·have fin:lstB c=false:=by simp[lstB,hle]
  rw[fin];have hx:(32768:Int)<(c.cs.length:Int)\/(¬(32768:Int)<(c.cs.length:Int)/\(2000:Int)<(c.ns.length:Int))\/(¬(32768:Int)<(c.cs.length:Int)/\¬(2000:Int)<(c.ns.length:Int)/\(256:Int)<(c.ks.length:Int)):=by
   have:¬(c.cs.length<=32768/\c.ns.length<=2000/\c.ks.length<=256):=fun ⟨h1,h2,h3⟩=>by simp[lenB,h1,h2,h3] at hle
   omega
  clear hle fin;rcases hx with x1|⟨x1,x2⟩|⟨x1,x2,x3⟩
  all_goals
   go_enter Tryd.func17,Tryd.ntmps17;go_wp2_with fail;rw[<-hw1,<-HB0.out];clear hw1;go_wp2;go_ret;exact⟨rfl,by first|(rw[HB0.out];exact B1)|exact B1⟩
 ·have hl3:c.cs.length<=32768/\c.ns.length<=2000/\c.ks.length<=256:=by simpa [lenB,and_assoc] using hle
  have fin:lstB c=(c.ns.all (fun s=>nameB s.data.toList)&&c.ks.all kndB):=by simp[lstB,hle]
  rw[fin];clear fin hle;have x1:¬(32768:Int)<(c.cs.length:Int):=by omega
  have x2:¬(2000:Int)<(c.ns.length:Int):=by omega
  have x3:¬(256:Int)<(c.ks.length:Int):=by omega
  obtain⟨NB,hNB⟩:∃NB:Bool,NB=c.ns.all (fun s=>nameB s.data.toList):=⟨_,rfl⟩
  obtain⟨KB,hKB⟩:∃KB:Bool,KB=c.ks.all kndB:=⟨_,rfl⟩
  rw[<-hNB,<-hKB];have HNB:=Lib.hid hNB;have HKB:=Lib.hid hKB;clear hNB hKB;go_enter Tryd.func17,Tryd.ntmps17;go_wp2_with fail;rw[<-hw1,<-HB0.out];clear hw1;go_wp2_with fail;go_loopw [26] (fun v wr=>∃k:Nat,v=.int .i64 (k:Nat)/\k<=c.ns.length/\Hid ((c.ns.take k).all (fun s=>nameB s.data.toList)=true)/\Below w1.heap.size w1 wr) (fun v _=>c.ns.length-(intOf v).toNat)
  case atStart=>exact⟨0,by go_num,by omega,rfl,Below.refl _ _⟩
  case round =>
   obtain⟨k,rfl,hk,HA,BR⟩:=hrel;by_cases hlt:k<c.ns.length
   ·have hkI:(k:Int)<(c.ns.length:Int):=by omega
    have CR:=C1.below BR;have FR:=F1.below BR;obtain⟨q0,q1,q2,q3⟩:=bx4_below ⟨k0,k1,k2,k3⟩ L1 BR;obtain⟨wb,wo,haw,hwl,hcx⟩:=CR.ns.at (nsV_at hlt);have hu:=C1.ok.ns _ (List.getElem_mem hlt);have WR:=fun w=>name_c (c.ns[k]) w;have HN:Hid ((c.ns.take (k+1)).all (fun s=>nameB s.data.toList)=nameB (c.ns[k]).data.toList):=by
     show _=_;rw[all_next _ _ _ hlt,HA.out,Bool.true_and]
    have HZ:Hid (nameB (c.ns[k]).data.toList=false->NB=false):=fun h=>by rw[HNB.out];exact all_no _ _ _ hlt h
    generalize nameB (c.ns[k]).data.toList=bb at WR HN HZ;generalize c.ns[k]=u at *;clear k0 k1 k2 k3;cases bb
    ·have fin:=HZ.out rfl;rw[haw];go_wp2_with (go_at_call 28;refine(WR _ FR.wd hu).mono ?_;rintro e w5 ⟨rfl,B6⟩);go_ret;exact⟨by first|rfl|(rw[fin];rfl),B1.trans ((BR.trans (B6.mono BR.size)).mono B1.size)⟩
    ·rw[haw];go_wp2_with (go_at_call 28;refine(WR _ FR.wd hu).mono ?_;rintro e w5 ⟨rfl,B6⟩);go_roundw
     case rel=>(try ((repeat apply Exists.intro);refine⟨?_,rfl⟩));exact⟨k+1,by go_num,by omega,HN.out,BR.trans (B6.mono BR.size)⟩
     case measure=>simp[intOf];omega
   ·have hkI:¬(k:Int)<(c.ns.length:Int):=by omega
    have fin:NB=true:=by
     have:=HA.out
     rw[List.take_of_length_le (by omega)] at this;rw[HNB.out];exact this
    have CW:=C1.below BR;have FW:=F1.below BR;have QW:=bx4_below ⟨k0,k1,k2,k3⟩ L1 BR;have LW:=Nat.lt_of_lt_of_le L1 BR.size;have BW:=B1.trans (BR.mono B1.size);subst fin;clear k0 k1 k2 k3 HA HNB hlt;obtain⟨k0,k1,k2,k3⟩:=QW;go_wp2_with fail;go_loopw [37] (fun v ws=>∃j:Nat,v=.int .i64 (j:Nat)/\j<=c.ks.length/\Hid ((c.ks.take j).all kndB=true)/\Below wr.heap.size wr ws) (fun v _=>c.ks.length-(intOf v).toNat)
    case atStart=>exact⟨0,by go_num,by omega,rfl,Below.refl _ _⟩
    case round =>
     rename_i ws
     obtain⟨j,rfl,hj,HA,BS⟩:=hrel;by_cases hlt:j<c.ks.length
     ·have hjI:(j:Int)<(c.ks.length:Int):=by omega
      have CS:=CW.below BS;obtain⟨q0,q1,q2,q3⟩:=bx4_below ⟨k0,k1,k2,k3⟩ LW BS;obtain⟨wb,wo,haw,hwl,hcx⟩:=CS.ks.at (isV_get hlt);have WR:=fun w=>may_c 7 (by omega) (c.ks[j]) p c w hlc hln hlk;have e7:mayB c 7 (c.ks[j])=kndB (c.ks[j]):=rfl;rw[e7] at WR;have HN:Hid ((c.ks.take (j+1)).all kndB=kndB (c.ks[j])):=by
       show _=_;rw[all_next _ _ _ hlt,HA.out,Bool.true_and]
      have HZ:Hid (kndB (c.ks[j])=false->KB=false):=fun h=>by rw[HKB.out];exact all_no _ _ _ hlt h
      clear e7;generalize kndB (c.ks[j])=bb at WR HN HZ;generalize c.ks[j]=u at *;unfold cdV cdA at WR;rw[haw] at WR;clear k0 k1 k2 k3;rw[haw] at q3;cases bb
      ·have fin:=HZ.out rfl;rw[haw];go_wp2_with (go_at_call 29;refine(WR _).mono ?_;rintro e w5 ⟨rfl,B6⟩);go_ret;exact⟨by first|rfl|(rw[fin];rfl),BW.trans ((BS.trans (B6.mono BS.size)).mono BW.size)⟩
      ·rw[haw];go_wp2_with (go_at_call 29;refine(WR _).mono ?_;rintro e w5 ⟨rfl,B6⟩);go_roundw
       case rel=>(try ((repeat apply Exists.intro);refine⟨?_,rfl⟩));exact⟨j+1,by go_num,by omega,HN.out,BS.trans (B6.mono BS.size)⟩
       case measure=>simp[intOf];omega
     ·have hjI:¬(j:Int)<(c.ks.length:Int):=by omega
      have fin:KB=true:=by
       have:=HA.out
       rw[List.take_of_length_le (by omega)] at this;rw[HKB.out];exact this
      go_wp2;go_ret;exact⟨by first|rfl|(rw[fin];rfl),BW.trans (BS.mono BW.size)⟩
theorem right_c (p:Pl)(c:Cd)(w:World)(hF:Fx w)(hC:CdW w p c) :
  Calls Tryd.prog 9 #[cdV p c] w fun e w'=>e=.returned (.bool (rgtB c))/\Below w.heap.size w w':=by
 obtain⟨w1,hw1⟩:∃w1,w1=w.alloc (.cells (cdA p c) 28):=⟨_,rfl⟩
 obtain⟨b0,hb0⟩:∃b0,b0=w.heap.size:=⟨_,rfl⟩
 have B1:Below w.heap.size w w1:=by rw[hw1];exact b1 _ _
 have K1:bx4 p c w1 b0:=by rw[hw1,hb0];exact bx4_new p c w
 have L1:b0<w1.heap.size:=by rw[hw1,hb0];simp
 have F1:=hF.below B1;have C1:=hC.below B1;have HB0:Hid (b0=w.heap.size):=hb0;clear hb0 hF hC;obtain⟨k0,k1,k2,k3⟩:=K1;have R1:=listsRight_c p c w1 F1 C1;have fin:rgtB c=(lstB c&&wdsB c):=rfl;rw[fin];cases hl:lstB c
 ·rw[hl] at R1;rw[Bool.false_and];go_enter Tryd.func9,Tryd.ntmps9;go_wp2_with fail;rw[<-hw1,<-HB0.out];clear hw1;go_wp2_with (go_at_call 17;refine R1.mono ?_;rintro e w2 ⟨rfl,B2⟩);go_ret;exact⟨rfl,by first|(rw[HB0.out];exact B1.trans (B2.mono B1.size))|exact B1.trans (B2.mono B1.size)⟩
 ·rw[hl] at R1;rw[Bool.true_and];have R2:=fun w2 F2 C2=>wordsRight_c p c w2 F2 C2;generalize wdsB c=X at R2;go_enter Tryd.func9,Tryd.ntmps9;go_wp2_with fail;rw[<-hw1,<-HB0.out];clear hw1;go_wp2_with (first|(go_at_call 17;refine R1.mono ?_;rintro e w2 ⟨rfl,B2⟩;have F2:=F1.below B2;have C2:=C1.below B2;obtain⟨q0,q1,q2,q3⟩:=bx4_below ⟨k0,k1,k2,k3⟩ L1 B2)|(go_at_call 18;refine(R2 _ F2 C2).mono ?_;rintro e w3 ⟨rfl,B3⟩));go_ret;exact⟨rfl,by first|(rw[HB0.out];exact B1.trans ((B2.trans (B3.mono B2.size)).mono B1.size))|exact B1.trans ((B2.trans (B3.mono B2.size)).mono B1.size)⟩
theorem run_append_where_str {P:Program}(w:World)(t u ty e:TypeId)(i:TypeInfo)(ht:P.underlying t=some (.slice e))(hu:P.underlying u=some .string)(hi:P.info? e=some i)(hz:i.zero=some (.int .u8 0))
  (hsize:i.size=1) (hby:i.bytes=1) (v:Value) (n:Nat) (xs:List Value) (hown:w.ownsRow 0 e 1 v n xs) (s:ByteArray) (h63:n+s.size<=maxLen) (hbytes:n+s.size<=140737488355328) :
  ∃v' w',(Builtin.append_ #[t,u] ty #[v,.string s]).run P w=.ok v' w'/\w'.ownsRow 0 e 1 v' (n+s.size) (xs++Go.Lib.strCells s)/\w.grownBy w' v.ownBlock /\
   (v'.ownBlock=v.ownBlock\/∃k,v'.ownBlock=some k/\w.heap.size<=k):=by
 obtain⟨v',w',hr,ho,hg,h4⟩:=Go.Lib.run_append_own_string (P:=P) w 0 t u ty e i ht hu hi hz hsize hby v n xs hown s h63 hbytes (Nat.zero_le _);refine⟨v',w',hr,ho,hg,?_⟩;have h63':n+s.size<=9223372036854775807:=by simp only[maxLen] at h63;omega
 rcases hown.2 with ⟨rfl,rfl⟩|⟨g,cap,cur,rfl,hbg,hgb,hnc,hcm,hcs,htake⟩
 ·by_cases hm:s.size=0
  ·have h5:=h4.2 ⟨rfl,hm⟩;subst h5;exact .inl rfl
  ·have hr':=run_append_nil_string (P:=P) w t u ty e i (.int .u8 0) ht hu hi hz s (by omega) (by omega) (by rw[hby];omega);rw[hr'] at hr;injection hr with e1 e2
   subst e1;exact .inr ⟨_,rfl,Nat.le_refl _⟩
 ·by_cases hroom:n+s.size<=cap
  ·have hcs':cur.size=cap:=by simpa using hcs
   have hr':=Go.Lib.run_append_room_string (P:=P) w t u ty e i ht hu hi hsize g n cap cur hgb s hroom (by omega);rw[hr'] at hr;injection hr with e1 e2
   subst e1;exact .inl rfl
  ·have holds:∀ j u,xs[j]?=some u->w.cell? ((⟨g,0,none⟩:Addr).add j)=some u:=hown.cells (g:=g) rfl;have hr':=Go.Lib.run_append_grow_string (P:=P) w t u ty e i (.int .u8 0) ht hu hi hz ⟨g,0,none⟩ n cap xs (by rw[hsize];simpa using hown.1) holds s (by omega) (by omega) (by rw[hby];exact growslice_fits (by omega) (by omega));rw[hr'] at hr;injection hr with e1 e2
   subst e1;exact .inr ⟨_,rfl,Nat.le_refl _⟩
theorem wpList_append_str {P:Program}{w:World}{ops:Array Oper}{rest:List Oper}{op:Oper}{a:Act}{Q:Exit->Act->World->Prop}(hgd:op.guard=none)(sl x:Operand)(t u:TypeId)
  (ho:op.op=.call { callee:=.builtin .append,args:=#[sl,x],argTypes:=#[t,u] })
  (e:TypeId) (i:TypeInfo) (ht:P.underlying t=some (.slice e)) (hu:P.underlying u=some .string) (hi:P.info? e=some i) (hz:i.zero=some (.int .u8 0)) (hsize:i.size=1) (hby:i.bytes=1)
  (o:Nat->Nat) (lb:Nat) (v:Value) (n:Nat) (xs:List Value) (hs:a.eval sl=v) (hrow:Row w o lb e 1 v n xs) (s:ByteArray) (hx:a.eval x=.string s) (h63:n+s.size<=maxLen) (hbytes:n+s.size<=140737488355328)
  (h:∀ v' w' o',Row w' o' lb e 1 v' (n+s.size) (xs++Go.Lib.strCells s)->Step (fun k=>k=lb) w o w' o'->wpList P ops Q rest (a.put op.dst v') w'):wpList P ops Q (op::rest) a w:=by
 refine wpList_plain hgd fun _ hK=>?_;obtain⟨v',w',hr,h2,h3,h4⟩:=run_append_where_str (P:=P) w t u op.type e i ht hu hi hz hsize hby v n xs hrow.1 s h63 hbytes;unfold Oper.wp execOp;simp only[ho,resolve,invoke,builtin,Sem.run_bind,Sem.run_pure,Result.andThen_ok,List.map_toArray,List.map_cons,List.map_nil,hs,hx,hr];have hst:Step (fun k=>k=lb) w o w' (newLab w o lb):=Step.appended h3 rfl hrow.2;have hrow':Row w' (newLab w o lb) lb e 1 v' (n+s.size) (xs++Go.Lib.strCells s):=by
  refine⟨h2,fun k hk=>?_⟩;rcases h4 with h4|⟨k',h4,hk'⟩
  ·rw[h4] at hk;rw[newLab_old (hrow.lt hk)];exact hrow.2 k hk
  ·rw[h4] at hk;injection hk with hk
   subst hk;exact newLab_new hk'
 exact hK _ _ (h v' w' _ hrow' hst)
def byL (t:List UInt8):List Value:=t.map fun b=>Value.int .u8 b.toNat
theorem byL_app (s t:List UInt8):byL s++Go.Lib.strCells ⟨t.toArray⟩=byL (s++t):=by simp[byL,Go.Lib.strCells]
theorem size_mk (t:List UInt8):(ByteArray.mk t.toArray).size=t.length:=by simp[ByteArray.size]
theorem infoU8:(Tryd.prog.info? 5).map (fun i=>(i.zero,i.size,i.bytes))=some (some (.int .u8 0),1,1):=by kernel_rfl
theorem Step.ofBelow {I:Nat->Prop}{w w':World}(o:Nat->Nat)(h:Below w.heap.size w w'):Step I w o w' o:=⟨h.os,h.tape,h.output,h.size,fun _ _=>rfl,fun k hk _=>h.block k hk⟩
theorem run_append_full_str {P:Program}(w:World)(t u ty e:TypeId)(i:TypeInfo)(ht:P.underlying t=some (.slice e))(hu:P.underlying u=some .string)(hi:P.info? e=some i)(hz:i.zero=some (.int .u8 0))
  (hsize:i.size=1) (hby:i.bytes=1) (g n:Nat) (xs:List Value) (hxl:xs.length=n) (holds:∀ j v,xs[j]?=some v->w.cell? ⟨g,j,none⟩=some v) (s:ByteArray) (h0:0<s.size) (h63:n+s.size<=maxLen) (hbytes:n+s.size<=140737488355328) :
  ∃v' w',(Builtin.append_ #[t,u] ty #[.slice (some ⟨g,0,none⟩) n n,.string s]).run P w=.ok v' w'/\w'.ownsRow 0 e 1 v' (n+s.size) (xs++Go.Lib.strCells s)/\w.grownBy w' none /\
   ∃k,v'.ownBlock=some k/\w.heap.size<=k:=by
 have hsmall:n+s.size<=9223372036854775807:=by simp only[maxLen] at h63;omega
 have hlen:(xs++Go.Lib.strCells s).length=(n+s.size)*1:=by rw[List.length_append,hxl,Go.Lib.strCells_length,Nat.mul_one]
 have hr:=Go.Lib.run_append_grow_string (P:=P) w t u ty e i (.int .u8 0) ht hu hi hz ⟨g,0,none⟩ n n xs (by rw[hsize];simpa using hxl) (fun j v hj=>by rw[Addr.add_mid,Nat.zero_add];exact holds j v hj) s (by omega) (by omega) (by rw[hby];exact growslice_fits (by omega) (by omega));have hge:=grownCap_ge w (n+s.size) n e;have hcm:grownCap w (n+s.size) n e<=maxLen:=grownCap_le_maxLen w (n+s.size) n e h63;refine⟨_,_,hr,⟨hlen,.inr ⟨w.heap.size,_,_,rfl,Nat.zero_le _,heap_alloc_new w.drew _,hge,hcm,?_,?_⟩⟩,⟨rfl,rfl,rfl,by simp,fun k hk _=>Below.heap_alloc w.drew _ k hk⟩,_,rfl,Nat.le_refl _⟩
 ·have hz1:(Value.int IntKind.u8 0).cells.size=1:=rfl;simp only[Array.size_append,List.size_toArray,size_zeroCells,hz1,hxl,Go.Lib.strCells_length];omega
 ·simp only[Array.toList_append,List.append_assoc];rw[<-List.append_assoc,<-hlen];exact List.take_left
def RwB (w:World)(o:Nat->Nat)(v:Value)(t:List UInt8):Prop:=Row w o 1 5 1 v t.length (byL t)
def SrB (w:World)(o:Nat->Nat)(v:Value)(t:List UInt8):Prop :=
 RwB w o v t\/∃g,v=.slice (some ⟨g,0,none⟩) t.length t.length/\g<w.heap.size/\∀ j u,(byL t)[j]?=some u->w.cell? ⟨g,j,none⟩=some u
theorem SrB.below {w w':World}{o:Nat->Nat}{v:Value}{t:List UInt8}(h:SrB w o v t)(B:Below w.heap.size w w'):SrB w' o v t:=by
 rcases h with h|⟨g,h1,h2,h3⟩
 ·exact .inl (Row.step h (Step.ofBelow (I:=fun _=>False) o B) (fun h=>h))
 ·exact .inr ⟨g,h1,Nat.lt_of_lt_of_le h2 B.size,fun j u hj=>(B.cell (p:=⟨g,j,none⟩) h2).trans (h3 j u hj)⟩
theorem wpList_append_src {w:World}{ops:Array Oper}{rest:List Oper}{op:Oper}{a:Act}{Q:Exit->Act->World->Prop}(hgd:op.guard=none)(sl x:Operand)
  (ho:op.op=.call { callee:=.builtin .append,args:=#[sl,x],argTypes:=#[40,9] })
  (o:Nat->Nat) (v:Value) (t:List UInt8) (hs:a.eval sl=v) (hrow:SrB w o v t) (s:List UInt8) (hx:a.eval x=.string ⟨s.toArray⟩) (h0:0<s.length) (h63:t.length+s.length<=maxLen) (hbytes:t.length+s.length<=140737488355328)
  (h:∀ v' w' o',RwB w' o' v' (t++s)->Step (fun k=>k=1) w o w' o'->wpList Tryd.prog ops Q rest (a.put op.dst v') w'):wpList Tryd.prog ops Q (op::rest) a w:=by
 obtain⟨i,hi,hz,hsize,hby⟩:=info_parts infoU8;have hz':(⟨s.toArray⟩:ByteArray).size=s.length:=size_mk _;refine wpList_plain hgd fun _ hK=>?_;have key:∃v' w' row,(Builtin.append_ #[40,9] op.type #[v,.string ⟨s.toArray⟩]).run Tryd.prog w=.ok v' w'/\w'.ownsRow 0 5 1 v' (t.length+s.length) (byL t++Go.Lib.strCells ⟨s.toArray⟩)/\w.grownBy w' row /\
   (∀ k,row=some k->o k=1)/\(∀ k,v'.ownBlock=some k->(k<w.heap.size/\o k=1)\/w.heap.size<=k):=by
  rcases hrow with hR|⟨g,rfl,hg,hc⟩
  ·have:=run_append_where_str (P:=Tryd.prog) w 40 9 op.type 5 i Tryd.underlying40 Tryd.underlying9 hi hz hsize hby v t.length (byL t) hR.1 ⟨s.toArray⟩ (by rw[hz'];exact h63) (by rw[hz'];exact hbytes)
   rw[hz'] at this;obtain⟨v',w',h1,h2,h3,h4⟩:=this;refine⟨v',w',_,h1,h2,h3,hR.2,fun k hk=>?_⟩;rcases h4 with h4|⟨k',h4,h5⟩
   ·rw[h4] at hk;exact .inl ⟨Row.lt hR hk,hR.2 k hk⟩
   ·rw[h4] at hk;injection hk with hk
    subst hk;exact .inr h5
  ·have:=run_append_full_str (P:=Tryd.prog) w 40 9 op.type 5 i Tryd.underlying40 Tryd.underlying9 hi hz hsize hby g t.length (byL t) (by simp[byL]) hc ⟨s.toArray⟩ (by rw[hz'];exact h0) (by rw[hz'];exact h63) (by rw[hz'];exact hbytes)
   rw[hz'] at this;obtain⟨v',w',h1,h2,h3,k',h4,h5⟩:=this;refine⟨v',w',_,h1,h2,h3,fun k hk=>by (cases hk),fun k hk=>?_⟩;rw[h4] at hk;injection hk with hk
   subst hk;exact .inr h5
 obtain⟨v',w',row,hr,h2,h3,h4,h5⟩:=key;unfold Oper.wp execOp;simp only[ho,resolve,invoke,builtin,Sem.run_bind,Sem.run_pure,Result.andThen_ok,List.map_toArray,List.map_cons,List.map_nil,hs,hx,hr];have hst:Step (fun k=>k=1) w o w' (newLab w o 1):=Step.appended h3 rfl h4;have hrow':RwB w' (newLab w o 1) v' (t++s):=by
  unfold RwB;rw[<-byL_app,List.length_append];refine⟨h2,fun k hk=>?_⟩;rcases h5 k hk with ⟨g1,g2⟩|g1
  ·rw[newLab_old g1];exact g2
  ·exact newLab_new g1
 exact hK _ _ (h v' w' _ hrow' hst)
end Go.Proofs.YtdhhnhjolmnkjabDoor

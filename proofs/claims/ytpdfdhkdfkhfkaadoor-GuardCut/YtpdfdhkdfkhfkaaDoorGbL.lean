import Derived.Test.YtpdfdhkdfkhfkaaDoorCodB
import Derived.Lib.AppendStr
import Derived.Deep.MidRow
set_option maxRecDepth 100000
set_option maxHeartbeats 8000000
namespace Go.Proofs.YtpdfdhkdfkhfkaaDoor
open Go.ChangeShapes Go.WideShapes Go.ChangeAt Go.RowKit
set_option linter.unusedVariables false
set_option linter.unusedSimpArgs false
structure Fx (w:World):Prop where
 tab:Tab w
 rul:Rul w
 wd:Wd w
theorem Fx.below {w w':World}(h:Fx w)(B:Below w.heap.size w w'):Fx w':=⟨h.tab.below B,h.rul.below B,h.wd.below B⟩
theorem wsV_at {l:List Int}{k:Nat}(h:k<l.length):(wsV l)[k]?=some (.int .u64 l[k]):=by
 simp[wsV,List.getElem?_eq_getElem h]
theorem isV_get {l:List Int}{k:Nat}(h:k<l.length):(isV l)[k]?=some (.int .i64 l[k]):=by
 simp[isV,List.getElem?_eq_getElem h]
theorem nsV_at {l:List ByteArray}{k:Nat}(h:k<l.length):(nsV l)[k]?=some (.string l[k]):=by
 simp[nsV,List.getElem?_eq_getElem h]
theorem all_next {α:Type}(f:α->Bool)(l:List α)(k:Nat)(h:k<l.length):(l.take (k+1)).all f=((l.take k).all f&&f l[k]):=by
 rw[List.take_succ_eq_append_getElem h,List.all_append];simp
theorem all_no {α:Type}(f:α->Bool)(l:List α)(k:Nat)(h:k<l.length)(hf:f l[k]=false):l.all f=false:=by
 rw[<-Bool.not_eq_true,List.all_eq_true];intro H
 have:=H _ (List.getElem_mem h)
 rw[hf] at this;cases this
abbrev bx4 (p:Pl)(c:Cd)(w:World)(b:Nat):Prop:=w.cell? ⟨b,0,none⟩=some (.slice p.aw c.ws.length p.cw)/\w.cell? ⟨b,1,none⟩=some (.slice p.ac c.cs.length p.cc)/\w.cell? ⟨b,2,none⟩=some (.slice p.an c.ns.length p.cn)/\w.cell? ⟨b,3,none⟩=some (.slice p.ak c.ks.length p.ck)
theorem bx4_below {p:Pl}{c:Cd}{w w':World}{b:Nat}(h:bx4 p c w b)(hb:b<w.heap.size)(B:Below w.heap.size w w'):bx4 p c w' b :=
 ⟨(B.cell (p:=⟨b,0,none⟩) hb).trans h.1,(B.cell (p:=⟨b,1,none⟩) hb).trans h.2.1,(B.cell (p:=⟨b,2,none⟩) hb).trans h.2.2.1,(B.cell (p:=⟨b,3,none⟩) hb).trans h.2.2.2⟩
theorem bx4_new (p:Pl)(c:Cd)(w:World):bx4 p c (w.alloc (.cells (cdA p c) 26)) w.heap.size:=box4_cells (box4 _ _ _ _ _ _)
theorem wordsRight_c (p:Pl)(c:Cd)(w:World)(hF:Fx w)(hC:CdW w p c) :
  Calls Tryd.prog 35 #[cdV p c] w fun e w'=>e=.returned (.bool (wdsB c))/\Below w.heap.size w w':=by
 obtain⟨w1,hw1⟩:∃w1,w1=w.alloc (.cells (cdA p c) 26):=⟨_,rfl⟩
 obtain⟨b0,hb0⟩:∃b0,b0=w.heap.size:=⟨_,rfl⟩
 have B1:Below w.heap.size w w1:=by rw[hw1];exact b1 _ _
 have K1:bx4 p c w1 b0:=by rw[hw1,hb0];exact bx4_new p c w
 have L1:b0<w1.heap.size:=by rw[hw1,hb0];simp
 have F1:=hF.below B1;have C1:=hC.below B1;have HB0:Hid (b0=w.heap.size):=hb0;clear hb0 hF hC;have hlw:=C1.lw;obtain⟨k0,k1,k2,k3⟩:=K1;by_cases h0:c.ws.length=0
 ·have fin:wdsB c=false:=by simp[wdsB,h0]
  rw[fin];have h0I:(c.ws.length:Int)=0:=by omega
  go_enter Tryd.func35,Tryd.ntmps35;go_wp2_with fail;rw[<-hw1,<-HB0.out];clear hw1;go_wp2;go_ret;exact⟨rfl,by first|(rw[HB0.out];exact B1)|exact B1⟩
 have h0I:¬(c.ws.length:Int)=0:=by omega
 by_cases h1:32768<c.ws.length
 ·have fin:wdsB c=false:=by
   have:decide (c.ws.length<=32768)=false:=by simp;omega
   unfold wdsB;rw[this];simp
  rw[fin];have h1I:(32768:Int)<(c.ws.length:Int):=by omega
  go_enter Tryd.func35,Tryd.ntmps35;go_wp2_with fail;rw[<-hw1,<-HB0.out];clear hw1;go_wp2;go_ret;exact⟨rfl,by first|(rw[HB0.out];exact B1)|exact B1⟩
 have h1I:¬(32768:Int)<(c.ws.length:Int):=by omega
 have fin:wdsB c=c.ws.all (wrdB c):=by
  have e1:decide (0<c.ws.length)=true:=by simp;omega
  have e2:decide (c.ws.length<=32768)=true:=by simp;omega
  unfold wdsB;rw[e1,e2];simp
 rw[fin];clear fin;go_enter Tryd.func35,Tryd.ntmps35;go_wp2_with fail;rw[<-hw1,<-HB0.out];clear hw1;go_wp2_with fail;go_loopw [18] (fun v wr=>∃k:Nat,v=.int .i64 (k:Nat)/\k<=c.ws.length/\Hid ((c.ws.take k).all (wrdB c)=true)/\Below w1.heap.size w1 wr) (fun v _=>c.ws.length-(intOf v).toNat)
 case atStart=>exact⟨0,by go_num,by omega,rfl,Below.refl _ _⟩
 case round =>
  obtain⟨k,rfl,hk,HA,BR⟩:=hrel;by_cases hlt:k<c.ws.length
  ·have hkI:(k:Int)<(c.ws.length:Int):=by omega
   have CR:=C1.below BR;have FR:=F1.below BR;obtain⟨q0,q1,q2,q3⟩:=bx4_below ⟨k0,k1,k2,k3⟩ L1 BR;obtain⟨wb,wo,haw,hwl,hcx⟩:=CR.ws.at (wsV_at hlt);have hu:=C1.ok.ws _ (List.getElem_mem hlt);have WR:=fun w1 F1 C1=>wordRight_c (c.ws[k]) hu.1 hu.2 p c w1 (Fx.tab F1) (Fx.rul F1) C1;have HN:Hid ((c.ws.take (k+1)).all (wrdB c)=wrdB c c.ws[k]):=by
    show _=_;rw[all_next _ _ _ hlt,HA.out,Bool.true_and]
   have HZ:Hid (wrdB c c.ws[k]=false->c.ws.all (wrdB c)=false):=all_no _ _ _ hlt;generalize wrdB c c.ws[k]=bb at WR HN HZ;generalize c.ws[k]=u at *;unfold cdV cdA at WR;rw[haw] at WR;clear k0 k1 k2 k3;rw[haw] at q0 ;cases bb
   ·have fin:=HZ.out rfl;rw[haw];go_wp2_with (go_at_call 52;refine(WR _ FR CR).mono ?_;rintro e w5 ⟨rfl,B6⟩);go_ret;exact⟨by first|rfl|(rw[fin];rfl),B1.trans ((BR.trans (B6.mono BR.size)).mono B1.size)⟩
   ·rw[haw];go_wp2_with (go_at_call 52;refine(WR _ FR CR).mono ?_;rintro e w5 ⟨rfl,B6⟩);go_roundw
    case rel=>(try ((repeat apply Exists.intro);refine⟨?_,rfl⟩));exact⟨k+1,by go_num,by omega,HN.out,BR.trans (B6.mono BR.size)⟩
    case measure=>simp[intOf];omega
  ·have hkI:¬(k:Int)<(c.ws.length:Int):=by omega
   have fin:c.ws.all (wrdB c)=true:=by
    have:=HA.out
    rw[List.take_of_length_le (by omega)] at this;exact this
   go_wp2;go_ret;exact⟨by first|rfl|(rw[fin];rfl),B1.trans (BR.mono B1.size)⟩
theorem listsRight_c (p:Pl)(c:Cd)(w:World)(hF:Fx w)(hC:CdW w p c) :
  Calls Tryd.prog 34 #[cdV p c] w fun e w'=>e=.returned (.bool (lstB c))/\Below w.heap.size w w':=by
 obtain⟨w1,hw1⟩:∃w1,w1=w.alloc (.cells (cdA p c) 26):=⟨_,rfl⟩
 obtain⟨b0,hb0⟩:∃b0,b0=w.heap.size:=⟨_,rfl⟩
 have B1:Below w.heap.size w w1:=by rw[hw1];exact b1 _ _
 have K1:bx4 p c w1 b0:=by rw[hw1,hb0];exact bx4_new p c w
 have L1:b0<w1.heap.size:=by rw[hw1,hb0];simp
 have F1:=hF.below B1;have C1:=hC.below B1;have HB0:Hid (b0=w.heap.size):=hb0;clear hb0 hF hC;have hlw:=C1.lw;have hlc:=C1.lc;have hln:=C1.ln;have hlk:=C1.lk;obtain⟨k0,k1,k2,k3⟩:=K1;cases hle:lenB c
 ·have fin:lstB c=false:=by simp[lstB,hle]
  rw[fin];have hx:(32768:Int)<(c.cs.length:Int)\/(¬(32768:Int)<(c.cs.length:Int)/\(2000:Int)<(c.ns.length:Int))\/(¬(32768:Int)<(c.cs.length:Int)/\¬(2000:Int)<(c.ns.length:Int)/\(256:Int)<(c.ks.length:Int)):=by
   have:¬(c.cs.length<=32768/\c.ns.length<=2000/\c.ks.length<=256):=fun ⟨h1,h2,h3⟩=>by simp[lenB,h1,h2,h3] at hle
   omega
  clear hle fin;rcases hx with x1|⟨x1,x2⟩|⟨x1,x2,x3⟩
  all_goals
   go_enter Tryd.func34,Tryd.ntmps34;go_wp2_with fail;rw[<-hw1,<-HB0.out];clear hw1;go_wp2;go_ret;exact⟨rfl,by first|(rw[HB0.out];exact B1)|exact B1⟩
 ·have hl3:c.cs.length<=32768/\c.ns.length<=2000/\c.ks.length<=256:=by simpa [lenB,and_assoc] using hle
  have fin:lstB c=(c.ns.all (fun s=>nameB s.data.toList)&&c.ks.all kndB):=by simp[lstB,hle]
  rw[fin];clear fin hle;have x1:¬(32768:Int)<(c.cs.length:Int):=by omega
  have x2:¬(2000:Int)<(c.ns.length:Int):=by omega
  have x3:¬(256:Int)<(c.ks.length:Int):=by omega
  obtain⟨NB,hNB⟩:∃NB:Bool,NB=c.ns.all (fun s=>nameB s.data.toList):=⟨_,rfl⟩
  obtain⟨KB,hKB⟩:∃KB:Bool,KB=c.ks.all kndB:=⟨_,rfl⟩
  rw[<-hNB,<-hKB];have HNB:=Lib.hid hNB;have HKB:=Lib.hid hKB;clear hNB hKB;go_enter Tryd.func34,Tryd.ntmps34;go_wp2_with fail;rw[<-hw1,<-HB0.out];clear hw1;go_wp2_with fail;go_loopw [26] (fun v wr=>∃k:Nat,v=.int .i64 (k:Nat)/\k<=c.ns.length/\Hid ((c.ns.take k).all (fun s=>nameB s.data.toList)=true)/\Below w1.heap.size w1 wr) (fun v _=>c.ns.length-(intOf v).toNat)
  case atStart=>exact⟨0,by go_num,by omega,rfl,Below.refl _ _⟩
  case round =>
   obtain⟨k,rfl,hk,HA,BR⟩:=hrel;by_cases hlt:k<c.ns.length
   ·have hkI:(k:Int)<(c.ns.length:Int):=by omega
    have CR:=C1.below BR;have FR:=F1.below BR;obtain⟨q0,q1,q2,q3⟩:=bx4_below ⟨k0,k1,k2,k3⟩ L1 BR;obtain⟨wb,wo,haw,hwl,hcx⟩:=CR.ns.at (nsV_at hlt);have hu:=C1.ok.ns _ (List.getElem_mem hlt);have WR:=fun w=>name_c (c.ns[k]) w;have HN:Hid ((c.ns.take (k+1)).all (fun s=>nameB s.data.toList)=nameB (c.ns[k]).data.toList):=by
     show _=_;rw[all_next _ _ _ hlt,HA.out,Bool.true_and]
    have HZ:Hid (nameB (c.ns[k]).data.toList=false->NB=false):=fun h=>by rw[HNB.out];exact all_no _ _ _ hlt h
    generalize nameB (c.ns[k]).data.toList=bb at WR HN HZ;generalize c.ns[k]=u at *;clear k0 k1 k2 k3;cases bb
    ·have fin:=HZ.out rfl;rw[haw];go_wp2_with (go_at_call 50;refine(WR _ FR.wd hu).mono ?_;rintro e w5 ⟨rfl,B6⟩);go_ret;exact⟨by first|rfl|(rw[fin];rfl),B1.trans ((BR.trans (B6.mono BR.size)).mono B1.size)⟩
    ·rw[haw];go_wp2_with (go_at_call 50;refine(WR _ FR.wd hu).mono ?_;rintro e w5 ⟨rfl,B6⟩);go_roundw
     case rel=>(try ((repeat apply Exists.intro);refine⟨?_,rfl⟩));exact⟨k+1,by go_num,by omega,HN.out,BR.trans (B6.mono BR.size)⟩
     case measure=>simp[intOf];omega
   ·have hkI:¬(k:Int)<(c.ns.length:Int):=by omega
    have fin:NB=true:=by
     have:=HA.out
     rw[List.take_of_length_le (by omega)] at this;rw[HNB.out];exact this
    have CW:=C1.below BR;have FW:=F1.below BR;have QW:=bx4_below ⟨k0,k1,k2,k3⟩ L1 BR;have LW:=Nat.lt_of_lt_of_le L1 BR.size;have BW:=B1.trans (BR.mono B1.size);subst fin;clear k0 k1 k2 k3 HA HNB hlt;obtain⟨k0,k1,k2,k3⟩:=QW;go_wp2_with fail;go_loopw [37] (fun v ws=>∃j:Nat,v=.int .i64 (j:Nat)/\j<=c.ks.length/\Hid ((c.ks.take j).all kndB=true)/\Below wr.heap.size wr ws) (fun v _=>c.ks.length-(intOf v).toNat)
    case atStart=>exact⟨0,by go_num,by omega,rfl,Below.refl _ _⟩
    case round =>
     rename_i ws
     obtain⟨j,rfl,hj,HA,BS⟩:=hrel;by_cases hlt:j<c.ks.length
     ·have hjI:(j:Int)<(c.ks.length:Int):=by omega
      have CS:=CW.below BS;obtain⟨q0,q1,q2,q3⟩:=bx4_below ⟨k0,k1,k2,k3⟩ LW BS;obtain⟨wb,wo,haw,hwl,hcx⟩:=CS.ks.at (isV_get hlt);have WR:=fun w=>may_c 7 (by omega) (c.ks[j]) p c w hlc hln hlk;have e7:mayB c 7 (c.ks[j])=kndB (c.ks[j]):=rfl;rw[e7] at WR;have HN:Hid ((c.ks.take (j+1)).all kndB=kndB (c.ks[j])):=by
       show _=_;rw[all_next _ _ _ hlt,HA.out,Bool.true_and]
      have HZ:Hid (kndB (c.ks[j])=false->KB=false):=fun h=>by rw[HKB.out];exact all_no _ _ _ hlt h
      clear e7;generalize kndB (c.ks[j])=bb at WR HN HZ;generalize c.ks[j]=u at *;unfold cdV cdA at WR;rw[haw] at WR;clear k0 k1 k2 k3;rw[haw] at q3;cases bb
      ·have fin:=HZ.out rfl;rw[haw];go_wp2_with (go_at_call 51;refine(WR _).mono ?_;rintro e w5 ⟨rfl,B6⟩);go_ret;exact⟨by first|rfl|(rw[fin];rfl),BW.trans ((BS.trans (B6.mono BS.size)).mono BW.size)⟩
      ·rw[haw];go_wp2_with (go_at_call 51;refine(WR _).mono ?_;rintro e w5 ⟨rfl,B6⟩);go_roundw
       case rel=>(try ((repeat apply Exists.intro);refine⟨?_,rfl⟩));exact⟨j+1,by go_num,by omega,HN.out,BS.trans (B6.mono BS.size)⟩
       case measure=>simp[intOf];omega
     ·have hjI:¬(j:Int)<(c.ks.length:Int):=by omega
      have fin:KB=true:=by
       have:=HA.out
       rw[List.take_of_length_le (by omega)] at this;rw[HKB.out];exact this
      go_wp2;go_ret;exact⟨by first|rfl|(rw[fin];rfl),BW.trans (BS.mono BW.size)⟩
theorem right_c (p:Pl)(c:Cd)(w:World)(hF:Fx w)(hC:CdW w p c) :
  Calls Tryd.prog 19 #[cdV p c] w fun e w'=>e=.returned (.bool (rgtB c))/\Below w.heap.size w w':=by
 obtain⟨w1,hw1⟩:∃w1,w1=w.alloc (.cells (cdA p c) 26):=⟨_,rfl⟩
 obtain⟨b0,hb0⟩:∃b0,b0=w.heap.size:=⟨_,rfl⟩
 have B1:Below w.heap.size w w1:=by rw[hw1];exact b1 _ _
 have K1:bx4 p c w1 b0:=by rw[hw1,hb0];exact bx4_new p c w
 have L1:b0<w1.heap.size:=by rw[hw1,hb0];simp
 have F1:=hF.below B1;have C1:=hC.below B1;have HB0:Hid (b0=w.heap.size):=hb0;clear hb0 hF hC;obtain⟨k0,k1,k2,k3⟩:=K1;have R1:=listsRight_c p c w1 F1 C1;have fin:rgtB c=(lstB c&&wdsB c):=rfl;rw[fin];cases hl:lstB c
 ·rw[hl] at R1;rw[Bool.false_and];go_enter Tryd.func19,Tryd.ntmps19;go_wp2_with fail;rw[<-hw1,<-HB0.out];clear hw1;go_wp2_with (go_at_call 34;refine R1.mono ?_;rintro e w2 ⟨rfl,B2⟩);go_ret;exact⟨rfl,by first|(rw[HB0.out];exact B1.trans (B2.mono B1.size))|exact B1.trans (B2.mono B1.size)⟩
 ·rw[hl] at R1;rw[Bool.true_and];have R2:=fun w2 F2 C2=>wordsRight_c p c w2 F2 C2;generalize wdsB c=X at R2;go_enter Tryd.func19,Tryd.ntmps19;go_wp2_with fail;rw[<-hw1,<-HB0.out];clear hw1;go_wp2_with (first|(go_at_call 34;refine R1.mono ?_;rintro e w2 ⟨rfl,B2⟩;have F2:=F1.below B2;have C2:=C1.below B2;obtain⟨q0,q1,q2,q3⟩:=bx4_below ⟨k0,k1,k2,k3⟩ L1 B2)|(go_at_call 35;refine(R2 _ F2 C2).mono ?_;rintro e w3 ⟨rfl,B3⟩));go_ret;exact⟨rfl,by first|(rw[HB0.out];exact B1.trans ((B2.trans (B3.mono B2.size)).mono B1.size))|exact B1.trans ((B2.trans (B3.mono B2.size)).mono B1.size)⟩
theorem Step.ofBelow {I:Nat->Prop}{w w':World}(o:Nat->Nat)(h:Below w.heap.size w w'):Step I w o w' o:=⟨h.os,h.tape,h.output,h.size,fun _ _=>rfl,fun k hk _=>h.block k hk⟩
theorem infoW:(Tryd.prog.info? 53).map (fun i=>(i.zero,i.size,i.bytes))=some (some (.int .u64 0),1,8):=by kernel_rfl
theorem one_one (v:Value)(h:v.oneCell'=true):∀ u ∈ [v],u.oneCell'=true:=by
 intro u hu;simp at hu;subst hu;exact h
abbrev nil4:Array Value:=#[.slice none 0 0,.slice none 0 0,.slice none 0 0,.slice none 0 0]
theorem cells4 {w:World}{b:Nat}{x0 x1 x2 x3:Value}{t:TypeId}(h:w.heap[b]?=some (.cells #[x0,x1,x2,x3] t)):(w.cell? ⟨b,0,none⟩=some x0/\w.cell? ⟨b,1,none⟩=some x1/\w.cell? ⟨b,2,none⟩=some x2/\w.cell? ⟨b,3,none⟩=some x3)/\∀ j,w.frozen? ⟨b,j,none⟩=false:=by
 refine⟨⟨?_,?_,?_,?_⟩,fun j=>?_⟩<;>simp[World.cell?,World.frozen?,h]
theorem set4c {w:World}{b:Nat}{x0 x1 x2 x3:Value}{t:TypeId}(y0 y1 y2 y3:Value)(h:w.heap[b]?=some (.cells #[x0,x1,x2,x3] t)):((((w.setCell ⟨b,0,none⟩ y0).setCell ⟨b,1,none⟩ y1).setCell ⟨b,2,none⟩ y2).setCell ⟨b,3,none⟩ y3).heap[b]?=some (.cells #[y0,y1,y2,y3] t) :=
 heap_setCell_same _ b 3 _ _ _ (heap_setCell_same _ b 2 _ _ _ (heap_setCell_same _ b 1 _ _ _ (heap_setCell_same w b 0 _ _ _ h)))
theorem Row.lsv {w:World}{o:Nat->Nat}{i:Nat}{e:TypeId}{ao:Option Addr}{n cap:Nat}{xs:List Value}(h:Row w o i e 1 (.slice ao n cap) n xs):Lsv w ao xs:=by
 by_cases hn:0<n
 ·obtain⟨g,c,hv,-,-,-,hlt,hc,-⟩:=h.pos hn;simp only[Value.slice.injEq,true_and] at hv;refine .inr ⟨g,0,hv.1,hlt,fun j x hx=>?_⟩;have hl:=h.len;have hj:j<n*1:=by have:=(List.getElem?_eq_some_iff.1 hx).1;omega
  rw[Nat.zero_add,hc j hj];exact hx
 ·have hl:=h.len;exact .inl (List.eq_nil_of_length_eq_zero (by omega))
theorem bdt {g:Nat}{a b c:World}(h:Below g a b)(k:Below b.heap.size b c)(hg:g<=b.heap.size):Below g a c:=h.trans (k.mono hg)
end Go.Proofs.YtpdfdhkdfkhfkaaDoor

import Derived.Test.YtpdfdhkdfkhfkaaDoorCodB
import Derived.Lib.AppendStr
set_option maxRecDepth 100000
set_option maxHeartbeats 8000000
namespace Go.Proofs.YtpdfdhkdfkhfkaaDoor
open Go.ChangeShapes Go.WideShapes Go.ChangeAt Go.RowKit
set_option linter.unusedVariables false
set_option linter.unusedSimpArgs false
structure Fx (w:World):Prop where
 tab:Tab w
 rul:Rul w
 wd:Wd w
theorem Fx.below {w w':World}(h:Fx w)(B:Below w.heap.size w w'):Fx w':=⟨h.tab.below B,h.rul.below B,h.wd.below B⟩
theorem wsV_at {l:List Int}{k:Nat}(h:k<l.length):(wsV l)[k]?=some (.int .u64 l[k]):=by
 simp[wsV,List.getElem?_eq_getElem h]
theorem isV_get {l:List Int}{k:Nat}(h:k<l.length):(isV l)[k]?=some (.int .i64 l[k]):=by
 simp[isV,List.getElem?_eq_getElem h]
theorem nsV_at {l:List ByteArray}{k:Nat}(h:k<l.length):(nsV l)[k]?=some (.string l[k]):=by
 simp[nsV,List.getElem?_eq_getElem h]
theorem all_next {α:Type}(f:α->Bool)(l:List α)(k:Nat)(h:k<l.length):(l.take (k+1)).all f=((l.take k).all f&&f l[k]):=by
 rw[List.take_succ_eq_append_getElem h,List.all_append];simp
theorem all_no {α:Type}(f:α->Bool)(l:List α)(k:Nat)(h:k<l.length)(hf:f l[k]=false):l.all f=false:=by
 rw[<-Bool.not_eq_true,List.all_eq_true];intro H
 have:=H _ (List.getElem_mem h)
 rw[hf] at this;cases this
abbrev bx4 (p:Pl)(c:Cd)(w:World)(b:Nat):Prop:=w.cell? ⟨b,0,none⟩=some (.slice p.aw c.ws.length p.cw)/\w.cell? ⟨b,1,none⟩=some (.slice p.ac c.cs.length p.cc)/\w.cell? ⟨b,2,none⟩=some (.slice p.an c.ns.length p.cn)/\w.cell? ⟨b,3,none⟩=some (.slice p.ak c.ks.length p.ck)
theorem bx4_below {p:Pl}{c:Cd}{w w':World}{b:Nat}(h:bx4 p c w b)(hb:b<w.heap.size)(B:Below w.heap.size w w'):bx4 p c w' b :=
 ⟨(B.cell (p:=⟨b,0,none⟩) hb).trans h.1,(B.cell (p:=⟨b,1,none⟩) hb).trans h.2.1,(B.cell (p:=⟨b,2,none⟩) hb).trans h.2.2.1,(B.cell (p:=⟨b,3,none⟩) hb).trans h.2.2.2⟩
theorem bx4_new (p:Pl)(c:Cd)(w:World):bx4 p c (w.alloc (.cells (cdA p c) 26)) w.heap.size:=box4_cells (box4 _ _ _ _ _ _)
theorem wordsRight_c (p:Pl)(c:Cd)(w:World)(hF:Fx w)(hC:CdW w p c) :
  Calls Tryd.prog 35 #[cdV p c] w fun e w'=>e=.returned (.bool (wdsB c))/\Below w.heap.size w w':=by
 obtain⟨w1,hw1⟩:∃w1,w1=w.alloc (.cells (cdA p c) 26):=⟨_,rfl⟩
 obtain⟨b0,hb0⟩:∃b0,b0=w.heap.size:=⟨_,rfl⟩
 have B1:Below w.heap.size w w1:=by rw[hw1];exact b1 _ _
 have K1:bx4 p c w1 b0:=by rw[hw1,hb0];exact bx4_new p c w
 have L1:b0<w1.heap.size:=by rw[hw1,hb0];simp
 have F1:=hF.below B1;have C1:=hC.below B1;have HB0:Hid (b0=w.heap.size):=hb0;clear hb0 hF hC;have hlw:=C1.lw;obtain⟨k0,k1,k2,k3⟩:=K1;by_cases h0:c.ws.length=0
 ·have fin:wdsB c=false:=by simp[wdsB,h0]
  rw[fin];have h0I:(c.ws.length:Int)=0:=by omega
  go_enter Tryd.func35,Tryd.ntmps35;go_wp2_with fail;rw[<-hw1,<-HB0.out];clear hw1;go_wp2;go_ret;exact⟨rfl,by first|(rw[HB0.out];exact B1)|exact B1⟩
 have h0I:¬(c.ws.length:Int)=0:=by omega
 by_cases h1:32768<c.ws.length
 ·have fin:wdsB c=false:=by
   have:decide (c.ws.length<=32768)=false:=by simp;omega
   unfold wdsB;rw[this];simp
  rw[fin];have h1I:(32768:Int)<(c.ws.length:Int):=by omega
  go_enter Tryd.func35,Tryd.ntmps35;go_wp2_with fail;rw[<-hw1,<-HB0.out];clear hw1;go_wp2;go_ret;exact⟨rfl,by first|(rw[HB0.out];exact B1)|exact B1⟩
 have h1I:¬(32768:Int)<(c.ws.length:Int):=by omega
 have fin:wdsB c=c.ws.all (wrdB c):=by
  have e1:decide (0<c.ws.length)=true:=by simp;omega
  have e2:decide (c.ws.length<=32768)=true:=by simp;omega
  unfold wdsB;rw[e1,e2];simp
 rw[fin];clear fin;go_enter Tryd.func35,Tryd.ntmps35;go_wp2_with fail;rw[<-hw1,<-HB0.out];clear hw1;go_wp2_with fail;go_loopw [18] (fun v wr=>∃k:Nat,v=.int .i64 (k:Nat)/\k<=c.ws.length/\Hid ((c.ws.take k).all (wrdB c)=true)/\Below w1.heap.size w1 wr) (fun v _=>c.ws.length-(intOf v).toNat)
 case atStart=>exact⟨0,by go_num,by omega,rfl,Below.refl _ _⟩
 case round =>
  obtain⟨k,rfl,hk,HA,BR⟩:=hrel;by_cases hlt:k<c.ws.length
  ·have hkI:(k:Int)<(c.ws.length:Int):=by omega
   have CR:=C1.below BR;have FR:=F1.below BR;obtain⟨q0,q1,q2,q3⟩:=bx4_below ⟨k0,k1,k2,k3⟩ L1 BR;obtain⟨wb,wo,haw,hwl,hcx⟩:=CR.ws.at (wsV_at hlt);have hu:=C1.ok.ws _ (List.getElem_mem hlt);have WR:=fun w1 F1 C1=>wordRight_c (c.ws[k]) hu.1 hu.2 p c w1 (Fx.tab F1) (Fx.rul F1) C1;have HN:Hid ((c.ws.take (k+1)).all (wrdB c)=wrdB c c.ws[k]):=by
    show _=_;rw[all_next _ _ _ hlt,HA.out,Bool.true_and]
   have HZ:Hid (wrdB c c.ws[k]=false->c.ws.all (wrdB c)=false):=all_no _ _ _ hlt;generalize wrdB c c.ws[k]=bb at WR HN HZ;generalize c.ws[k]=u at *;unfold cdV cdA at WR;rw[haw] at WR;clear k0 k1 k2 k3;rw[haw] at q0 ;cases bb
   ·have fin:=HZ.out rfl;rw[haw];go_wp2_with (go_at_call 52;refine(WR _ FR CR).mono ?_;rintro e w5 ⟨rfl,B6⟩);go_ret;exact⟨by first|rfl|(rw[fin];rfl),B1.trans ((BR.trans (B6.mono BR.size)).mono B1.size)⟩
   ·rw[haw];go_wp2_with (go_at_call 52;refine(WR _ FR CR).mono ?_;rintro e w5 ⟨rfl,B6⟩);go_roundw
    case rel=>(try ((repeat apply Exists.intro);refine⟨?_,rfl⟩));exact⟨k+1,by go_num,by omega,HN.out,BR.trans (B6.mono BR.size)⟩
    case measure=>simp[intOf];omega
  ·have hkI:¬(k:Int)<(c.ws.length:Int):=by omega
   have fin:c.ws.all (wrdB c)=true:=by
    have:=HA.out
    rw[List.take_of_length_le (by omega)] at this;exact this
   go_wp2;go_ret;exact⟨by first|rfl|(rw[fin];rfl),B1.trans (BR.mono B1.size)⟩
theorem listsRight_c (p:Pl)(c:Cd)(w:World)(hF:Fx w)(hC:CdW w p c) :
  Calls Tryd.prog 34 #[cdV p c] w fun e w'=>e=.returned (.bool (lstB c))/\Below w.heap.size w w':=by
 obtain⟨w1,hw1⟩:∃w1,w1=w.alloc (.cells (cdA p c) 26):=⟨_,rfl⟩
 obtain⟨b0,hb0⟩:∃b0,b0=w.heap.size:=⟨_,rfl⟩
 have B1:Below w.heap.size w w1:=by rw[hw1];exact b1 _ _
 have K1:bx4 p c w1 b0:=by rw[hw1,hb0];exact bx4_new p c w
 have L1:b0<w1.heap.size:=by rw[hw1,hb0];simp
 have F1:=hF.below B1;have C1:=hC.below B1;have HB0:Hid (b0=w.heap.size):=hb0;clear hb0 hF hC;have hlw:=C1.lw;have hlc:=C1.lc;have hln:=C1.ln;have hlk:=C1.lk;obtain⟨k0,k1,k2,k3⟩:=K1;cases hle:lenB c
 ·have fin:lstB c=false:=by simp[lstB,hle]
  rw[fin];have hx:(32768:Int)<(c.cs.length:Int)\/(¬(32768:Int)<(c.cs.length:Int)/\(2000:Int)<(c.ns.length:Int))\/(¬(32768:Int)<(c.cs.length:Int)/\¬(2000:Int)<(c.ns.length:Int)/\(256:Int)<(c.ks.length:Int)):=by
   have:¬(c.cs.length<=32768/\c.ns.length<=2000/\c.ks.length<=256):=fun ⟨h1,h2,h3⟩=>by simp[lenB,h1,h2,h3] at hle
   omega
  clear hle fin;rcases hx with x1|⟨x1,x2⟩|⟨x1,x2,x3⟩
  all_goals
   go_enter Tryd.func34,Tryd.ntmps34;go_wp2_with fail;rw[<-hw1,<-HB0.out];clear hw1;go_wp2;go_ret;exact⟨rfl,by first|(rw[HB0.out];exact B1)|exact B1⟩
 ·have hl3:c.cs.length<=32768/\c.ns.length<=2000/\c.ks.length<=256:=by simpa [lenB,and_assoc] using hle
  have fin:lstB c=(c.ns.all (fun s=>nameB s.data.toList)&&c.ks.all kndB):=by simp[lstB,hle]
  rw[fin];clear fin hle;have x1:¬(32768:Int)<(c.cs.length:Int):=by omega
  have x2:¬(2000:Int)<(c.ns.length:Int):=by omega
  have x3:¬(256:Int)<(c.ks.length:Int):=by omega
  obtain⟨NB,hNB⟩:∃NB:Bool,NB=c.ns.all (fun s=>nameB s.data.toList):=⟨_,rfl⟩
  obtain⟨KB,hKB⟩:∃KB:Bool,KB=c.ks.all kndB:=⟨_,rfl⟩
  rw[<-hNB,<-hKB];have HNB:=Lib.hid hNB;have HKB:=Lib.hid hKB;clear hNB hKB;go_enter Tryd.func34,Tryd.ntmps34;go_wp2_with fail;rw[<-hw1,<-HB0.out];clear hw1;go_wp2_with fail;go_loopw [26] (fun v wr=>∃k:Nat,v=.int .i64 (k:Nat)/\k<=c.ns.length/\Hid ((c.ns.take k).all (fun s=>nameB s.data.toList)=true)/\Below w1.heap.size w1 wr) (fun v _=>c.ns.length-(intOf v).toNat)
  case atStart=>exact⟨0,by go_num,by omega,rfl,Below.refl _ _⟩
  case round =>
   obtain⟨k,rfl,hk,HA,BR⟩:=hrel;by_cases hlt:k<c.ns.length
   ·have hkI:(k:Int)<(c.ns.length:Int):=by omega
    have CR:=C1.below BR;have FR:=F1.below BR;obtain⟨q0,q1,q2,q3⟩:=bx4_below ⟨k0,k1,k2,k3⟩ L1 BR;obtain⟨wb,wo,haw,hwl,hcx⟩:=CR.ns.at (nsV_at hlt);have hu:=C1.ok.ns _ (List.getElem_mem hlt);have WR:=fun w=>name_c (c.ns[k]) w;have HN:Hid ((c.ns.take (k+1)).all (fun s=>nameB s.data.toList)=nameB (c.ns[k]).data.toList):=by
     show _=_;rw[all_next _ _ _ hlt,HA.out,Bool.true_and]
    have HZ:Hid (nameB (c.ns[k]).data.toList=false->NB=false):=fun h=>by rw[HNB.out];exact all_no _ _ _ hlt h
    generalize nameB (c.ns[k]).data.toList=bb at WR HN HZ;generalize c.ns[k]=u at *;clear k0 k1 k2 k3;cases bb
    ·have fin:=HZ.out rfl;rw[haw];go_wp2_with (go_at_call 50;refine(WR _ FR.wd hu).mono ?_;rintro e w5 ⟨rfl,B6⟩);go_ret;exact⟨by first|rfl|(rw[fin];rfl),B1.trans ((BR.trans (B6.mono BR.size)).mono B1.size)⟩
    ·rw[haw];go_wp2_with (go_at_call 50;refine(WR _ FR.wd hu).mono ?_;rintro e w5 ⟨rfl,B6⟩);go_roundw
     case rel=>(try ((repeat apply Exists.intro);refine⟨?_,rfl⟩));exact⟨k+1,by go_num,by omega,HN.out,BR.trans (B6.mono BR.size)⟩
     case measure=>simp[intOf];omega
   ·have hkI:¬(k:Int)<(c.ns.length:Int):=by omega
    have fin:NB=true:=by
     have:=HA.out
     rw[List.take_of_length_le (by omega)] at this;rw[HNB.out];exact this
    have CW:=C1.below BR;have FW:=F1.below BR;have QW:=bx4_below ⟨k0,k1,k2,k3⟩ L1 BR;have LW:=Nat.lt_of_lt_of_le L1 BR.size;have BW:=B1.trans (BR.mono B1.size);subst fin;clear k0 k1 k2 k3 HA HNB hlt;obtain⟨k0,k1,k2,k3⟩:=QW;go_wp2_with fail;go_loopw [37] (fun v ws=>∃j:Nat,v=.int .i64 (j:Nat)/\j<=c.ks.length/\Hid ((c.ks.take j).all kndB=true)/\Below wr.heap.size wr ws) (fun v _=>c.ks.length-(intOf v).toNat)
    case atStart=>exact⟨0,by go_num,by omega,rfl,Below.refl _ _⟩
    case round =>
     rename_i ws
     obtain⟨j,rfl,hj,HA,BS⟩:=hrel;by_cases hlt:j<c.ks.length
     ·have hjI:(j:Int)<(c.ks.length:Int):=by omega
      have CS:=CW.below BS;obtain⟨q0,q1,q2,q3⟩:=bx4_below ⟨k0,k1,k2,k3⟩ LW BS;obtain⟨wb,wo,haw,hwl,hcx⟩:=CS.ks.at (isV_get hlt);have WR:=fun w=>may_c 7 (by omega) (c.ks[j]) p c w hlc hln hlk;have e7:mayB c 7 (c.ks[j])=kndB (c.ks[j]):=rfl;rw[e7] at WR;have HN:Hid ((c.ks.take (j+1)).all kndB=kndB (c.ks[j])):=by
       show _=_;rw[all_next _ _ _ hlt,HA.out,Bool.true_and]
      have HZ:Hid (kndB (c.ks[j])=false->KB=false):=fun h=>by rw[HKB.out];exact all_no _ _ _ hlt h
      clear e7;generalize kndB (c.ks[j])=bb at WR HN HZ;generalize c.ks[j]=u at *;unfold cdV cdA at WR;rw[haw] at WR;clear k0 k1 k2 k3;rw[haw] at q3;cases bb
      ·have fin:=HZ.out rfl;rw[haw];go_wp2_with (go_at_call 51;refine(WR _).mono ?_;rintro e w5 ⟨rfl,B6⟩);go_ret;exact⟨by first|rfl|(rw[fin];rfl),BW.trans ((BS.trans (B6.mono BS.size)).mono BW.size)⟩
      ·rw[haw];go_wp2_with (go_at_call 51;refine(WR _).mono ?_;rintro e w5 ⟨rfl,B6⟩);go_roundw
       case rel=>(try ((repeat apply Exists.intro);refine⟨?_,rfl⟩));exact⟨j+1,by go_num,by omega,HN.out,BS.trans (B6.mono BS.size)⟩
       case measure=>simp[intOf];omega
     ·have hjI:¬(j:Int)<(c.ks.length:Int):=by omega
      have fin:KB=true:=by
       have:=HA.out
       rw[List.take_of_length_le (by omega)] at this;rw[HKB.out];exact this
      go_wp2;go_ret;exact⟨by first|rfl|(rw[fin];rfl),BW.trans (BS.mono BW.size)⟩
theorem right_c (p:Pl)(c:Cd)(w:World)(hF:Fx w)(hC:CdW w p c) :
  Calls Tryd.prog 19 #[cdV p c] w fun e w'=>e=.returned (.bool (rgtB c))/\Below w.heap.size w w':=by
 obtain⟨w1,hw1⟩:∃w1,w1=w.alloc (.cells (cdA p c) 26):=⟨_,rfl⟩
 obtain⟨b0,hb0⟩:∃b0,b0=w.heap.size:=⟨_,rfl⟩
 have B1:Below w.heap.size w w1:=by rw[hw1];exact b1 _ _
 have K1:bx4 p c w1 b0:=by rw[hw1,hb0];exact bx4_new p c w
 have L1:b0<w1.heap.size:=by rw[hw1,hb0];simp
 have F1:=hF.below B1;have C1:=hC.below B1;have HB0:Hid (b0=w.heap.size):=hb0;clear hb0 hF hC;obtain⟨k0,k1,k2,k3⟩:=K1;have R1:=listsRight_c p c w1 F1 C1;have fin:rgtB c=(lstB c&&wdsB c):=rfl;rw[fin];cases hl:lstB c
 ·rw[hl] at R1;rw[Bool.false_and];go_enter Tryd.func19,Tryd.ntmps19;go_wp2_with fail;rw[<-hw1,<-HB0.out];clear hw1;go_wp2_with (go_at_call 34;refine R1.mono ?_;rintro e w2 ⟨rfl,B2⟩);go_ret;exact⟨rfl,by first|(rw[HB0.out];exact B1.trans (B2.mono B1.size))|exact B1.trans (B2.mono B1.size)⟩
 ·rw[hl] at R1;rw[Bool.true_and];have R2:=fun w2 F2 C2=>wordsRight_c p c w2 F2 C2;generalize wdsB c=X at R2;go_enter Tryd.func19,Tryd.ntmps19;go_wp2_with fail;rw[<-hw1,<-HB0.out];clear hw1;go_wp2_with (first|(go_at_call 34;refine R1.mono ?_;rintro e w2 ⟨rfl,B2⟩;have F2:=F1.below B2;have C2:=C1.below B2;obtain⟨q0,q1,q2,q3⟩:=bx4_below ⟨k0,k1,k2,k3⟩ L1 B2)|(go_at_call 35;refine(R2 _ F2 C2).mono ?_;rintro e w3 ⟨rfl,B3⟩));go_ret;exact⟨rfl,by first|(rw[HB0.out];exact B1.trans ((B2.trans (B3.mono B2.size)).mono B1.size))|exact B1.trans ((B2.trans (B3.mono B2.size)).mono B1.size)⟩
theorem infoU8:(Tryd.prog.info? 5).map (fun i=>(i.zero,i.size,i.bytes))=some (some (.int .u8 0),1,1):=by kernel_rfl
theorem Step.ofBelow {I:Nat->Prop}{w w':World}(o:Nat->Nat)(h:Below w.heap.size w w'):Step I w o w' o:=⟨h.os,h.tape,h.output,h.size,fun _ _=>rfl,fun k hk _=>h.block k hk⟩
open Go.RowKit
def bs (l:List Nat):ByteArray:=⟨(l.map UInt8.ofNat).toArray⟩
theorem bs_size (l:List Nat):(bs l).size=l.length:=by simp[bs,ByteArray.size]
theorem bs_app (l m:List Nat):bs l++bs m=bs (l++m):=by
 apply ByteArray.ext;simp[bs,ByteArray.data_append]
theorem u8_inj {a b:Nat}(ha:a<256)(hb:b<256)(h:UInt8.ofNat a=UInt8.ofNat b):a=b:=by
 have:=congrArg UInt8.toNat h
 simp only[UInt8.toNat_ofNat'] at this;omega
theorem map_u8:∀ (l m:List Nat),(∀ k ∈ l,k<256)->(∀ k ∈ m,k<256)->l.map UInt8.ofNat=m.map UInt8.ofNat->l=m
 | [],[],_,_,_=>rfl
 | [],_::_,_,_,h=>by simp at h
 | _::_,[],_,_,h=>by simp at h
 | a::l,b::m,hl,hm,h=>by
  simp only[List.map_cons,List.cons.injEq] at h;rw[u8_inj (hl a (List.mem_cons_self ..)) (hm b (List.mem_cons_self ..)) h.1,map_u8 l m (fun k hk=>hl k (List.mem_cons_of_mem _ hk)) (fun k hk=>hm k (List.mem_cons_of_mem _ hk)) h.2]
theorem bs_inj {l m:List Nat}(hl:∀ k ∈ l,k<256)(hm:∀ k ∈ m,k<256):bs l=bs m ↔ l=m:=by
 constructor
 ·intro h;have h1:=congrArg (fun x:ByteArray=>x.data.toList) h;simp only[bs] at h1;exact map_u8 l m hl hm h1
 ·rintro rfl;rfl
theorem bs_take (l:List Nat)(n:Nat):(bs l).extract 0 n=bs (l.take n):=by
 apply ByteArray.ext;simp[bs,ByteArray.data_extract,List.extract_eq_take_drop]
theorem bs_drop (l:List Nat)(n:Nat):(bs l).extract n l.length=bs (l.drop n):=by
 apply ByteArray.ext;simp only[bs,ByteArray.data_extract,List.extract_toArray,List.extract_eq_take_drop];rw[<-List.map_drop,List.take_of_length_le (by simp)]
theorem bs_one (k:Nat):bs [k]=⟨#[UInt8.ofNat k]⟩:=rfl
def VwB (v:Vw):Prop:=∀ (i:Nat) (s:St),v.tb[i]?=some (some s)->s.1.length<=v.st/\s.2<=v.rd
theorem come_b {q:Nat}{s:St}{v:Vw}(B:VwB v):VwB (come q s v).2:=by
 unfold come;split
 ·exact B
 ·exact B
 ·intro i t ht
  dsimp only at ht ⊢
  rw[List.getElem?_set] at ht;split at ht
  ·split at ht
   ·simp at ht;subst ht;omega
   ·cases ht
  ·have:=B i t ht
   omega
theorem halt_b {s:St}{v:Vw}(B:VwB v):VwB (haltF s v).2:=by
 unfold haltF;split
 ·split
  ·exact B
  ·exact B
 ·exact B
theorem go_b {o a b k:Nat}{s d:St}{v:Vw}(B:VwB v):VwB (goF o a b k s d v).2:=by
 have H:VwB (if o=13 then (0,v) else come (k+1) s v).2:=by
  split
  ·exact B
  ·exact come_b B
 unfold goF;generalize (if o=13 then (0,v) else come (k+1) s v)=r at *;split
 ·cases ledTo o a b with
  | none=>exact H
  | some q=>exact come_b H
 ·exact H
theorem lookW_b {c:Cd}{o a b k:Nat}{s:St}{v:Vw}(B:VwB v):VwB (lookW c o a b k s v).2:=by
 unfold lookW;split
 ·exact halt_b B
 ·split
  ·exact B
  ·split
   ·exact B
   ·exact go_b B
theorem new_b {n:Nat}:VwB (newF n):=by
 intro i s h;simp only[newF] at h;rw[List.getElem?_set] at h;split at h
 ·split at h
  ·simp at h;subst h;simp
  ·cases h
 ·rw[List.getElem?_replicate] at h;split at h
  ·simp at h
  ·cases h
theorem mark_b {k:Nat}{v:Vw}(B:VwB v):VwB (markF k v):=B
theorem StOk.by {s:St}(S:StOk s):∀ k ∈ s.1,k<256:=fun k hk=>by have:=S.kd k hk;omega
end Go.Proofs.YtpdfdhkdfkhfkaaDoor

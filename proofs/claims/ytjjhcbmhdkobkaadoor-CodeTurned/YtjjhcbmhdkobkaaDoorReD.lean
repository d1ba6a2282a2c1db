import Derived.Test.YtjjhcbmhdkobkaaDoorPkY
set_option maxRecDepth 100000
set_option maxHeartbeats 8000000
namespace Go.Proofs.YtjjhcbmhdkobkaaDoor
open Go.ChangeShapes Go.WideShapes Go.ChangeAt Go.RowKit
set_option linter.unusedVariables false
set_option linter.unusedSimpArgs false
theorem rgt_npos {c:Cd}(h:rgtB c=true):∀ s ∈ c.ns,0<s.size:=by
 simp only[rgtB,lstB,wdsB,Bool.and_eq_true,List.all_eq_true] at h;intro s hs;have hn:=h.1.1.2 s hs;have hl:s.data.toList.length=s.size:=Array.length_toList;unfold nameB at hn;split at hn
 ·cases hn
 ·rename_i hx
  rw[hx] at hl;simp at hl;omega
def LaidOut (w:World)(t:List UInt8)(z:Ending)(w':World):Prop:=∃v,z=.returned v/\∃o',RwB w' o' v t/\(∀ k,k<w.heap.size->o' k=0)/\Below w.heap.size w w'
theorem laid_c (p:Pl)(c:Cd)(w:World)(hC:CdW w p c)(hr:rgtB c=true) :
  Calls Tryd.prog 29 #[cdV p c] w (LaidOut w (bodB c)):=by
 obtain⟨l0,l1,l2,l3,l4⟩:=rgt_lens hr;obtain⟨hns,hks,hnl⟩:=rgt_ok hC.ok hr;have hnp:=rgt_npos hr;have F0:=flat_len sevs c.ws (fun x _=>sevs_30 x);have F1:=flat_len conB c.cs (fun x _=>sevs_30 _);have F2:=flat_len namB c.ns hnl;have F3:=flat_len sevs c.ks (fun x _=>sevs_30 x);obtain⟨w1,hw1⟩:∃w1,w1=w.alloc (.cells (cdA p c) 26):=⟨_,rfl⟩
 obtain⟨b0,hb0⟩:∃b0,b0=w.heap.size:=⟨_,rfl⟩
 have B1:Below w.heap.size w w1:=by rw[hw1];exact b1 _ _
 have K1:bx4 p c w1 b0:=by rw[hw1,hb0];exact bx4_new p c w
 have L1:b0<w1.heap.size:=by rw[hw1,hb0];simp
 have C1:=hC.below B1;have HB0:Hid (b0=w.heap.size):=hb0;have hg:w1.heap.size=b0+1:=by rw[hw1,HB0.out];simp
 clear hb0 hC;have kc:=mark_conv w1 _ hg;obtain⟨w2,hw2⟩:∃w2,w2=w1.alloc (.cells markA 5 (3,4)):=⟨_,rfl⟩
 obtain⟨o,ho⟩:∃o,o=newLab w1 (fun _=>0) 1:=⟨_,rfl⟩
 have R2:SrB w2 o (.slice (some ⟨b0+1,0,none⟩) 3 3) [73,67,49]:=by rw[hw2];exact mark_src w1 o _ hg
 have B2:Below w1.heap.size w1 w2:=by rw[hw2];exact b1 _ _
 have ho0:∀ k,k<w1.heap.size->o k=0:=fun k hk=>by rw[ho,newLab_old hk]
 have hol:∀ k,k<w1.heap.size->¬o k=1:=fun k hk=>by rw[ho0 k hk];omega
 have S2:Step (fun k=>k=1) w1 o w2 o:=Step.ofBelow o B2;clear hg ho B2;have KS:∀ {w3:World}{o3:Nat->Nat},Step (fun k=>k=1) w1 o w3 o3->bx4 p c w3 b0/\CdW w3 p c:=fun {w3 o3} s=>by
  have B:=s.below hol;exact⟨bx4_below K1 L1 B,C1.below B⟩
 have SB:∀ {w3 w4:World}{o3:Nat->Nat},Step (fun k=>k=1) w1 o w3 o3->Below w3.heap.size w3 w4->Step (fun k=>k=1) w1 o w4 o3:=fun s B=>s.trans (Step.ofBelow _ B);have HE:Hid (bodB c=[73,67,49]++lst sevs c.ws++lst conB c.cs++lst namB c.ns++lst sevs c.ks):=rfl;have len1:=lst_len sevs c.ws (fun x _=>sevs_30 x);have len2:=lst_len conB c.cs (fun x _=>sevs_30 _);have len3:=lst_len namB c.ns hnl;obtain⟨t0,ht0⟩:∃t:List UInt8,t=[73,67,49]:=⟨_,rfl⟩
 obtain⟨t1,ht1⟩:∃t:List UInt8,t=t0++lst sevs c.ws:=⟨_,rfl⟩
 obtain⟨t2,ht2⟩:∃t:List UInt8,t=t1++lst conB c.cs:=⟨_,rfl⟩
 obtain⟨t3,ht3⟩:∃t:List UInt8,t=t2++lst namB c.ns:=⟨_,rfl⟩
 have m0:t0.length<=10000000:=by rw[ht0];decide
 have n0:t0.length=3:=by rw[ht0];rfl
 have m1:t1.length<=2000000:=by rw[ht1,List.length_append];omega
 have m2:t2.length<=5000000:=by rw[ht2,List.length_append];omega
 have m3:t3.length<=6000000:=by rw[ht3,List.length_append];omega
 rw[<-ht0] at R2;have H1:=Lib.hid ht1;have H2:=Lib.hid ht2;have H3:=Lib.hid ht3;have HEND:Hid (t3++lst sevs c.ks=bodB c):=by show _=_;rw[HE.out,ht3,ht2,ht1,ht0]
 clear ht0 ht1 ht2 ht3 len1 len2 len3 HE;obtain⟨k0,k1,k2,k3⟩:=(KS S2).1;go_enter Tryd.func29,Tryd.ntmps29;go_wp2_with fail;rw[<-hw1,<-HB0.out];clear hw1;go_wp2_with fail;rw[kc,<-hw2];clear hw2 K1 kc;have hsl0:=sevs_len (c.ws.length:Int);have HP0:=rput_any (c.ws.length:Int) w2 (by omega) (by omega);obtain⟨LL0,hLL0⟩:∃L,L=sevs (c.ws.length:Int):=⟨_,rfl⟩
 rw[<-hLL0] at HP0 hsl0;have HL0:=Lib.hid hLL0;clear hLL0;go_wp2_with (first|(go_at_call 50;refine HP0.mono ?_;rintro e wp0 ⟨rfl,BP0⟩)|(at_builtin;refine wpList_append_src rfl (.tmp 10) (.tmp 15) rfl o (.slice (some ⟨b0+1,0,none⟩) 3 3) t0 rfl (R2.below BP0) LL0 rfl hsl0.1 ?c10 ?c20 ?_)|go_in)
 case c10=>unfold maxLen;omega
 case c20=>omega
 intro va0 wa0 oa0 RA0 SA0;have SX0:=(SB S2 BP0).trans SA0;have RX0:RwB wa0 oa0 va0 (t0++(LL0++((c.ws.take 0).map sevs).flatten)):=by simpa using RA0
 clear R2 S2 BP0 SA0 RA0 HP0 k0 k1 k2 k3;obtain⟨k0,k1,k2,k3⟩:=(KS SX0).1;go_wp2_with fail;go_loopw [3,4] (fun vb vi wr=>∃(k:Nat) (o3:Nat->Nat),vi=.int .i64 (k:Nat)/\k<=c.ws.length/\RwB wr o3 vb (t0++(LL0++((c.ws.take k).map sevs).flatten))/\Step (fun k=>k=1) w1 o wr o3) (fun _ vi _=>c.ws.length-(intOf vi).toNat)
 case atStart=>exact⟨0,oa0,by go_num,by omega,RX0,SX0⟩
 case round =>
  obtain⟨k,o3,rfl,hk,R3,S3⟩:=hrel;clear RX0 SX0 k0 k1 k2 k3;obtain⟨⟨k0,k1,k2,k3⟩,C3⟩:=KS S3;by_cases hlt:k<c.ws.length
  ·skip
   have hkI:(k:Int)<(c.ws.length:Int):=by omega
   obtain⟨b,off,hao,hbl,hc2⟩:=C3.ws.at (wsV_at hlt);have HX:=lst_next sevs t0 c.ws k hlt (c.ws.length:Int);rw[<-HL0.out] at HX;have HXX:=Lib.hid HX;obtain⟨tk,htk⟩:∃tk,tk=t0++(LL0++((c.ws.take k).map sevs).flatten):=⟨_,rfl⟩
   have htl:tk.length<=20000000:=by
    have hF:=F0 k;rw[htk];simp only[List.length_append];omega
   rw[<-htk] at R3;have HTK:=Lib.hid htk;clear htk HX;have hox:=C3.ok.ws _ (List.getElem_mem hlt);have CT:=fun wz=>rput_any (c.ws[k]) wz hox.1 hox.2;have hsx:=sevs_len (c.ws[k]);generalize hfx:sevs c.ws[k]=fx at *;clear hfx;generalize c.ws[k]=x at *;have HAO:=Lib.hid hao;rw[hao] at k0;clear hao;go_wp2_with (first|(go_at_call 50;refine(CT _).mono ?_;rintro e w4 ⟨rfl,B4⟩;have R4:=(SrB.below (.inl R3) B4:SrB w4 o3 u3 tk))|(at_builtin;refine wpList_append_src rfl (.tmp 24) (.tmp 30) rfl o3 _ tk rfl R4 fx rfl hsx.1 ?d10 ?d20 ?_)|go_in)
   case d10=>unfold maxLen;omega
   case d20=>omega
   intro v5 w5 o5 R5 S5;have S6:=(SB S3 B4).trans S5;have R8:RwB w5 o5 v5 (t0++(LL0++((c.ws.take (k+1)).map sevs).flatten)):=by
    rw[HXX.out,<-HTK.out];exact R5
   clear R5 S5 R4 R3 S3 B4;go_wp2;go_roundw
   case rel=>(try ((repeat apply Exists.intro);refine⟨?_,rfl⟩));exact⟨k+1,o5,by go_num,by omega,R8,S6⟩
   case measure=>simp[intOf];omega
  ·skip
   have hkI:¬(k:Int)<(c.ws.length:Int):=by omega
   have e:=lst_all sevs c.ws k hlt;rw[<-HL0.out] at e;rw[e] at R3;clear e HL0 hlt;rw[<-H1.out] at R3;have RS:SrB wr o3 u3 t1:=.inl R3;have QQ:=S3;clear R3 C3;have hsl1:=sevs_len (c.cs.length:Int);have HP1:=rput_any (c.cs.length:Int) wr (by omega) (by omega);obtain⟨LL1,hLL1⟩:∃L,L=sevs (c.cs.length:Int):=⟨_,rfl⟩
   rw[<-hLL1] at HP1 hsl1;have HL1:=Lib.hid hLL1;clear hLL1;go_wp2_with (first|(go_at_call 50;refine HP1.mono ?_;rintro e wp1 ⟨rfl,BP1⟩)|(at_builtin;refine wpList_append_src rfl (.tmp 32) (.tmp 37) rfl o3 u3 t1 rfl (RS.below BP1) LL1 rfl hsl1.1 ?c11 ?c21 ?_)|go_in)
   case c11=>unfold maxLen;omega
   case c21=>omega
   intro va1 wa1 oa1 RA1 SA1;have SX1:=(SB QQ BP1).trans SA1;have RX1:RwB wa1 oa1 va1 (t1++(LL1++((c.cs.take 0).map conB).flatten)):=by simpa using RA1
   clear RS QQ BP1 SA1 RA1 HP1 k0 k1 k2 k3;obtain⟨k0,k1,k2,k3⟩:=(KS SX1).1;go_wp2_with fail;go_loopw [3,5] (fun vb vi wr=>∃(k:Nat) (o3:Nat->Nat),vi=.int .i64 (k:Nat)/\k<=c.cs.length/\RwB wr o3 vb (t1++(LL1++((c.cs.take k).map conB).flatten))/\Step (fun k=>k=1) w1 o wr o3) (fun _ vi _=>c.cs.length-(intOf vi).toNat)
   case atStart=>exact⟨0,oa1,by go_num,by omega,RX1,SX1⟩
   case round =>
    obtain⟨k,o3,rfl,hk,R3,S3⟩:=hrel;clear RX1 SX1 k0 k1 k2 k3;obtain⟨⟨k0,k1,k2,k3⟩,C3⟩:=KS S3;by_cases hlt:k<c.cs.length
    ·skip
     have hkI:(k:Int)<(c.cs.length:Int):=by omega
     obtain⟨b,off,hao,hbl,hc2⟩:=C3.cs.at (isV_get hlt);have HX:=lst_next conB t1 c.cs k hlt (c.cs.length:Int);rw[<-HL1.out] at HX;have HXX:=Lib.hid HX;obtain⟨tk,htk⟩:∃tk,tk=t1++(LL1++((c.cs.take k).map conB).flatten):=⟨_,rfl⟩
     have htl:tk.length<=20000000:=by
      have hF:=F1 k;rw[htk];simp only[List.length_append];omega
     rw[<-htk] at R3;have HTK:=Lib.hid htk;clear htk HX;have hox:=C3.ok.cs _ (List.getElem_mem hlt);have hzb:=zg_bd (c.cs[k]) hox.1 hox.2;have CZ:=fun wz=>rzig_any (c.cs[k]) wz hox.1 hox.2;have CT:=fun wz=>rput_any (zg (c.cs[k])) wz hzb.1 hzb.2;have hsx:=sevs_len (zg (c.cs[k]));have hfx0:conB c.cs[k]=sevs (zg c.cs[k]):=rfl;rw[hfx0] at HXX;clear hfx0;generalize hfx:sevs (zg c.cs[k])=fx at *;clear hfx;generalize zg c.cs[k]=zx at *;generalize c.cs[k]=x at *;have HAO:=Lib.hid hao;rw[hao] at k1;clear hao;go_wp2_with (first|(go_at_call 51;refine(CZ _).mono ?_;rintro e wz0 ⟨rfl,hz0⟩;subst hz0)|(go_at_call 50;refine(CT _).mono ?_;rintro e w4 ⟨rfl,B4⟩;have R4:=(SrB.below (.inl R3) B4:SrB w4 o3 u3 tk))|(at_builtin;refine wpList_append_src rfl (.tmp 46) (.tmp 53) rfl o3 _ tk rfl R4 fx rfl hsx.1 ?d11 ?d21 ?_)|go_in)
     case d11=>unfold maxLen;omega
     case d21=>omega
     intro v5 w5 o5 R5 S5;have S6:=(SB S3 B4).trans S5;have R8:RwB w5 o5 v5 (t1++(LL1++((c.cs.take (k+1)).map conB).flatten)):=by
      rw[HXX.out,<-HTK.out];exact R5
     clear R5 S5 R4 R3 S3 B4;go_wp2;go_roundw
     case rel=>(try ((repeat apply Exists.intro);refine⟨?_,rfl⟩));exact⟨k+1,o5,by go_num,by omega,R8,S6⟩
     case measure=>simp[intOf];omega
    ·skip
     have hkI:¬(k:Int)<(c.cs.length:Int):=by omega
     have e:=lst_all conB c.cs k hlt;rw[<-HL1.out] at e;rw[e] at R3;clear e HL1 hlt;rw[<-H2.out] at R3;have RS:SrB wr o3 u3 t2:=.inl R3;have QQ:=S3;clear R3 C3;have hsl2:=sevs_len (c.ns.length:Int);have HP2:=rput_any (c.ns.length:Int) wr (by omega) (by omega);obtain⟨LL2,hLL2⟩:∃L,L=sevs (c.ns.length:Int):=⟨_,rfl⟩
     rw[<-hLL2] at HP2 hsl2;have HL2:=Lib.hid hLL2;clear hLL2;go_wp2_with (first|(go_at_call 50;refine HP2.mono ?_;rintro e wp2 ⟨rfl,BP2⟩)|(at_builtin;refine wpList_append_src rfl (.tmp 55) (.tmp 60) rfl o3 u3 t2 rfl (RS.below BP2) LL2 rfl hsl2.1 ?c12 ?c22 ?_)|go_in)
     case c12=>unfold maxLen;omega
     case c22=>omega
     intro va2 wa2 oa2 RA2 SA2;have SX2:=(SB QQ BP2).trans SA2;have RX2:RwB wa2 oa2 va2 (t2++(LL2++((c.ns.take 0).map namB).flatten)):=by simpa using RA2
     clear RS QQ BP2 SA2 RA2 HP2 k0 k1 k2 k3;obtain⟨k0,k1,k2,k3⟩:=(KS SX2).1;go_wp2_with fail;go_loopw [3,6] (fun vb vi wr=>∃(k:Nat) (o3:Nat->Nat),vi=.int .i64 (k:Nat)/\k<=c.ns.length/\RwB wr o3 vb (t2++(LL2++((c.ns.take k).map namB).flatten))/\Step (fun k=>k=1) w1 o wr o3) (fun _ vi _=>c.ns.length-(intOf vi).toNat)
     case atStart=>exact⟨0,oa2,by go_num,by omega,RX2,SX2⟩
     case round =>
      obtain⟨k,o3,rfl,hk,R3,S3⟩:=hrel;clear RX2 SX2 k0 k1 k2 k3;obtain⟨⟨k0,k1,k2,k3⟩,C3⟩:=KS S3;by_cases hlt:k<c.ns.length
      ·skip
       have hkI:(k:Int)<(c.ns.length:Int):=by omega
       obtain⟨b,off,hao,hbl,hc2⟩:=C3.ns.at (nsV_at hlt);have HX:=lst_next namB t2 c.ns k hlt (c.ns.length:Int);rw[<-HL2.out] at HX;have HXX:=Lib.hid HX;obtain⟨tk,htk⟩:∃tk,tk=t2++(LL2++((c.ns.take k).map namB).flatten):=⟨_,rfl⟩
       have htl:tk.length<=20000000:=by
        have hF:=F2 k;rw[htk];simp only[List.length_append];omega
       rw[<-htk] at R3;have HTK:=Lib.hid htk;clear htk HX;have hox:=hns _ (List.getElem_mem hlt);have hpos:=hnp _ (List.getElem_mem hlt);have CT:=fun wz=>rput_any ((c.ns[k]).size:Int) wz (by omega) (by omega);have hsx:=sevs_len ((c.ns[k]).size:Int);have hfx0:namB c.ns[k]=sevs ((c.ns[k]).size:Int)++(c.ns[k]).data.toList:=rfl;have hnl2:(c.ns[k]).data.toList.length=(c.ns[k]).size:=Array.length_toList;rw[hfx0] at HXX;clear hfx0;generalize hfx:sevs ((c.ns[k]).size:Int)=fx at *;clear hfx;obtain⟨x,hxx⟩:∃x,c.ns[k]=x:=⟨_,rfl⟩
       rw[hxx] at hc2 hox hpos CT hnl2 HXX;have HAO:=Lib.hid hao;rw[hao] at k2;clear hao;go_wp2_with (first|(go_at_call 50;refine(CT _).mono ?_;rintro e w4 ⟨rfl,B4⟩;have R4:=(SrB.below (.inl R3) B4:SrB w4 o3 u3 tk))|(at_builtin;refine wpList_append_src rfl (.tmp 69) (.tmp 77) rfl o3 _ tk rfl R4 fx rfl hsx.1 ?d12 ?d22 ?_)|go_in)
       case d12=>unfold maxLen;omega
       case d22=>omega
       intro v5 w5 o5 R5 S5;have S6:=(SB S3 B4).trans S5;clear k0 k1 k2 k3;obtain⟨⟨k0,k1,k2,k3⟩,C5⟩:=KS S6;obtain⟨b',off',hao',hbl',hc5⟩:=C5.ns.at (nsV_at hlt);rw[HAO.out] at hao';cases hao';rw[HAO.out] at k2;have hcx:w5.cell? ⟨b,off+k,none⟩=some (.string x):=by
        have:=hc5
        rw[hxx] at this;exact this
       clear S5 R4 R3 S3 B4 hc2 hc5 C3 C5;have hcy:w5.cell? ⟨b,off+k,none⟩=some (.string ⟨x.data.toList.toArray⟩):=by
        have hxm:(⟨x.data.toList.toArray⟩:ByteArray)=x:=by cases x;simp
        rw[hxm];exact hcx
       clear hcx;go_wp2_with (first|(at_builtin;refine wpList_append_src rfl (.tmp 79) (.tmp 84) rfl o5 _ (tk++fx) rfl (.inl R5) x.data.toList rfl ?e0 ?e1 ?e2 ?_)|go_in)
       case e0=>omega
       case e1=>simp only[List.length_append];unfold maxLen;omega
       case e2=>simp only[List.length_append];omega
       intro v6 w6 o6 R6 S7;have S8:=S6.trans S7;have R8:RwB w6 o6 v6 (t2++(LL2++((c.ns.take (k+1)).map namB).flatten)):=by
        rw[HXX.out,<-HTK.out]
        first|exact R6|(rw[<-List.append_assoc];exact R6)
       clear R6 S7 R5 S6;go_wp2;go_roundw
       case rel=>(try ((repeat apply Exists.intro);refine⟨?_,rfl⟩));exact⟨k+1,o6,by go_num,by omega,R8,S8⟩
       case measure=>simp[intOf];omega
      ·skip
       have hkI:¬(k:Int)<(c.ns.length:Int):=by omega
       have e:=lst_all namB c.ns k hlt;rw[<-HL2.out] at e;rw[e] at R3;clear e HL2 hlt;rw[<-H3.out] at R3;have RS:SrB wr o3 u3 t3:=.inl R3;have QQ:=S3;clear R3 C3;have hsl3:=sevs_len (c.ks.length:Int);have HP3:=rput_any (c.ks.length:Int) wr (by omega) (by omega);obtain⟨LL3,hLL3⟩:∃L,L=sevs (c.ks.length:Int):=⟨_,rfl⟩
       rw[<-hLL3] at HP3 hsl3;have HL3:=Lib.hid hLL3;clear hLL3;go_wp2_with (first|(go_at_call 50;refine HP3.mono ?_;rintro e wp3 ⟨rfl,BP3⟩)|(at_builtin;refine wpList_append_src rfl (.tmp 86) (.tmp 91) rfl o3 u3 t3 rfl (RS.below BP3) LL3 rfl hsl3.1 ?c13 ?c23 ?_)|go_in)
       case c13=>unfold maxLen;omega
       case c23=>omega
       intro va3 wa3 oa3 RA3 SA3;have SX3:=(SB QQ BP3).trans SA3;have RX3:RwB wa3 oa3 va3 (t3++(LL3++((c.ks.take 0).map sevs).flatten)):=by simpa using RA3
       clear RS QQ BP3 SA3 RA3 HP3 k0 k1 k2 k3;obtain⟨k0,k1,k2,k3⟩:=(KS SX3).1;go_wp2_with fail;go_loopw [3,7] (fun vb vi wr=>∃(k:Nat) (o3:Nat->Nat),vi=.int .i64 (k:Nat)/\k<=c.ks.length/\RwB wr o3 vb (t3++(LL3++((c.ks.take k).map sevs).flatten))/\Step (fun k=>k=1) w1 o wr o3) (fun _ vi _=>c.ks.length-(intOf vi).toNat)
       case atStart=>exact⟨0,oa3,by go_num,by omega,RX3,SX3⟩
       case round =>
        obtain⟨k,o3,rfl,hk,R3,S3⟩:=hrel;clear RX3 SX3 k0 k1 k2 k3;obtain⟨⟨k0,k1,k2,k3⟩,C3⟩:=KS S3;by_cases hlt:k<c.ks.length
        ·skip
         have hkI:(k:Int)<(c.ks.length:Int):=by omega
         obtain⟨b,off,hao,hbl,hc2⟩:=C3.ks.at (isV_get hlt);have HX:=lst_next sevs t3 c.ks k hlt (c.ks.length:Int);rw[<-HL3.out] at HX;have HXX:=Lib.hid HX;obtain⟨tk,htk⟩:∃tk,tk=t3++(LL3++((c.ks.take k).map sevs).flatten):=⟨_,rfl⟩
         have htl:tk.length<=20000000:=by
          have hF:=F3 k;rw[htk];simp only[List.length_append];omega
         rw[<-htk] at R3;have HTK:=Lib.hid htk;clear htk HX;have hox:=hks _ (List.getElem_mem hlt);have CT:=fun wz=>rput_any (c.ks[k]) wz hox.1 (by omega);have hsx:=sevs_len (c.ks[k]);generalize hfx:sevs c.ks[k]=fx at *;clear hfx;generalize c.ks[k]=x at *;have HAO:=Lib.hid hao;rw[hao] at k3;clear hao;go_wp2_with (first|(go_at_call 50;refine(CT _).mono ?_;rintro e w4 ⟨rfl,B4⟩;have R4:=(SrB.below (.inl R3) B4:SrB w4 o3 u3 tk))|(at_builtin;refine wpList_append_src rfl (.tmp 100) (.tmp 107) rfl o3 _ tk rfl R4 fx rfl hsx.1 ?d13 ?d23 ?_)|go_in)
         case d13=>unfold maxLen;omega
         case d23=>omega
         intro v5 w5 o5 R5 S5;have S6:=(SB S3 B4).trans S5;have R8:RwB w5 o5 v5 (t3++(LL3++((c.ks.take (k+1)).map sevs).flatten)):=by
          rw[HXX.out,<-HTK.out];exact R5
         clear R5 S5 R4 R3 S3 B4;go_wp2;go_roundw
         case rel=>(try ((repeat apply Exists.intro);refine⟨?_,rfl⟩));exact⟨k+1,o5,by go_num,by omega,R8,S6⟩
         case measure=>simp[intOf];omega
        ·skip
         have hkI:¬(k:Int)<(c.ks.length:Int):=by omega
         have e:=lst_all sevs c.ks k hlt;rw[<-HL3.out] at e;rw[e] at R3;clear e HL3 hlt;rw[HEND.out] at R3;have BE:=S3.below hol;have LE:∀ k,k<w.heap.size->o3 k=0:=fun j hj=>by rw[S3.lab j (Nat.lt_of_lt_of_le hj B1.size)];exact ho0 j (Nat.lt_of_lt_of_le hj B1.size)
         go_wp2;go_ret;exact⟨_,rfl,o3,R3,LE,B1.trans (BE.mono B1.size)⟩
theorem byL_at {t:List UInt8}{k:Nat}(h:k<t.length):(byL t)[k]?=some (.int .u8 (t[k].toNat:Int)):=by simp[byL,h]
theorem rsum_c (t:List UInt8)(v:Value)(o:Nat->Nat)(w:World)(hR:RwB w o v t)(h0:0<t.length)(ht:t.length<=100000000) :
  Calls Tryd.prog 30 #[v] w fun e w'=>e=.returned (.int .u64 (sumB t))/\w'=w:=by
 obtain⟨g,cap,rfl,-,-,-,-,hc,-⟩:=Row.pos hR h0;clear hR;go_enter Tryd.func30,Tryd.ntmps30;go_wp2_with fail;go_loopw [3,4] (fun h i wr=>∃k:Nat,∃x:Int,i=.int .i64 (k:Nat)/\h=.int .u64 x/\k<=t.length/\Hid (x=sumB (t.take k))/\0<=x/\x<18446744073709551616/\wr=w) (fun _ i _=>t.length-(intOf i).toNat)
 case atStart=>exact⟨0,0,by go_num,rfl,by omega,rfl,by omega,by omega,rfl⟩
 case round =>
  obtain⟨k,x,rfl,rfl,hk,HX,hx1,hx2,rfl⟩:=hrel;by_cases hlt:k<t.length
  ·have hkI:(k:Int)<(t.length:Int):=by omega
   have hcx:=hc k (by omega);rw[byL_at hlt] at hcx;have hb:(t[k]).toNat<256:=UInt8.toNat_lt _;have HN:Hid (mx x (zg ((t[k]).toNat:Int))=sumB (t.take (k+1))):=by
    show _=_;rw[List.take_succ_eq_append_getElem hlt,sumB,stir_snoc,HX.out];rfl
   have MX:=rmix_any x ((t[k]).toNat:Int) wr hx1 hx2 (by omega) (by omega);have bd:=mx_bd x (zg ((t[k]).toNat:Int));generalize mx x (zg ((t[k]).toNat:Int))=y at MX bd HN;generalize (t[k]).toNat=q at *;clear hc;go_wp2_with (go_at_call 52;refine MX.mono ?_;rintro e w1 ⟨rfl,rfl⟩);go_roundw
   case rel=>(try ((repeat apply Exists.intro);refine⟨?_,rfl⟩));exact⟨k+1,y,by go_num,rfl,by omega,HN.out,bd.1,bd.2,by trivial⟩
   case measure=>simp[intOf];omega
  ·have hkI:¬(k:Int)<(t.length:Int):=by omega
   have fin:x=sumB t:=by rw[HX.out,List.take_of_length_le (by omega)]
   have FN:=Lib.hid fin;clear fin hc;go_wp2;go_ret;exact⟨by rw[<-FN.out];rfl,rfl⟩
theorem sel_next (h:Int)(k:Nat)(hk:k<8):(selB h).take (k+1)=(selB h).take k++[UInt8.ofNat (h.toNat / 256 ^ k)]:=by
 rw[List.take_succ_eq_append_getElem (by rw[selB_len];exact hk)];simp[selB]
theorem sel_rem (h:Int)(k:Nat)(h1:0<=h):(h / 256 ^ k) % 256=((UInt8.ofNat (h.toNat / 256 ^ k)).toNat:Int):=by
 obtain⟨n,rfl⟩:=Int.eq_ofNat_of_zero_le h1;have e:((256:Int) ^ k)=((256 ^ k:Nat):Int):=by simp
 rw[e,UInt8.toNat_ofNat',Int.toNat_natCast]
 have:((n:Int) / ((256 ^ k:Nat):Int))=((n / 256 ^ k:Nat):Int):=by simp
 rw[this];omega
theorem rencode_c (p:Pl)(c:Cd)(w:World)(hC:CdW w p c) :
  Calls Tryd.prog 14 #[cdV p c] w fun e w'=>e=.returned (encR c)/\Below w.heap.size w w':=by
 obtain⟨w1,hw1⟩:∃w1,w1=w.alloc (.cells (cdA p c) 26):=⟨_,rfl⟩
 obtain⟨b0,hb0⟩:∃b0,b0=w.heap.size:=⟨_,rfl⟩
 have B1:Below w.heap.size w w1:=by rw[hw1];exact b1 _ _
 have K1:bx4 p c w1 b0:=by rw[hw1,hb0];exact bx4_new p c w
 have L1:b0<w1.heap.size:=by rw[hw1,hb0];simp
 have C1:=hC.below B1;have HB0:Hid (b0=w.heap.size):=hb0;clear hb0 hC;obtain⟨k0,k1,k2,k3⟩:=K1;have R1:=rright_c p c w1 C1;obtain⟨ii,hii,hz0,hz1,hz2⟩:=info_parts infoU8;cases hr:rgtB c
 ·rw[hr] at R1;have fin:encR c=.tuple #[.string ⟨#[]⟩,.int .i64 180]:=by simp[encR,hr]
  rw[fin];go_enter Tryd.func14,Tryd.ntmps14;go_wp2_with fail;rw[<-hw1];refine R1.mono ?_;rintro e w2 ⟨rfl,B2⟩;go_wp2;go_ret2;exact⟨rfl,B1.trans (B2.mono B1.size)⟩
 ·rw[hr] at R1;have fin:encR c=.tuple #[.string ⟨(bodB c++selB (sumB (bodB c))).toArray⟩,.int .i64 0]:=by simp[encR,hr,encB,sldB]
  rw[fin];have hbl:=body_len C1.ok hr;have hbp:0<(bodB c).length:=by unfold bodB;simp
  have hsb:=sumB_bd (bodB c);obtain⟨BD,hBD⟩:∃BD,BD=bodB c:=⟨_,rfl⟩
  rw[<-hBD] at hbl hbp hsb ⊢;have HBD:=Lib.hid hBD;obtain⟨sm,hsm⟩:∃sm,sm=sumB BD:=⟨_,rfl⟩
  rw[<-hsm] at hsb ⊢;have HSM:=Lib.hid hsm;obtain⟨ZZ,hZZ⟩:∃ZZ,ZZ=BD++selB sm:=⟨_,rfl⟩
  rw[<-hZZ];have hzp:0<ZZ.length:=by rw[hZZ,List.length_append];omega
  have HZZ:=Lib.hid hZZ;clear hBD hsm fin hZZ;go_enter Tryd.func14,Tryd.ntmps14;go_wp2_with fail;rw[<-hw1,<-HB0.out];clear hw1;refine R1.mono ?_;rintro e w2 ⟨rfl,B2⟩;have C2:=C1.below B2;have LD:=laid_c p c w2 C2 hr;obtain⟨q0,q1,q2,q3⟩:=bx4_below ⟨k0,k1,k2,k3⟩ L1 B2;rw[<-HBD.out] at LD;clear R1 k0 k1 k2 k3 C1;go_wp2_with fail;refine LD.mono ?_;rintro e w3 ⟨v3,rfl,o3,R3,L3,B3⟩;have SM:=rsum_c BD v3 o3 w3 R3 hbp (by omega);rw[<-HSM.out] at SM;clear LD q0 q1 q2 q3 C2;go_wp2_with (go_at_call 30;refine SM.mono ?_;rintro e w4 ⟨rfl,hz⟩;subst hz);have BB:=B1.trans (B2.mono B1.size);have BB3:Below w.heap.size w w4:=BB.trans (B3.mono BB.size);have L3':∀ k,k<w.heap.size->o3 k=0:=fun k hk=>L3 k (Nat.lt_of_lt_of_le hk BB.size);have R3':RwB w4 o3 v3 (BD++(selB sm).take 0):=by simpa using R3
  clear SM L3 R3 B3 BB B1 B2;go_loopw [5,6,7] (fun vb vh vi wr=>∃(k:Nat) (x:Int) (o5:Nat->Nat),vi=.int .i64 (k:Nat)/\vh=.int .u64 x/\k<=8/\Hid (x=sm / 256 ^ k)/\0<=x/\x<18446744073709551616/\RwB wr o5 vb (BD++(selB sm).take k)/\(∀ k,k<w.heap.size->o5 k=0)/\Below w.heap.size w wr) (fun _ _ vi _=>8-(intOf vi).toNat)
  case atStart=>exact⟨0,sm,o3,by go_num,rfl,by omega,by show _=_;simp,hsb.1,hsb.2,R3',L3',BB3⟩
  case round =>
   obtain⟨k,x,o5,rfl,rfl,hk,HX,hx1,hx2,R5,L5,B5⟩:=hrel;clear R3' L3' BB3;have htl:(BD++(selB sm).take k).length<=20000000:=by simp;omega
   by_cases hlt:k<8
   ·have hkI:(k:Int)<8:=by omega
    have HN:=Lib.hid (sel_next sm k hlt);have hrm:=sel_rem sm k hsb.1;rw[<-HX.out] at hrm;have HX2:Hid (x / 256=sm / 256 ^ (k+1)):=by
     show _=_;rw[HX.out,Int.pow_succ,Int.ediv_ediv_of_nonneg (Int.pow_nonneg (by omega))]
    generalize hyb:UInt8.ofNat (sm.toNat / 256 ^ k)=yb at *;clear hyb;have hyl:yb.toNat<256:=UInt8.toNat_lt _;have HT:Hid (byL (BD++(selB sm).take k)++[.int .u8 (yb.toNat:Int)]=byL (BD++(selB sm).take (k+1))/\(BD++(selB sm).take k).length+1=(BD++(selB sm).take (k+1)).length):=by
     show _/\_;rw[HN.out];constructor
     ·simp[byL]
     ·simp;omega
    generalize htk:BD++(selB sm).take k=tk at *;clear htk;go_wp2_with (first|(at_builtin;refine wpList_append_lab rfl _ _ 44 rfl 5 ii (.int .u8 0) 1 1 Tryd.underlying44 hii hz0 hz1 hz2 rfl (by decide) o5 1 _ tk.length (byL tk) rfl (Row.step R5 (Step.ofBelow (I:=fun _=>False) o5 (b1 _ _)) (fun h=>h)) ⟨wr.heap.size,0,none⟩ 1 1 [.int .u8 (yb.toNat:Int)] rfl rfl ?c1 ?c2 (by decide) ?c4 ?c5 ?_)|go_in)
    case c1=>exact new_one _ _ _
    case c2=>intro u hu;simp at hu;subst hu;rfl
    case c4=>unfold maxLen;omega
    case c5=>omega
    intro g6 cap6 w6 o6 R6 S6;have SA:Step (fun k=>k=1) wr o5 w6 o6:=(Step.ofBelow o5 (b1 wr (.cells #[.int .u8 (yb.toNat:Int)] 5))).trans S6;have L6:∀ k,k<w.heap.size->o6 k=0:=fun j hj=>by rw[SA.lab j (Nat.lt_of_lt_of_le hj B5.size)];exact L5 j hj
    have B6:Below w.heap.size w w6:=B5.trans ⟨SA.os,SA.tape,SA.output,SA.size,fun j hj=>SA.block j (Nat.lt_of_lt_of_le hj B5.size) (by rw[L5 j hj];decide)⟩;have R7:RwB w6 o6 (.slice (some ⟨g6,0,none⟩) (tk.length+1) cap6) (BD++(selB sm).take (k+1)):=by
     unfold RwB;rw[<-HT.out.2,<-HT.out.1];exact R6
    clear R6 S6 SA R5 L5 B5 HT;go_wp2;go_roundw
    case rel=>(try ((repeat apply Exists.intro);refine⟨?_,rfl⟩));exact⟨k+1,x / 256,o6,by go_num,by go_num,by omega,HX2.out,by omega,by omega,R7,L6,B6⟩
    case measure=>simp[intOf];omega
   ·obtain rfl:k=8:=by omega
    have e8:(selB sm).take 8=selB sm:=List.take_of_length_le (by rw[selB_len];omega);rw[e8,<-HZZ.out] at R5;obtain⟨g6,cap6,rfl,-,hcv⟩:=RwB.pos R5 hzp;clear R5 e8;go_wp2;go_ret2;exact⟨rfl,B5⟩
end Go.Proofs.YtjjhcbmhdkobkaaDoor

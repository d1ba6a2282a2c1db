import Derived.Test.YtdhhnhjolmnkjabDoorTailM
import Derived.SizedLaws
import Derived.ShutString
import Derived.Stop.LaidErr
import Derived.Deep.DeepHandedRow
import Derived.Deep.Slices
import Derived.SliceStrings
set_option maxRecDepth 100000
set_option maxHeartbeats 8000000
namespace Go.Proofs.YtdhhnhjolmnkjabDoor
open Go.ChangeShapes Go.WideShapes Go.ChangeAt Go.RowKit
set_option linter.unusedVariables false
set_option linter.unusedSimpArgs false
theorem words_okt (l:List Rw):∀ u ∈ l.map wdN,0<=u/\u<18446744073709551616:=fun u hu=>by
 obtain⟨r,_,rfl⟩:=List.mem_map.1 hu;exact wdN_bd r
theorem k1_lsv (w:World)(g:Nat)(hg:w.heap.size=g)(t:TypeId):Lsv (w.alloc (.cells #[.int .i64 1] t)) (some ⟨g,0,none⟩) (isV [1]):=by
 subst hg;have hh:=heap_alloc_new w (.cells #[.int .i64 1] t);refine .inr ⟨w.heap.size,0,rfl,by simp,fun j x hx=>?_⟩;unfold World.cell?;rw[hh]
 match j,hx with
 | 0,hx=>simp[isV] at hx;subst hx;rfl
theorem text_one (w:World)(g:Nat)(b:UInt8)(hb:w.heap[g]?=some (.cells #[.int .u8 (b.toNat:Int)] 5 (0,0))) :
  (convert 40 9 (.slice (some ⟨g,0,none⟩) 1 1)).run Tryd.prog w=.ok (.string ⟨#[b]⟩) w :=
 run_convert_bytes_back _ 40 9 5 ⟨g,0,none⟩ 1 [b] Tryd.underlying40 Tryd.underlying5 Tryd.underlying9
  (fun j hj=>by
   have e:j=0:=by simp at hj;omega
   subst e;simp only[List.getElem_cons_zero];rw[Addr.add_mid,Nat.zero_add];simp[World.cell?,hb])
theorem codeTail_walk (aR:Option Addr)(cR:Nat)(l:List Rw)(aS:Option Addr)(cS:Nat)(cs:List Int)(at1 by1:Int)(w:World)(hF:Fx w)
  (hR:RawW w aR l) (okR:∀ r ∈ l,r.Ok) (lR:l.length*24<=140737488351232) (hS:Lsv w aS (isV cs)) (okS:∀ u ∈ cs,-9223372036854775808<=u/\u<=9223372036854775807) (lS:cs.length*8<=140737488351232)
  (ha:-9223372036854775808<=at1/\at1<=9223372036854775807) (hb:-9223372036854775808<=by1/\by1<=9223372036854775807) :
  Calls Tryd.prog 4 #[.slice aR l.length cR,.slice aS cs.length cS,.int .i64 at1,.int .i64 by1] w fun e w'=>e=.returned (.bool true)/\Below w.heap.size w w':=by
 obtain⟨g,hg⟩:∃g,g=w.heap.size:=⟨_,rfl⟩
 have HG:=Lib.hid hg;have HA:=awake_c w hF;have PA:=fun w=>pick_c at1 8 w ha.1 ha.2 (by omega) (by omega);have PB:=fun w=>pick_c by1 255 w hb.1 hb.2 (by omega) (by omega);have pa:=pk_bd at1 8 (by omega);have pb:=pk_bd by1 255 (by omega);generalize pk at1 8=xa at *;generalize pk by1 255=xb at *;go_enter Tryd.func4,Tryd.ntmps4;go_wp2_with fail;refine HA.mono ?_;rintro e w0 ⟨rfl,B0⟩;have F0:=hF.below B0;have R0:=hR.below B0;have S0:=hS.below B0;have BB0:Below g w w0:=by rw[hg];exact B0
 have z0:=B0.size;rw[<-hg] at z0;obtain⟨g1,hg1⟩:∃g1,g1=w0.heap.size:=⟨_,rfl⟩
 obtain⟨w1,hw1⟩:∃w1,w1=w0.alloc (.cells #[.int .i64 1] 3):=⟨_,rfl⟩
 have B1:Below w0.heap.size w0 w1:=by rw[hw1];exact b1 _ _
 have L1:Lsv w1 (some ⟨g1,0,none⟩) (isV [1]):=by rw[hw1];exact k1_lsv w0 g1 hg1.symm _
 have F1:=F0.below B1;have BB1:=bdt BB0 B1 z0;have z1:=Nat.le_trans z0 B1.size;have S1:=S0.below B1;have HM:=mk_c w1 aR cR l (.slice aS cs.length cS) (.slice none 0 0) (.slice (some ⟨g1,0,none⟩) 1 1) (R0.below B1) okR (by omega) ⟨_,_,_,rfl⟩ ⟨_,_,_,rfl⟩ ⟨_,_,_,rfl⟩;have HG1:=Lib.hid hg1;clear HA hR hF hS B0 hg F0 R0 S0 BB0 B1 hg1;go_wp2_with fail;rw[<-hw1,<-HG1.out];clear hw1;refine HM.mono ?_;rintro e w2 ⟨aw,cw,rfl,LW,B2⟩;obtain⟨c,hc⟩:∃c:Cd,c=⟨l.map wdN,cs,[],[1]⟩:=⟨_,rfl⟩
 obtain⟨p,hp⟩:∃p:Pl,p=⟨aw,cw,aS,cS,none,0,some ⟨g1,0,none⟩,1⟩:=⟨_,rfl⟩
 have C2:CdW w2 p c:=by
  rw[hc,hp];exact⟨⟨words_okt l,okS,by simp,by simp⟩,LW,S1.below B2,.inl rfl,L1.below B2,by simp;omega,by dsimp only;omega,by simp,by simp⟩
 have F2:=F1.below B2;have BB2:=bdt BB1 B2 z1;have z2:=Nat.le_trans z1 B2.size;have ev:(.agg #[.slice aw l.length cw,.slice aS cs.length cS,.slice none 0 0,.slice (some ⟨g1,0,none⟩) 1 1]:Value)=cdV p c:=by rw[hp,hc];simp[cdV,cdA]
 rw[ev];obtain⟨w4,hw4⟩:∃w4,w4=w2.alloc (.cells (cdA p c) 28):=⟨_,rfl⟩
 obtain⟨g4,hg4⟩:∃g4,g4=w2.heap.size:=⟨_,rfl⟩
 have B4:Below w2.heap.size w2 w4:=by rw[hw4];exact b1 _ _
 have K4:bx4 p c w4 g4:=by rw[hw4,hg4];exact bx4_new p c w2
 have L4:g4<w4.heap.size:=by rw[hw4,hg4];simp
 have C4:=C2.below B4;have F4:=F2.below B4;have BB4:=bdt BB2 B4 z2;have z4:=Nat.le_trans z2 B4.size;have HG4:=Lib.hid hg4;clear HM LW B2 F1 F2 C2 B4 hg4 ev hc hp L1 S1 BB1 BB2 z0 z1 z2;go_upto_region 3 with fail;rw[<-hw4,<-HG4.out];clear hw4;have HE:=encode_c p c w4 F4 C4;cases hr:rgtB c
 ·have e1:encR c=.tuple #[.string ⟨#[]⟩,.int .i64 180]:=by simp[encR,hr]
  rw[e1] at HE;obtain⟨k0,k1,k2,k3⟩:=K4;clear hr e1;go_wp2_with fail;refine HE.mono ?_;rintro e w5 ⟨rfl,B5⟩;go_wp2;go_ret;exact⟨rfl,by rw[<-HG.out];exact bdt BB4 B5 z4⟩
 ·obtain⟨z,hz⟩:∃z:ByteArray,z=⟨(encB c).toArray⟩:=⟨_,rfl⟩
  have e1:encR c=.tuple #[.string z,.int .i64 0]:=by simp[encR,hr,hz]
  rw[e1] at HE;have HM:=fun w F C=>sumc_c p c w F C;have e2:smR c=sumB (bodB c):=by simp[smR,hr]
  rw[e2] at HM;have hbl:=body_len C4.ok hr;have hbm:=tl_bod c;have hel:=tl_len c;have sz:z.size=(encB c).length:=by rw[hz,size_mk]
  rw[hel] at sz;have AT:=Lib.hid (fun k hk h=>seal_at c z hz k hk h);have TU:=Lib.hid (fun j h1 h2 b hb=>seal_turn c C4.ok hr z hz j h1 h2 b hb);have bs:=sumB_bd (bodB c);obtain⟨n,hn⟩:∃n,n=(bodB c).length:=⟨_,rfl⟩
  rw[<-hn] at sz hbl hbm AT TU;generalize sumB (bodB c)=h at *;have szI:¬(z.size:Int)<12:=by omega
  obtain⟨k0,k1,k2,k3⟩:=K4;clear hr e1 e2 hel hn hz;go_wp2_with fail;refine HE.mono ?_;rintro e w5 ⟨rfl,B5⟩;have F5:=F4.below B5;have C5:=C4.below B5;have BB5:=bdt BB4 B5 z4;have z5:=Nat.le_trans z4 B5.size;have K5:=bx4_below (p:=p) (c:=c) ⟨k0,k1,k2,k3⟩ L4 B5;have HM5:=HM w5 F5 C5;clear HE B5 BB4 F4 C4 k0 k1 k2 k3 HM;obtain⟨k0,k1,k2,k3⟩:=K5;go_wp2_with fail;refine HM5.mono ?_;rintro e w6 ⟨rfl,B6⟩;have F6:=F5.below B6;have BB6:=bdt BB5 B6 z5;have z6:=Nat.le_trans z5 B6.size;clear HM5 F5 C5 BB5 B6 k0 k1 k2 k3 z5 z4 L4;go_wp2_with fail;go_loopw [13,14] (fun hv i wr=>∃k:Nat,∃x:Int,i=.int .i64 (k:Nat)/\hv=.int .u64 x/\k<=8/\Hid (x=h / ((256 ^ k:Nat):Int))/\0<=x/\x<18446744073709551616/\wr=w6) (fun _ i _=>8-(intOf i).toNat)
  case atStart=>exact⟨0,h,by go_num,rfl,by omega,by show _=_;simp,bs.1,bs.2,rfl⟩
  case round =>
   obtain⟨k,x,rfl,rfl,hk,HX,hx1,hx2,rfl⟩:=hrel;by_cases hlt:k<8
   ·have hkI:(k:Int)<8:=by omega
    have hjI:(z.size:Int)-8+(k:Int)=((n+k:Nat):Int):=by omega
    have hjl:n+k<z.size:=by omega
    have hjlI:((n+k:Nat):Int)<(z.size:Int):=by omega
    have hat:=AT.out k hlt hjl;rw[<-HX.out] at hat;have hx3:x.tmod 256=x % 256:=Int.tmod_eq_emod_of_nonneg hx1;have hx4:x.tdiv 256=x / 256:=Int.tdiv_eq_ediv_of_nonneg hx1;have HN:Hid (x / 256=h / ((256 ^ (k+1):Nat):Int)):=by
     show _=_;rw[HX.out,Nat.pow_succ,Int.natCast_mul,Int.ediv_ediv_of_nonneg (Int.natCast_nonneg _)];rfl
    have hxa:0<=x / 256/\x / 256<18446744073709551616:=by omega
    generalize x / 256=y at *;have hxb:0<=x % 256/\x % 256<256:=by omega
    generalize x % 256=u at *;clear HX;go_wp2;go_roundw
    case rel=>(try ((repeat apply Exists.intro);refine⟨?_,rfl⟩));exact⟨k+1,y,by go_num,rfl,by omega,HN,hxa.1,hxa.2,by trivial⟩
    case measure=>simp[intOf];omega
   ·have hkI:¬(k:Int)<8:=by omega
    obtain⟨m,hm⟩:∃m:Nat,(m:Int)=xa:=⟨xa.toNat,by omega⟩
    subst hm;have hm8:m<8:=by omega
    have hjI:(z.size:Int)-8+(m:Int)=((n+m:Nat):Int):=by omega
    have hjl:n+m<z.size:=by omega
    have TU2:=Lib.hid (fun b hb=>TU.out (n+m) (by omega) hjl b hb);clear HX AT TU hx1 hx2 hk hlt;generalize n+m=j at *;have hjlI:(j:Int)<(z.size:Int):=by omega
    have HSZ:=Lib.hid sz;have hzz:z.size<=10000008:=by omega
    clear sz;go_upto_region 16 with (go_at_call 11;refine(PA _).mono ?_;rintro e w7 ⟨rfl,rfl⟩)
    obtain⟨b,hbd⟩:∃b:UInt8,b=UInt8.ofNat ((z[j]'hjl).toNat+1+xb.toNat):=⟨_,rfl⟩
    have hzb:(z[j]'hjl).toNat<256:=UInt8.toNat_lt _;have ebn:b.toNat=((z[j]'hjl).toNat+1+xb.toNat) % 256:=by rw[hbd,UInt8.toNat_ofNat']
    have eb:IntKind.u8.wrap (((z[j]'hjl).toNat:Int)+1+xb)=(b.toNat:Int):=by
     rw[IntKind.wrap_u8,ebn];omega
    have hbne:b≠z[j]'hjl:=fun h=>by
     rw[h] at ebn;omega
    have NO:=Lib.hid (TU2.out b hbne);have hvI:0<=((z[j]'hjl).toNat:Int)/\((z[j]'hjl).toNat:Int)<256:=by omega
    clear TU2 hbne hbd ebn hzb;generalize hzv:(z[j]'hjl).toNat=v at *
    go_quiet ((go_at_call 11;exact Calls.quiet_of_same (PB _)))
    have B8:Below w7.heap.size w7 (w7.drewN nq):=below_drewN _ _;have F8:=F6.below B8;have BB8:=bdt BB6 B8 z6;have z8:g<=(w7.drewN nq).heap.size:=Nat.le_trans z6 B8.size;clear B8 F6 BB6 z6 eb hzv hvI;generalize w7.drewN nq=w8 at *;go_upto_region 17 with fail;have hj1I:(j:Int)+1<=(z.size:Int):=by omega
    obtain⟨za,ea⟩:∃za:ByteArray,z.extract 0 j=za:=⟨_,rfl⟩
    obtain⟨zb,eb⟩:∃zb:ByteArray,(⟨#[b]⟩:ByteArray)=zb:=⟨_,rfl⟩
    obtain⟨zc,ec⟩:∃zc:ByteArray,z.extract (j+1) z.size=zc:=⟨_,rfl⟩
    have sa:za.size<=10000008:=by rw[<-ea,ByteArray.size_extract];omega
    have sb:zb.size=1:=by rw[<-eb];rfl
    have sc:zc.size<=10000008:=by rw[<-ec,ByteArray.size_extract];omega
    have NO2:=NO.out;rw[ea,eb,ec] at NO2;have HD:∀ wx,Below w8.heap.size w8 wx->Calls Tryd.prog 10 #[.string (za++zb++zc)] wx fun e w9=>Below wx.heap.size wx w9/\e=.returned (.tuple #[.agg nil4,.int .i64 180]):=fun wx Bx =>
     (decode_c (za++zb++zc) wx (F8.below Bx) (by rw[ByteArray.size_append,ByteArray.size_append];omega)).mono fun e w9 h=>tail_no h NO2
    have m1:¬maxLen<za.size+zb.size:=by unfold maxLen;omega
    have m2:¬maxLen<(za++zb).size+zc.size:=by rw[ByteArray.size_append];unfold maxLen;omega
    have m3:¬maxLen<za.size+zb.size+zc.size:=by unfold maxLen;omega
    have i1:(0:Int)<=(j:Int):=by omega
    have i2:(j:Int)<=(z.size:Int):=by omega
    have i3:(0:Int)<=(j:Int)+1:=by omega
    have i4:IntKind.i64.wrap ((j:Int)+1)=(j:Int)+1:=by rw[IntKind.wrap_i64];omega
    have i5:((j:Int)+1).toNat=j+1:=by omega
    clear NO NO2 sa sb sc;have fa:=text_one (w8.alloc (.cells #[.int .u8 (b.toNat:Int)] 5)).drew w8.heap.size b (heap_alloc_new w8 _);have fb:=text_one ((w8.alloc (.cells nil4 28)).alloc (.cells #[.int .u8 (b.toNat:Int)] 5)).drew (w8.heap.size+1) b (by have:=heap_alloc_new (w8.alloc (.cells nil4 28)) (.cells #[.int .u8 (b.toNat:Int)] 5);rw[World.size_alloc] at this;exact this);have fc:=text_one ((w8.alloc (.cells #[.int .u8 (b.toNat:Int)] 5)).alloc (.cells nil4 28)).drew w8.heap.size b ((Below.heap_alloc _ _ _ (by simp)).trans (heap_alloc_new w8 _));rw[eb] at fa fb fc;clear eb;obtain⟨wa,hwa⟩:∃wa,wa=(w8.alloc (.cells #[.int .u8 (b.toNat:Int)] 5)).drew:=⟨_,rfl⟩
    obtain⟨wb,hwb⟩:∃wb,wb=((w8.alloc (.cells nil4 28)).alloc (.cells #[.int .u8 (b.toNat:Int)] 5)).drew:=⟨_,rfl⟩
    obtain⟨wc,hwc⟩:∃wc,wc=((w8.alloc (.cells #[.int .u8 (b.toNat:Int)] 5)).alloc (.cells nil4 28)).drew:=⟨_,rfl⟩
    have BA:Below w8.heap.size w8 wa:=by rw[hwa];exact((Below.refl _ w8).alloc (Nat.le_refl _) _).drew
    have BB:Below w8.heap.size w8 wb:=by rw[hwb];exact(((Below.refl _ w8).alloc (Nat.le_refl _) _).alloc (by simp) _).drew
    have BC:Below w8.heap.size w8 wc:=by rw[hwc];exact(((Below.refl _ w8).alloc (Nat.le_refl _) _).alloc (by simp) _).drew
    have HsB:Hid (w8.heap.size<wb.heap.size):=by rw[hwb];show w8.heap.size<((w8.alloc _).alloc _).heap.size;simp;omega
    have HsC:Hid (w8.heap.size+1<wc.heap.size):=by rw[hwc];show w8.heap.size+1<((w8.alloc _).alloc _).heap.size;simp
    have HgB:Hid (wb.heap[w8.heap.size]?=some (.cells nil4 28 (0,0))):=by rw[hwb];exact(Below.heap_alloc _ _ _ (by simp)).trans (heap_alloc_new w8 _)
    have HgC:Hid (wc.heap[w8.heap.size+1]?=some (.cells nil4 28 (0,0))):=by rw[hwc];have:=heap_alloc_new (w8.alloc (.cells #[.int .u8 (b.toNat:Int)] 5)) (.cells nil4 28);rw[World.size_alloc] at this;exact this
    have HDA:=HD wa BA;have HDB:=HD wb BB;have HDC:=HD wc BC;have BBA:=bdt BB8 BA z8;have BBB:=bdt BB8 BB z8;have BBC:=bdt BB8 BC z8;have zA:=Nat.le_trans z8 BA.size;have zB:=Nat.le_trans z8 BB.size;have zC:=Nat.le_trans z8 BC.size;have HWA:=Lib.hid hwa;have HWB:=Lib.hid hwb;have HWC:=Lib.hid hwc;clear hwa hwb hwc HD BA BB BC;clear PB okR lR okS lS ha hb HG1 HG4 hbm hbl bs szI F8 BB8 HSZ;have Z8:=Lib.hid z8;clear z8;go_region_with (first
     | (go_at_call 10;rw[<-HWA.out];refine HDA.mono ?_;rintro e w9 ⟨B9,rfl⟩;have BZ:=bdt BBA B9 zA;have zz:=Nat.le_trans zA B9.size)
     | (go_at_call 10;rw[<-HWB.out];refine HDB.mono ?_;rintro e w9 ⟨B9,rfl⟩;have BZ:=bdt BBB B9 zB;have zz:=Nat.le_trans zB B9.size;obtain⟨⟨c0,c1,c2,c3⟩,gf⟩:=cells4 ((B9.block _ HsB.out).trans HgB.out);have gf0:=gf 0;have gf1:=gf 1;have gf2:=gf 2;have gf3:=gf 3)
     | (go_at_call 10;rw[<-HWC.out];refine HDC.mono ?_;rintro e w9 ⟨B9,rfl⟩;have BZ:=bdt BBC B9 zC;have zz:=Nat.le_trans zC B9.size;obtain⟨⟨c0,c1,c2,c3⟩,gf⟩:=cells4 ((B9.block _ HsC.out).trans HgC.out);have gf0:=gf 0;have gf1:=gf 1;have gf2:=gf 2;have gf3:=gf 3))
    all_goals
     go_wp2;go_ret;exact⟨by first|rfl|simp,by
      rw[<-HG.out];have z8:=Z8.out;have z81:g<=w8.heap.size+1:=by omega
      first
       | exact BZ.alloc zz _
       | exact(((BZ.setCell (p:=⟨w8.heap.size,0,none⟩) z8 _).setCell (p:=⟨w8.heap.size,1,none⟩) z8 _).setCell (p:=⟨w8.heap.size,2,none⟩) z8 _).setCell (p:=⟨w8.heap.size,3,none⟩) z8 _
       | exact(((BZ.setCell (p:=⟨w8.heap.size+1,0,none⟩) z81 _).setCell (p:=⟨w8.heap.size+1,1,none⟩) z81 _).setCell (p:=⟨w8.heap.size+1,2,none⟩) z81 _).setCell (p:=⟨w8.heap.size+1,3,none⟩) z81 _⟩
theorem ownK:ownKnob Tryd.prog.godebug=none:=by kernel_rfl
theorem laidOut:laidOutB Tryd.prog=true:=by kernel_rfl
theorem cellsInt:Tryd.prog.cellsOf 3=1:=by kernel_rfl
theorem gWd : Tryd.prog.globalNamed "isthmus/lex.words" = some 1 := by kernel_rfl
theorem gWdType:(Tryd.prog.globals[1]?).map (·.type)=some 85:=by kernel_rfl
theorem cellsWd:Tryd.prog.cellsOf 85=27:=by kernel_rfl
theorem cellsStr:Tryd.prog.cellsOf 9=1:=by kernel_rfl
def wordsD:List (DataW Unit):=(List.range 27).map fun j=>.lit (.string (wd j).data.toList)
theorem wordsD_eq:(Rows.laid_isthmus_lex_words:DataW Unit)=.agg wordsD:=by rfl
theorem wordsA_list:wordsA.toList=(List.range 27).map fun j=>Value.string (wd j):=by rfl
theorem words_of_cells {W:World}{fuel:Nat}{cs:List Value}{p:List MemPlace}(h:DataW.trod (fun _=>()) Tryd.prog W 0 (fun _=>true) false fuel 85 cs=some (.agg wordsD,p)):cs=wordsA.toList:=by
 obtain⟨xs,m,_,hx,hl,hlen,hf⟩:=DataW.trod_array Tryd.underlying85 h;rw[cellsWd] at hl;simp only[cellsStr,Nat.mul_one] at hf;simp only[Prod.mk.injEq,DataW.agg.injEq] at hx;rw[wordsA_list];apply List.ext_getElem?;intro i;by_cases hi:i<27
 ·have hfi:=hf i hi;have hxi:xs[i]?=some xs[i]:=List.getElem?_eq_getElem (by omega);rw[hxi] at hfi;obtain⟨s,h1,h2⟩:=DataW.trod_string Tryd.underlying9 hfi;have hc:cs[i]?=some (.string s):=by
   have:=congrArg (·[0]?) h1
   simpa [List.getElem?_take,List.getElem?_drop] using this
  have hd:(xs.map (·.1))[i]?=some (.lit (.string s.data.toList)):=by rw[List.getElem?_map,hxi,h2.1];rfl
  rw[<-hx.1] at hd;unfold wordsD at hd;rw[List.getElem?_map,List.getElem?_range hi] at hd;simp only[Option.map_some,Option.some.injEq,DataW.lit.injEq,Lit.string.injEq] at hd;have hs:=bytes_eq.1 hd;rw[hc,List.getElem?_map,List.getElem?_range hi,<-hs];rfl
 ·rw[List.getElem?_eq_none (by omega),List.getElem?_eq_none (by simp;omega)]
theorem wd_of_laid {W : World} {r : List (String × DataW Unit)} (h : laidMet Tryd.prog (("isthmus/lex.words", Rows.laid_isthmus_lex_words) :: r) W) : Wd W := by
 rw[wordsD_eq] at h;obtain⟨ps,⟨g',t',cs,fuel,p,q,hg',ht',hvar,hd,_,_⟩,_⟩:=h;obtain rfl:=Option.some.inj (gWd.symm.trans hg');obtain rfl:=Option.some.inj (gWdType.symm.trans ht');have hcs:=words_of_cells hd;have hcs':cs=wordsA:=Array.toList_inj.1 hcs;subst hcs';simp only[World.var?,gWd,Option.bind_some] at hvar;split at hvar
 ·rename_i c t fr hh
  cases hvar;exact⟨t,fr,hh⟩
 ·cases hvar
def layCells (cs:Array Value):Obj->Obj
 | .cells _ t frozen=>.cells cs t frozen
 | o=>o
theorem tab_of_laid2 {W : World} {r : List (String × DataW Unit)} (h : laidMet Tryd.prog (("isthmus/pack.fields", Rows.laid_isthmus_pack_fields) :: r) W) : Tab W := by
 obtain⟨ps,⟨g',t',cs,fuel,p,q,hg',ht',hvar,hd,_,_⟩,_⟩:=h;obtain rfl:=Option.some.inj (gTab.symm.trans hg');obtain rfl:=Option.some.inj (gTabType.symm.trans ht');obtain⟨xs,m,_,hx,hl,hlen,hf⟩:=DataW.trod_array Tryd.underlying89 hd;rw[cellsTab] at hl;simp only[cellsField] at hf
 match xs,hlen with
 | [x0,x1,x2],_ =>
  have f0:=hf 0 (by omega);have f1:=hf 1 (by omega);have f2:=hf 2 (by omega);simp only[Rows.laid_isthmus_pack_fields,List.map_cons,List.map_nil,Prod.mk.injEq,DataW.agg.injEq,List.cons.injEq,and_true] at hx;obtain⟨⟨e0,e1,e2⟩,_⟩:=hx;obtain⟨d0,p0⟩:=x0;obtain⟨d1,p1⟩:=x1;obtain⟨d2,p2⟩:=x2;simp only at e0 e1 e2;subst e0 e1 e2;have g0:=field_cells f0;have g1:=field_cells f1;have g2:=field_cells f2;obtain⟨l⟩:=cs
  match l,hl with
  | [v0,v1,v2,v3,v4,v5],_ =>
   simp at g0 g1 g2;obtain⟨rfl,rfl⟩:=g0;obtain⟨rfl,rfl⟩:=g1;obtain⟨rfl,rfl⟩:=g2;have hc:=fun i=>World.var?_cell gTab hvar i;have c0:=hc 0;have c1:=hc 1;have c2:=hc 2;have c3:=hc 3;have c4:=hc 4;have c5:=hc 5;simp at c0 c1 c2 c3 c4 c5;refine⟨c0,c1,c2,c3,c4,c5,?_⟩;by_cases hs:2<W.heap.size
   ·exact hs
   ·exfalso
    have:W.heap[2]?=none:=Array.getElem?_eq_none (by omega)
    simp[World.cell?,this] at c0
theorem gRul : Tryd.prog.globalNamed "isthmus/code.rules" = some 0 := by kernel_rfl
theorem gRulType:(Tryd.prog.globals[0]?).map (·.type)=some 80:=by kernel_rfl
theorem cellsRul:Tryd.prog.cellsOf 80=56:=by kernel_rfl
theorem cellsRu1:Tryd.prog.cellsOf 79=2:=by kernel_rfl
def rulesD:List (DataW Unit):=(List.range 28).map fun j=>.agg [.lit (.int .i64 (rulA.getD j 0:Nat)),.lit (.int .i64 (rulB.getD j 0:Nat))]
theorem rulesD_eq:(Rows.laid_isthmus_code_rules:DataW Unit)=.agg rulesD:=by rfl
theorem rule_cells {W:World}{m:Nat}{l:List Value}{a b:Int}{p:List MemPlace}
  (h:DataW.trod (fun _=>()) Tryd.prog W 0 (fun _=>true) false m 79 l=some (.agg [.lit (.int .i64 a),.lit (.int .i64 b)],p)):l=[.int .i64 a,.int .i64 b]:=by
 obtain⟨y0,y1,n,hx,hl,h0,h1⟩:=trod_struct2 Tryd.underlying79 h;simp only[Prod.mk.injEq,DataW.agg.injEq,List.cons.injEq,and_true] at hx;obtain⟨⟨e0,e1⟩,_⟩:=hx;obtain⟨z0,c0,r0,_⟩:=DataW.trod_int Tryd.underlying3 h0;obtain⟨z1,c1,r1,_⟩:=DataW.trod_int Tryd.underlying3 h1;subst r0 r1;simp only[DataW.lit.injEq,Lit.int.injEq,true_and] at e0 e1;subst e0 e1;rw[cellsRu1] at hl;simp only[cellsInt] at c0 c1
 match l,hl with
 | [v0,v1],_ =>
  simp at c0 c1;rw[c0,c1]
theorem rul_of_laid {W : World} {r : List (String × DataW Unit)} (h : laidMet Tryd.prog (("isthmus/code.rules", Rows.laid_isthmus_code_rules) :: r) W) : Rul W := by
 rw[rulesD_eq] at h;obtain⟨ps,⟨g',t',cs,fuel,p,q,hg',ht',hvar,hd,_,_⟩,_⟩:=h;obtain rfl:=Option.some.inj (gRul.symm.trans hg');obtain rfl:=Option.some.inj (gRulType.symm.trans ht');obtain⟨xs,m,_,hx,hl,hlen,hf⟩:=DataW.trod_array Tryd.underlying80 hd;rw[cellsRul] at hl;simp only[cellsRu1] at hf;simp only[Prod.mk.injEq,DataW.agg.injEq] at hx;have hc:=fun i=>World.var?_cell gRul hvar i;have key:∀ o,o<28->cs[o*2]?=some (.int .i64 (rulA.getD o 0:Nat))/\cs[o*2+1]?=some (.int .i64 (rulB.getD o 0:Nat)):=fun o ho=>by
  have hfi:=hf o ho;have hxi:xs[o]?=some xs[o]:=List.getElem?_eq_getElem (by omega);rw[hxi] at hfi;have hd:(xs.map (·.1))[o]?=some (xs[o].1):=by rw[List.getElem?_map,hxi];rfl
  rw[<-hx.1] at hd;unfold rulesD at hd;rw[List.getElem?_map,List.getElem?_range ho] at hd;simp only[Option.map_some,Option.some.injEq] at hd;have g:=rule_cells (p:=xs[o].2) (hfi.trans (congrArg some (Prod.ext hd.symm rfl)));have h0:((cs.toList.drop (o*2)).take 2)[0]?=some (.int .i64 (rulA.getD o 0:Nat)):=by rw[g];rfl
  have h1:((cs.toList.drop (o*2)).take 2)[1]?=some (.int .i64 (rulB.getD o 0:Nat)):=by rw[g];rfl
  simp only[List.getElem?_take,List.getElem?_drop] at h0 h1;exact⟨by simpa using h0,by simpa using h1⟩
 refine⟨?_,fun o ho=>⟨(hc (o*2)).trans (key o ho).1,(hc (o*2+1)).trans (key o ho).2⟩⟩;by_cases hs:0<W.heap.size
 ·exact hs
 ·exfalso;have h0:=(hc (0*2)).trans (key 0 (by omega)).1
  have:W.heap[0]?=none:=Array.getElem?_eq_none (by omega)
  simp[World.cell?,this] at h0
theorem fx_of_laid {W : World} (h : laidMet Tryd.prog [("isthmus/pack.fields", Rows.laid_isthmus_pack_fields), ("isthmus/lex.words", Rows.laid_isthmus_lex_words), ("isthmus/code.rules", Rows.laid_isthmus_code_rules)] W) : Fx W := ⟨tab_of_laid2 h, rul_of_laid h.tail.tail, wd_of_laid h.tail⟩
def rulesA:Array Value:=((List.range 56).map fun j=>if j % 2=0 then Value.int .i64 (rulA.getD (j / 2) 0:Nat) else .int .i64 (rulB.getD (j / 2) 0:Nat)).toArray
def laidWorld (P:Program)(os:Os):World :=
 let w0:=World.holding P os ⟨#[],#[],[]⟩
 { w0 with heap:=((w0.heap.modify 2 (layCells #[.int .u64 56,.int .u64 255,.int .u64 28,.int .u64 268435455,.int .u64 0,.int .u64 268435455])).modify 1 (layCells wordsA)).modify 0 (layCells rulesA) }
theorem cellsRaw:Tryd.prog.cellsOf 43=3:=by kernel_rfl
def Wgh {H:Type}(d:DataW H)(n:Nat):Prop:=(d=.nil/\n=0)\/∃es sp,d=.slice es sp/\n<=es.length+sp.length
theorem lsv_of {W:World}{a:Addr}{len cap:Nat}{vs:List Value}(hl:len<=vs.length)(hc:∀ i (h:i<vs.length),W.cell? (a.add i)=some vs[i])(hb:0<len->a.block<W.heap.size):Lsv W (some a) (vs.take len):=by
 by_cases h0:len=0
 ·exact .inl (by simp[h0])
 ·obtain⟨b,off,spot⟩:=a;have h1:=hc 0 (by omega);have hspot:spot=none:=by simpa [Addr.add] using World.cell?_spot h1
  subst hspot;refine .inr ⟨b,off,rfl,hb (by omega),fun j x hj=>?_⟩;rw[List.getElem?_take] at hj;split at hj
  ·have hj2:=List.getElem?_eq_some_iff.1 hj;obtain⟨h2,h3⟩:=hj2
   have:=hc j h2
   rw[Addr.add_mid] at this;rw[this,h3]
  ·cases hj
theorem opn_ints {H:Type}{enc:TypeId × Value->H}{W:World}{k:IntKind}{t e:TypeId}{fuel:Nat}{u:Value}{x:DataW H × List MemPlace}(ht:Tryd.prog.underlying t=some (.slice e))(he:Tryd.prog.underlying e=some (.int k))(hc:Tryd.prog.cellsOf e=1)
  (h:DataW.trod enc Tryd.prog W 0 (fun _=>true) true fuel t [u]=some x) (hlt:∀ q ∈ x.2,q.block<W.heap.size) :
  ∃(ao:Option Addr) (cap:Nat) (zs:List Int),u=.slice ao zs.length cap/\Lsv W ao (zs.map (.int k ·))/\(∀ n ∈ zs,(Lit.int k n).wf=true)/\zs.length<=maxLen/\Wgh x.1 zs.length:=by
 rcases open_ints ht he hc h with ⟨hcs,hx⟩|⟨a,len,cap,zs,hcs,_,hl,hm,hz,hx,hcell,hwz⟩
 ·simp at hcs;exact⟨none,0,[],hcs,.inl rfl,by simp,by unfold maxLen;simp,.inl ⟨by rw[hx],rfl⟩⟩
 ·simp at hcs;simp only[if_true] at hz;have hlz:(zs.take len).length=len:=by rw[List.length_take];omega
  refine⟨some a,cap,zs.take len,by rw[hlz];exact hcs,?_,fun n hn=>hwz n (List.mem_of_mem_take hn),by rw[hlz];exact Nat.le_trans hl hm,.inr ⟨_,_,by rw[hx],by simp[lits]<;>omega⟩⟩;rw[List.map_take];refine lsv_of (cap:=cap) (by simp;omega) (fun i hi=>?_) (fun h0=>?_)
  ·have hi':i<zs.length:=by simpa using hi
   have:=hcell i hi'
   rw[this];simp[List.getD_eq_getElem?_getD,List.getElem?_eq_getElem hi']
  ·have:=hlt (.cell a.block a.off) (by
    rw[hx];exact MemPlace.mem_row.2 ⟨0,by omega,by simp⟩)
   exact this
theorem open_isl {H:Type}{enc:TypeId × Value->H}{W:World}{a:Option Addr}{n c:Nat}{d:DataW H}{ps:List MemPlace}(h:DataW.Trod enc Tryd.prog W 0 (fun _=>true) true 25 (.slice a n c) d ps)(hlt:∀ q ∈ ps,q.block<W.heap.size) :
  ∃(ao:Option Addr) (cap:Nat) (zs:List Int),(.slice a n c:Value)=.slice ao zs.length cap/\Lsv W ao (isV zs)/\(∀ u ∈ zs,-9223372036854775808<=u/\u<=9223372036854775807)/\zs.length<=maxLen/\Wgh d zs.length:=by
 obtain⟨fuel,hf⟩:=h;obtain⟨ao,cap,zs,h1,h2,h3,h4,h5⟩:=opn_ints Tryd.underlying25 Tryd.underlying3 cellsInt hf hlt;exact⟨ao,cap,zs,h1,h2,fun u hu=>bd_i64 (h3 u hu),h4,h5⟩
theorem addp (b off k:Nat):(⟨b,off,none⟩:Addr).add k=⟨b,off+k,none⟩:=Addr.add_mid ..
theorem open_raws {H:Type}{enc:TypeId × Value->H}{W:World}{a:Option Addr}{n c:Nat}{d:DataW H}{ps:List MemPlace}(h:DataW.Trod enc Tryd.prog W 0 (fun _=>true) true 22 (.slice a n c) d ps)(hlt:∀ q ∈ ps,q.block<W.heap.size) :
  ∃(ao:Option Addr) (cap:Nat) (zs:List Rw),(.slice a n c:Value)=.slice ao zs.length cap/\RawW W ao zs/\(∀ r ∈ zs,r.Ok)/\zs.length<=maxLen/\Wgh d zs.length:=by
 obtain⟨fuel,hf⟩:=h;rcases Go.Deep.open_slice Tryd.underlying22 hf with ⟨hcs,hx⟩|⟨a',len',cap',m,n',D,Pl,hcs,_,hl,hm,hmm,hx,hel⟩
 ·simp[Value.cells] at hcs;obtain⟨rfl,rfl,rfl⟩:=hcs;simp only[Prod.mk.injEq] at hx;exact⟨none,0,[],rfl,.inl rfl,by simp,by simp,.inl ⟨hx.1,rfl⟩⟩
 ·simp[Value.cells] at hcs;obtain⟨rfl,rfl,rfl⟩:=hcs;simp only[Prod.mk.injEq] at hx;obtain⟨rfl,rfl⟩:=hx;simp only[if_true] at hmm;subst hmm;obtain⟨b,off,spot⟩:=a';have each:∀ i,i<n->∃r:Rw,spot=none/\b<W.heap.size/\(W.cell? ⟨b,off+i*3,none⟩=some (.int .i64 r.o)/\W.cell? ⟨b,off+i*3+1,none⟩=some (.int .i64 r.a)/\W.cell? ⟨b,off+i*3+2,none⟩=some (.int .i64 r.b))/\r.Ok:=by
   intro i hi;obtain⟨cs',h1,h2⟩:=hel i (by omega);rw[cellsRaw] at h1;obtain⟨_,hlen,hcell⟩:=World.cells?_some h1;obtain⟨xs,k,hk,hxy,_,hxl,hff⟩:=DataW.trod_struct Tryd.underlying43 h2
   match xs,hxl,cs',hlen with
   | [y0,y1,y2],_,[u0,u1,u2],_ =>
    have g0:=hff 0 _ rfl;have g1:=hff 1 _ rfl;have g2:=hff 2 _ rfl;simp[cellsInt] at g0 g1 g2;obtain⟨z0,e0,_,w0⟩:=DataW.trod_int Tryd.underlying3 g0;obtain⟨z1,e1,_,w1⟩:=DataW.trod_int Tryd.underlying3 g1;obtain⟨z2,e2,_,w2⟩:=DataW.trod_int Tryd.underlying3 g2;simp at e0 e1 e2;subst e0 e1 e2;have c0:=hcell 0 (by omega);have c1:=hcell 1 (by omega);have c2:=hcell 2 (by omega);have hspot:spot=none:=by
     obtain⟨cs0,k1,k2⟩:=hel 0 (by omega);rw[cellsRaw] at k1;obtain⟨_,klen,kcell⟩:=World.cells?_some k1;have k3:=kcell 0 (by omega);rw[List.getElem?_eq_getElem (by omega)] at k3;simpa [Addr.add] using World.cell?_spot k3
    subst hspot;simp only[addp] at c0 c1 c2;have hbl:b<W.heap.size:=hlt (.cell b off) (List.mem_append_left _ (MemPlace.mem_row.2 ⟨0,by rw[cellsRaw];omega,by simp⟩));have b0:=bd_i64 w0;have b1:=bd_i64 w1;have b2:=bd_i64 w2;exact⟨⟨z0,z1,z2⟩,rfl,hbl,⟨by simpa using c0,by simpa using c1,by simpa using c2⟩,⟨b0.1,b0.2,b1.1,b1.2,b2.1,b2.2⟩⟩
  have hlen:((List.range n).map fun i=>if h:i<n then (each i h).choose else ⟨0,0,0⟩).length=n:=by simp
  refine⟨some ⟨b,off,spot⟩,m,(List.range n).map fun i=>if h:i<n then (each i h).choose else ⟨0,0,0⟩,by rw[hlen],?_,?_,by rw[hlen];exact Nat.le_trans hl hm,.inr ⟨_,_,rfl,by simp<;>omega⟩⟩
  ·by_cases h0:n=0
   ·subst h0;exact .inl rfl
   ·have s0:=(each 0 (by omega)).choose_spec;refine .inr ⟨b,off,by rw[s0.1],s0.2.1,fun k hk=>?_⟩;have hk':k<n:=by simpa using hk
    simp only[List.getElem_map,List.getElem_range,dif_pos hk'];exact(each k hk').choose_spec.2.2.1
  ·intro r hr;obtain⟨i,hi,rfl⟩:=List.mem_map.1 hr;have hi':=List.mem_range.1 hi;simp only[dif_pos hi'];exact(each i hi').choose_spec.2.2.2
end Go.Proofs.YtdhhnhjolmnkjabDoor

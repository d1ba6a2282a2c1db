import Derived.Test.YtbjdkekhnajafaaGreatDoorWrqB
set_option maxRecDepth 100000
set_option maxHeartbeats 8000000
namespace Go.Proofs.YtbjdkekhnajafaaGreatDoor
open Go.ChangeShapes Go.WideShapes Go.ChangeAt Go.RowKit
set_option linter.unusedVariables false
def grt (r:Nat):Bool:=decide (65<=r)&&decide (r<=90)
theorem dig_r (r:Nat)(w:World)(hr:r<256) :
  Calls Tryz.prog 120 #[.int .u8 (r:Nat)] w fun e w'=>e=.returned (.bool (dig r))/\w'=w:=by
 by_cases h1:48<=r
 ·have g1:(48:Int)<=(r:Int):=by omega
  by_cases h2:r<=57
  ·have g2:(r:Int)<=57:=by omega
   have e0:dig r=true:=by simp[dig,h1,h2]
   rw[e0];clear e0;go_enter Tryz.func120,Tryz.ntmps120;go_wp2;go_ret;exact⟨rfl,rfl⟩
  ·have g2:¬(r:Int)<=57:=by omega
   have g3:decide ((r:Int)<=57)=false:=decide_eq_false g2;have e0:dig r=false:=by simp[dig];omega
   rw[e0];clear e0;go_enter Tryz.func120,Tryz.ntmps120;go_wp2;go_ret;exact⟨rfl,rfl⟩
 ·have g1:¬(48:Int)<=(r:Int):=by omega
  have e0:dig r=false:=by simp[dig];omega
  rw[e0];clear e0;go_enter Tryz.func120,Tryz.ntmps120;go_wp2;go_ret;exact⟨rfl,rfl⟩
theorem sml_r (r:Nat)(w:World)(hr:r<256) :
  Calls Tryz.prog 123 #[.int .u8 (r:Nat)] w fun e w'=>e=.returned (.bool (sml r))/\w'=w:=by
 by_cases h1:97<=r
 ·have g1:(97:Int)<=(r:Int):=by omega
  by_cases h2:r<=122
  ·have g2:(r:Int)<=122:=by omega
   have e0:sml r=true:=by simp[sml,h1,h2]
   rw[e0];clear e0;go_enter Tryz.func123,Tryz.ntmps123;go_wp2;go_ret;exact⟨rfl,rfl⟩
  ·have g2:¬(r:Int)<=122:=by omega
   have g3:decide ((r:Int)<=122)=false:=decide_eq_false g2;have e0:sml r=false:=by simp[sml];omega
   rw[e0];clear e0;go_enter Tryz.func123,Tryz.ntmps123;go_wp2;go_ret;exact⟨rfl,rfl⟩
 ·have g1:¬(97:Int)<=(r:Int):=by omega
  have e0:sml r=false:=by simp[sml];omega
  rw[e0];clear e0;go_enter Tryz.func123,Tryz.ntmps123;go_wp2;go_ret;exact⟨rfl,rfl⟩
theorem grt_r (r:Nat)(w:World)(hr:r<256) :
  Calls Tryz.prog 124 #[.int .u8 (r:Nat)] w fun e w'=>e=.returned (.bool (grt r))/\w'=w:=by
 by_cases h1:65<=r
 ·have g1:(65:Int)<=(r:Int):=by omega
  by_cases h2:r<=90
  ·have g2:(r:Int)<=90:=by omega
   have e0:grt r=true:=by simp[grt,h1,h2]
   rw[e0];clear e0;go_enter Tryz.func124,Tryz.ntmps124;go_wp2;go_ret;exact⟨rfl,rfl⟩
  ·have g2:¬(r:Int)<=90:=by omega
   have g3:decide ((r:Int)<=90)=false:=decide_eq_false g2;have e0:grt r=false:=by simp[grt];omega
   rw[e0];clear e0;go_enter Tryz.func124,Tryz.ntmps124;go_wp2;go_ret;exact⟨rfl,rfl⟩
 ·have g1:¬(65:Int)<=(r:Int):=by omega
  have e0:grt r=false:=by simp[grt];omega
  rw[e0];clear e0;go_enter Tryz.func124,Tryz.ntmps124;go_wp2;go_ret;exact⟨rfl,rfl⟩
theorem blk_r (r:Nat)(w:World)(hr:r<256) :
  Calls Tryz.prog 62 #[.int .u8 (r:Nat)] w fun e w'=>e=.returned (.bool (blk r))/\w'=w:=by
 by_cases h0:r=32
 ·subst h0;have e0:blk 32=true:=by rfl
  rw[e0];clear e0;go_enter Tryz.func62,Tryz.ntmps62;go_wp2;go_ret;exact⟨rfl,rfl⟩
 by_cases h1:r=9
 ·subst h1;clear h0;have e0:blk 9=true:=by rfl
  rw[e0];clear e0;go_enter Tryz.func62,Tryz.ntmps62;go_wp2;go_ret;exact⟨rfl,rfl⟩
 by_cases h2:r=10
 ·subst h2;clear h0;clear h1;have e0:blk 10=true:=by rfl
  rw[e0];clear e0;go_enter Tryz.func62,Tryz.ntmps62;go_wp2;go_ret;exact⟨rfl,rfl⟩
 by_cases h3:r=13
 ·subst h3;clear h0;clear h1;clear h2;have e0:blk 13=true:=by rfl
  rw[e0];clear e0;go_enter Tryz.func62,Tryz.ntmps62;go_wp2;go_ret;exact⟨rfl,rfl⟩
 have e0:blk r=false:=by simp[blk];omega
 have g0:¬(r:Int)=32:=by omega
 have g1:¬(r:Int)=9:=by omega
 have g2:¬(r:Int)=10:=by omega
 have g3:¬(r:Int)=13:=by omega
 clear h0 h1 h2 h3;rw[e0];clear e0;go_enter Tryz.func62,Tryz.ntmps62;go_wp2;go_ret;refine⟨?_,rfl⟩;simp[g0,g1,g2,g3]
abbrev wordsV:Array Value:=#[.string ⟨#[97,108,108]⟩,.string ⟨#[97,110,100]⟩,.string ⟨#[97,114,111,117,110,100]⟩,.string ⟨#[98,108,111,99,107]⟩,.string ⟨#[98,111,116,116,108,101,110,101,99,107]⟩,.string ⟨#[99,111,110,110,101,99,116,101,100]⟩,.string ⟨#[99,111,117,110,116]⟩,.string ⟨#[100,101,103,114,101,101]⟩,.string ⟨#[101,108,115,101]⟩,.string ⟨#[102,97,108,115,101]⟩,.string ⟨#[105,102]⟩,.string ⟨#[105,110]⟩,.string ⟨#[108,101,97,115,116]⟩,.string ⟨#[109,97,120]⟩,.string ⟨#[109,105,110]⟩,.string ⟨#[109,111,115,116]⟩,.string ⟨#[110,111,116]⟩,.string ⟨#[111,114]⟩,.string ⟨#[114,101,112]⟩,.string ⟨#[115,105,122,101]⟩,.string ⟨#[115,111,109,101]⟩,.string ⟨#[115,117,109]⟩,.string ⟨#[116,104,101,110]⟩,.string ⟨#[116,111,116,97,108]⟩,.string ⟨#[116,114,117,101]⟩,.string ⟨#[118,97,108,117,101]⟩,.string ⟨#[118,101,114,116,105,99,101,115]⟩]
theorem wordsV_at (k:Nat)(hk:k<27):wordsV[k]?=some (.string (wd k)):=by
 match k,hk with
 | 0,_=>rfl
 | 1,_=>rfl
 | 2,_=>rfl
 | 3,_=>rfl
 | 4,_=>rfl
 | 5,_=>rfl
 | 6,_=>rfl
 | 7,_=>rfl
 | 8,_=>rfl
 | 9,_=>rfl
 | 10,_=>rfl
 | 11,_=>rfl
 | 12,_=>rfl
 | 13,_=>rfl
 | 14,_=>rfl
 | 15,_=>rfl
 | 16,_=>rfl
 | 17,_=>rfl
 | 18,_=>rfl
 | 19,_=>rfl
 | 20,_=>rfl
 | 21,_=>rfl
 | 22,_=>rfl
 | 23,_=>rfl
 | 24,_=>rfl
 | 25,_=>rfl
 | 26,_=>rfl
 | n+27,h=>omega
theorem word_r (s:ByteArray)(w:World)(hs:s.size<=maxLen) :
  Calls Tryz.prog 125 #[.string s] w fun e w'=>e=.returned (.bool (wordB s.data.toList))/\Below w.heap.size w w':=by
 obtain⟨w1,hw1⟩:∃w1,w1=w.alloc (.cells wordsV 9):=⟨_,rfl⟩
 have hce:∀ k,k<27->w1.cell? ⟨w.heap.size,k,none⟩=some (.string (wd k)):=fun k hk=>by
  rw[hw1,cell_of_row _ _ _ _ _ _ (heap_alloc_new w _),wordsV_at k hk]
 have hbe:Below w.heap.size w w1:=by rw[hw1];exact b1 _ _
 have HW:Hid (w1=w.alloc (.cells wordsV 9)):=hw1;have HC:=Lib.hid hce;clear hw1 hce;go_enter Tryz.func125,Tryz.ntmps125;go_upto_region 2 with fail;rw[show w.alloc _=w1 from HW.out.symm];clear HW;go_wp2_with fail;go_loopw [4] (fun v wr=>∃k:Nat,k<=27/\v=.int .i64 (k:Nat)/\(∀ j,j<k->s≠wd j)/\wr=w1) (fun v _=>27-(intOf v).toNat)
 case atStart=>exact⟨0,by omega,by go_num,fun j hj=>by omega,rfl⟩
 case round =>
  obtain⟨k,hk,rfl,hin,rfl⟩:=hrel;by_cases hlt:k<27
  ·have ix:=HC.out k hlt;have hkI:(k:Int)<27:=by omega
   by_cases he:s=wd k
   ·have fin:wordB s.data.toList=true:=wordB_yes k hlt (by rw[he];rfl);rw[<-he] at ix;clear he HC hin;go_wp2;go_ret;exact⟨by rw[fin];rfl,hbe⟩
   ·have hin':∀ j,j<k+1->s≠wd j:=fun j hj=>by
     by_cases e:j=k
     ·subst e;exact he
     ·exact hin j (by omega)
    have heb:((wd k).toList==s.toList)=false:=str_ne (fun e=>he e.symm);generalize wd k=t at ix he heb;clear HC hin;go_wp2;go_roundw
    case rel=>(try ((repeat apply Exists.intro);refine⟨?_,rfl⟩));exact⟨k+1,by omega,by go_num,hin',by trivial⟩
    case measure=>simp[intOf];omega
  ·obtain rfl:k=27:=by omega
   clear HC;have fin:wordB s.data.toList=false:=wordB_no fun j hj e=>hin j hj (bytes_eq.1 (by rw[e];rfl));go_wp2;go_ret;exact⟨by rw[fin];rfl,hbe⟩
theorem name_r (s:ByteArray)(w:World)(hs:s.size<=maxLen) :
  Calls Tryz.prog 126 #[.string s] w fun e w'=>e=.returned (.bool (nameB s.data.toList))/\Below w.heap.size w w':=by
 have hs':=hs;unfold maxLen at hs;have HL:Hid (s.data.toList.length=s.size):=data_len s;by_cases h0:s.size<1
 ·have fin:nameB s.data.toList=false:=by rw[<-Bool.not_eq_true,nameB_iff];rintro ⟨h,_⟩;have:=HL.out;omega
  rw[fin];clear fin;have h0I:(s.size:Int)<1:=by omega
  go_enter Tryz.func126,Tryz.ntmps126;go_wp2;go_ret;exact⟨rfl,b0 _⟩
 ·have h0I:¬(s.size:Int)<1:=by omega
  by_cases h12:12<s.size
  ·have fin:nameB s.data.toList=false:=by rw[<-Bool.not_eq_true,nameB_iff];rintro ⟨_,h,_⟩;have:=HL.out;omega
   rw[fin];clear fin;have h12I:(12:Int)<(s.size:Int):=by omega
   go_enter Tryz.func126,Tryz.ntmps126;go_wp2;go_ret;exact⟨rfl,b0 _⟩
  ·have h12I:¬(12:Int)<(s.size:Int):=by omega
   have hpos:0<s.size:=by omega
   have hpl:0<s.data.toList.length:=by have:=HL.out;omega
   have hb0:(s[0]'hpos).toNat<256:=UInt8.toNat_lt _;cases h1:sml (s[0]'hpos).toNat
   ·have fin:nameB s.data.toList=false:=nameB_not 0 hpl (by rw[data_get s 0 hpos hpl];simp[nmc,h1]);rw[fin];clear fin;go_enter Tryz.func126,Tryz.ntmps126;go_wp2_with (go_at_call 123;refine(sml_r _ _ hb0).mono ?_;rw[h1];rintro e w1 ⟨rfl,rfl⟩);go_ret;exact⟨rfl,b0 _⟩
   ·have H0:Hid (nmc 0 s[0]=true):=by show _=_;simp[nmc,h1]
    go_enter Tryz.func126,Tryz.ntmps126;go_wp2_with (go_at_call 123;refine(sml_r _ _ hb0).mono ?_;rw[h1];rintro e w1 ⟨rfl,rfl⟩);go_loopw [3] (fun v wr=>∃k:Nat,v=.int .i64 (k:Nat)/\k<=s.size/\(∀ j (h:j<s.data.toList.length),j<k->nmc j s.data.toList[j]=true)/\wr=w1) (fun v _=>s.size-(intOf v).toNat)
    case atStart=>exact⟨0,by go_num,by omega,fun j _ h=>by omega,rfl⟩
    case round =>
     obtain⟨k,rfl,hk,hin,rfl⟩:=hrel;by_cases hlt:k<s.size
     ·have hkl:k<s.data.toList.length:=by have:=HL.out;omega
      have hkI:(k:Int)<(s.size:Int):=by omega
      have hbk:(s[k]'hlt).toNat<256:=UInt8.toNat_lt _;have hex:nmc k s.data.toList[k]=nmc k s[k]:=by rw[data_get s k hlt hkl]
      have hcase:nmc k s[k]=(sml (s[k]).toNat||dig (s[k]).toNat||(s[k]).toNat==95):=by
       by_cases hk0:k=0
       ·subst hk0;rw[H0.out,h1];rfl
       ·have hb:(k != 0)=true:=by simpa using hk0
        simp[nmc,hb,Bool.or_assoc]
      have hgo:(sml (s[k]).toNat||dig (s[k]).toNat||(s[k]).toNat==95)=true->∀ j (h:j<s.data.toList.length),j<k+1->nmc j s.data.toList[j]=true:=fun hx j h hj=>by
       by_cases e:j=k
       ·subst e;rw[hex,hcase];exact hx
       ·exact hin j h (by omega)
      have hno:(sml (s[k]).toNat||dig (s[k]).toNat||(s[k]).toNat==95)=false->nameB s.data.toList=false:=fun hx=>nameB_not k hkl (by rw[hex,hcase];exact hx);have HG:Hid (((sml (s[k]).toNat||dig (s[k]).toNat||(s[k]).toNat==95)=true->∀ j (h:j<s.data.toList.length),j<k+1->nmc j s.data.toList[j]=true)/\((sml (s[k]).toNat||dig (s[k]).toNat||(s[k]).toNat==95)=false->nameB s.data.toList=false)):=⟨hgo,hno⟩
      clear hex hcase hgo hno hin;cases h2:sml (s[k]'hlt).toNat
      ·cases h3:dig (s[k]'hlt).toNat
       ·by_cases h4:(s[k]'hlt).toNat=95
        ·have RL:=HG.out.1 (by simp[h4]);have H4:=Lib.hid h4;clear HG h4;go_wp2_with (first|(go_at_call 123;refine(sml_r _ _ hbk).mono ?_;rw[h2];rintro e w1 ⟨rfl,rfl⟩)|(go_at_call 120;refine(dig_r _ _ hbk).mono ?_;rw[h3];rintro e w1 ⟨rfl,rfl⟩;have h4:=H4.out;clear h2 h3 hbk));go_roundw
         case rel=>(try ((repeat apply Exists.intro);refine⟨?_,rfl⟩));exact⟨k+1,by go_num,by omega,RL,by trivial⟩
         case measure=>simp[intOf];omega
        ·have fin:nameB s.data.toList=false:=HG.out.2 (by simp[h2,h3,h4]);have h4I:¬((s[k]'hlt).toNat:Int)=95:=by omega
         have h4b:(((s[k]'hlt).toNat:Int)==95)=false:=by simpa using h4I
         clear HG h4;go_wp2_with (first|(go_at_call 123;refine(sml_r _ _ hbk).mono ?_;rw[h2];rintro e w1 ⟨rfl,rfl⟩)|(go_at_call 120;refine(dig_r _ _ hbk).mono ?_;rw[h3];rintro e w1 ⟨rfl,rfl⟩));go_ret;exact⟨by rw[fin];rfl,b0 _⟩
       ·have RL:=HG.out.1 (by simp[h3]);clear HG;go_wp2_with (first|(go_at_call 123;refine(sml_r _ _ hbk).mono ?_;rw[h2];rintro e w1 ⟨rfl,rfl⟩)|(go_at_call 120;refine(dig_r _ _ hbk).mono ?_;rw[h3];rintro e w1 ⟨rfl,rfl⟩));go_roundw
        case rel=>(try ((repeat apply Exists.intro);refine⟨?_,rfl⟩));exact⟨k+1,by go_num,by omega,RL,by trivial⟩
        case measure=>simp[intOf];omega
      ·have RL:=HG.out.1 (by simp[h2]);clear HG;go_wp2_with (go_at_call 123;refine(sml_r _ _ hbk).mono ?_;rw[h2];rintro e w1 ⟨rfl,rfl⟩);go_roundw
       case rel=>(try ((repeat apply Exists.intro);refine⟨?_,rfl⟩));exact⟨k+1,by go_num,by omega,RL,by trivial⟩
       case measure=>simp[intOf];omega
     ·obtain rfl:k=s.size:=by omega
      have fin:nameB s.data.toList=!wordB s.data.toList:=by
       have hl:=HL.out;cases hw:wordB s.data.toList
       ·exact(nameB_iff _).2 ⟨by omega,by omega,fun j h=>hin j h (by omega),hw⟩
       ·show _=false;rw[<-Bool.not_eq_true,nameB_iff];rintro ⟨_,_,_,h⟩;rw[hw] at h;cases h
      clear hin;go_wp2_with (go_at_call 125;refine(word_r s _ hs').mono ?_;rintro e w1 ⟨rfl,hbx⟩);go_ret;exact⟨by rw[fin];rfl,hbx⟩
set_option linter.unusedSimpArgs false
theorem row_8 {k:Int}(h19:k≠19)(h21:k≠21)(h18:k≠18)(h17:k≠17)(h7:k≠7)(h13:k≠13)(h14:k≠14)(h15:k≠15)(h16:k≠16)(h8:k≠8)(h9:k≠9)(h10:k≠10)(h11:k≠11)(h12:k≠12)(h6:k≠6):rowOf k=8:=by
 have e19:((19:Int)==k)=false:=by rw[beq_eq_false_iff_ne];exact fun e=>h19 e.symm
 have e21:((21:Int)==k)=false:=by rw[beq_eq_false_iff_ne];exact fun e=>h21 e.symm
 have e18:((18:Int)==k)=false:=by rw[beq_eq_false_iff_ne];exact fun e=>h18 e.symm
 have e17:((17:Int)==k)=false:=by rw[beq_eq_false_iff_ne];exact fun e=>h17 e.symm
 have e7:((7:Int)==k)=false:=by rw[beq_eq_false_iff_ne];exact fun e=>h7 e.symm
 have e13:((13:Int)==k)=false:=by rw[beq_eq_false_iff_ne];exact fun e=>h13 e.symm
 have e14:((14:Int)==k)=false:=by rw[beq_eq_false_iff_ne];exact fun e=>h14 e.symm
 have e15:((15:Int)==k)=false:=by rw[beq_eq_false_iff_ne];exact fun e=>h15 e.symm
 have e16:((16:Int)==k)=false:=by rw[beq_eq_false_iff_ne];exact fun e=>h16 e.symm
 have e8:((8:Int)==k)=false:=by rw[beq_eq_false_iff_ne];exact fun e=>h8 e.symm
 have e9:((9:Int)==k)=false:=by rw[beq_eq_false_iff_ne];exact fun e=>h9 e.symm
 have e10:((10:Int)==k)=false:=by rw[beq_eq_false_iff_ne];exact fun e=>h10 e.symm
 have e11:((11:Int)==k)=false:=by rw[beq_eq_false_iff_ne];exact fun e=>h11 e.symm
 have e12:((12:Int)==k)=false:=by rw[beq_eq_false_iff_ne];exact fun e=>h12 e.symm
 have e6:((6:Int)==k)=false:=by rw[beq_eq_false_iff_ne];exact fun e=>h6 e.symm
 have ho:opOf k=none:=by simp[opOf,opsL,List.find?,e18,e17,e13,e14,e15,e16,e8,e9,e10,e11,e12]
 simp[rowOf,ho,bne h19,bne h21,bne h7,bne h6]
theorem row_q (k:Int)(w:World) :
  Calls Tryz.prog 290 #[.int .i64 k] w fun e w'=>e=.returned (.int .i64 (rowOf k:Nat))/\w'=w:=by
 by_cases h19:k=19
 ·subst h19;go_enter Tryz.func290,Tryz.ntmps290;go_wp2;go_ret;exact⟨rfl,rfl⟩
 have b19:(k==19)=false:=bne h19;by_cases h21:k=21
 ·subst h21;go_enter Tryz.func290,Tryz.ntmps290;go_wp2;go_ret;exact⟨rfl,rfl⟩
 have b21:(k==21)=false:=bne h21;by_cases h18:k=18
 ·subst h18;go_enter Tryz.func290,Tryz.ntmps290;go_wp2;go_ret;exact⟨rfl,rfl⟩
 have b18:(k==18)=false:=bne h18;by_cases h17:k=17
 ·subst h17;go_enter Tryz.func290,Tryz.ntmps290;go_wp2;go_ret;exact⟨rfl,rfl⟩
 have b17:(k==17)=false:=bne h17;by_cases h7:k=7
 ·subst h7;go_enter Tryz.func290,Tryz.ntmps290;go_wp2;go_ret;exact⟨rfl,rfl⟩
 have b7:(k==7)=false:=bne h7;by_cases h13:k=13
 ·subst h13;go_enter Tryz.func290,Tryz.ntmps290;go_wp2;go_ret;exact⟨rfl,rfl⟩
 have b13:(k==13)=false:=bne h13;by_cases h14:k=14
 ·subst h14;go_enter Tryz.func290,Tryz.ntmps290;go_wp2;go_ret;exact⟨rfl,rfl⟩
 have b14:(k==14)=false:=bne h14;by_cases h15:k=15
 ·subst h15;go_enter Tryz.func290,Tryz.ntmps290;go_wp2;go_ret;exact⟨rfl,rfl⟩
 have b15:(k==15)=false:=bne h15;by_cases h16:k=16
 ·subst h16;go_enter Tryz.func290,Tryz.ntmps290;go_wp2;go_ret;exact⟨rfl,rfl⟩
 have b16:(k==16)=false:=bne h16;by_cases h8:k=8
 ·subst h8;go_enter Tryz.func290,Tryz.ntmps290;go_wp2;go_ret;exact⟨rfl,rfl⟩
 have b8:(k==8)=false:=bne h8;by_cases h9:k=9
 ·subst h9;go_enter Tryz.func290,Tryz.ntmps290;go_wp2;go_ret;exact⟨rfl,rfl⟩
 have b9:(k==9)=false:=bne h9;by_cases h10:k=10
 ·subst h10;go_enter Tryz.func290,Tryz.ntmps290;go_wp2;go_ret;exact⟨rfl,rfl⟩
 have b10:(k==10)=false:=bne h10;by_cases h11:k=11
 ·subst h11;go_enter Tryz.func290,Tryz.ntmps290;go_wp2;go_ret;exact⟨rfl,rfl⟩
 have b11:(k==11)=false:=bne h11;by_cases h12:k=12
 ·subst h12;go_enter Tryz.func290,Tryz.ntmps290;go_wp2;go_ret;exact⟨rfl,rfl⟩
 have b12:(k==12)=false:=bne h12;by_cases h6:k=6
 ·subst h6;go_enter Tryz.func290,Tryz.ntmps290;go_wp2;go_ret;exact⟨rfl,rfl⟩
 have b6:(k==6)=false:=bne h6;rw[row_8 h19 h21 h18 h17 h7 h13 h14 h15 h16 h8 h9 h10 h11 h12 h6];clear h19 h21 h18 h17 h7 h13 h14 h15 h16 h8 h9 h10 h11 h12 h6;go_enter Tryz.func290,Tryz.ntmps290;go_wp2;go_ret;exact⟨rfl,rfl⟩
def askO (k:Int)(i:Nat):Nat:=if rowOf k=3\/rowOf k=7 then rowOf k else if rowOf k=4 then 5 else if rowOf k=0\/rowOf k=8 then 0 else rowOf k+i
theorem row_le (k:Int):rowOf k<=8:=by
 unfold rowOf;split
 ·omega
 ·split
  ·omega
  ·split
   ·omega
   ·split
    ·rename_i x hx
     have hm:=List.mem_of_find?_eq_some hx
     have:∀ x ∈ opsL,x.2.2.1<=8:=by decide
     exact this x hm
    ·omega
theorem asked_q (k:Int)(i:Nat)(hi:i<=1000000000)(w:World) :
  Calls Tryz.prog 291 #[.int .i64 k,.int .i64 (i:Nat)] w fun e w'=>e=.returned (.int .i64 (askO k i:Nat))/\w'=w:=by
 have c1:=row_q k w;have hle:=row_le k;obtain⟨W,hW⟩:∃W,W=askO k i:=⟨_,rfl⟩
 rw[<-hW];unfold askO at hW;generalize rowOf k=r at *;by_cases h0:r=0
 ·subst h0;have hX:W=0:=by simpa using hW
  clear hW;subst hX;go_enter Tryz.func291,Tryz.ntmps291;go_wp2_with fail;refine c1.mono ?_;rintro e w1 ⟨rfl,rfl⟩;clear c1;go_wp2;go_ret;exact⟨rfl,rfl⟩
 by_cases h3:r=3
 ·subst h3;have hX:W=3:=by simpa using hW
  clear hW;subst hX;go_enter Tryz.func291,Tryz.ntmps291;go_wp2_with fail;refine c1.mono ?_;rintro e w1 ⟨rfl,rfl⟩;clear c1;go_wp2;go_ret;exact⟨rfl,rfl⟩
 by_cases h4:r=4
 ·subst h4;have hX:W=5:=by simpa using hW
  clear hW;subst hX;go_enter Tryz.func291,Tryz.ntmps291;go_wp2_with fail;refine c1.mono ?_;rintro e w1 ⟨rfl,rfl⟩;clear c1;go_wp2;go_ret;exact⟨rfl,rfl⟩
 by_cases h7:r=7
 ·subst h7;have hX:W=7:=by simpa using hW
  clear hW;subst hX;go_enter Tryz.func291,Tryz.ntmps291;go_wp2_with fail;refine c1.mono ?_;rintro e w1 ⟨rfl,rfl⟩;clear c1;go_wp2;go_ret;exact⟨rfl,rfl⟩
 by_cases h8:r=8
 ·subst h8;have hX:W=0:=by simpa using hW
  clear hW;subst hX;go_enter Tryz.func291,Tryz.ntmps291;go_wp2_with fail;refine c1.mono ?_;rintro e w1 ⟨rfl,rfl⟩;clear c1;go_wp2;go_ret;exact⟨rfl,rfl⟩
 have hX:W=r+i:=by simpa [h0,h3,h4,h7,h8] using hW
 clear hW;subst hX;have b0:((r:Int)==0)=false:=by rw[beq_eq_false_iff_ne];omega
 have b3:((r:Int)==3)=false:=by rw[beq_eq_false_iff_ne];omega
 have b4:((r:Int)==4)=false:=by rw[beq_eq_false_iff_ne];omega
 have b7:((r:Int)==7)=false:=by rw[beq_eq_false_iff_ne];omega
 have b8:((r:Int)==8)=false:=by rw[beq_eq_false_iff_ne];omega
 have hr:r<=8:=hle;clear h0 h3 h4 h7 h8 hle;go_enter Tryz.func291,Tryz.ntmps291;go_wp2_with fail;refine c1.mono ?_;rintro e w1 ⟨rfl,rfl⟩;clear c1;go_wp2;go_ret;exact⟨by rw[show ((r+i:Nat):Int)=(r:Int)+(i:Int) by omega];rfl,rfl⟩
theorem isSetK_iff (k:Int):isSetK k=decide (22<=k/\k<=25):=by
 by_cases h:22<=k/\k<=25
 ·rw[show decide (22<=k/\k<=25)=true by simpa using h];unfold isSetK;simp only[Bool.or_eq_true,beq_iff_eq];omega
 ·rw[show decide (22<=k/\k<=25)=false by simpa using h];rw[<-Bool.not_eq_true];unfold isSetK;simp only[Bool.or_eq_true,beq_iff_eq];omega
theorem isSet_q (k:Int)(w:World) :
  Calls Tryz.prog 269 #[.int .i64 k] w fun e w'=>e=.returned (.bool (isSetK k))/\w'=w:=by
 rw[isSetK_iff];by_cases h1:22<=k
 ·by_cases h2:k<=25
  ·rw[show decide (22<=k/\k<=25)=true by simp;omega];go_enter Tryz.func269,Tryz.ntmps269;go_wp2;go_ret;exact⟨by simp[h2],rfl⟩
  ·rw[show decide (22<=k/\k<=25)=false by simp;omega];go_enter Tryz.func269,Tryz.ntmps269;go_wp2;go_ret;exact⟨by simp[h2],rfl⟩
 ·rw[show decide (22<=k/\k<=25)=false by simp;omega];go_enter Tryz.func269,Tryz.ntmps269;go_wp2;go_ret;exact⟨rfl,rfl⟩
def kidN (k n:Int):Int :=
 if k=1\/k=2\/k=3\/k=4\/k=22\/k=23 then 0 else if k=6\/k=7\/k=24 then 1 else if k=8\/k=9\/k=10\/k=11\/k=12\/k=13\/k=14\/k=15\/k=16\/k=17\/k=18\/k=21 then 2 else if k=19 then 3 else if k=25 then -1 else if k=20 then (if 1<=n/\n<=3 then 2 else 1) else -2
theorem kids_q (k n:Int)(nm:List UInt8)(ao:Option Addr)(len cap:Nat)(a:Int)(w:World) :
  Calls Tryz.prog 267 #[.agg #[.int .i64 k,.int .i64 n,stv nm,.slice ao len cap,.int .i64 a]] w fun e w'=>e=.returned (.int .i64 (kidN k n))/\Below w.heap.size w w':=by
 have B0:Below w.heap.size w (w.alloc (.cells #[.int .i64 k,.int .i64 n,stv nm,.slice ao len cap,.int .i64 a] 25)):=(Below.refl _ w).alloc (Nat.le_refl _) _;have Z0:(w.alloc (.cells #[.int .i64 k,.int .i64 n,stv nm,.slice ao len cap,.int .i64 a] 25)).heap[w.heap.size]?=some (.cells #[.int .i64 k,.int .i64 n,stv nm,.slice ao len cap,.int .i64 a] 25):=heap_alloc_new w _;obtain⟨z0,z1,z2,z3,z4,zf⟩:=box5 Z0;clear Z0;obtain⟨V,hV⟩:∃V,V=kidN k n:=⟨_,rfl⟩
 rw[<-hV];by_cases h1:k=1
 ·subst h1;have hX:V=0:=hV;clear hV;subst hX;go_enter Tryz.func267,Tryz.ntmps267;go_wp2;go_ret;exact⟨rfl,B0⟩
 have b1:(k==1)=false:=bne h1;by_cases h2:k=2
 ·subst h2;have hX:V=0:=hV;clear hV;subst hX;go_enter Tryz.func267,Tryz.ntmps267;go_wp2;go_ret;exact⟨rfl,B0⟩
 have b2:(k==2)=false:=bne h2;by_cases h3:k=3
 ·subst h3;have hX:V=0:=hV;clear hV;subst hX;go_enter Tryz.func267,Tryz.ntmps267;go_wp2;go_ret;exact⟨rfl,B0⟩
 have b3:(k==3)=false:=bne h3;by_cases h4:k=4
 ·subst h4;have hX:V=0:=hV;clear hV;subst hX;go_enter Tryz.func267,Tryz.ntmps267;go_wp2;go_ret;exact⟨rfl,B0⟩
 have b4:(k==4)=false:=bne h4;by_cases h22:k=22
 ·subst h22;have hX:V=0:=hV;clear hV;subst hX;go_enter Tryz.func267,Tryz.ntmps267;go_wp2;go_ret;exact⟨rfl,B0⟩
 have b22:(k==22)=false:=bne h22;by_cases h23:k=23
 ·subst h23;have hX:V=0:=hV;clear hV;subst hX;go_enter Tryz.func267,Tryz.ntmps267;go_wp2;go_ret;exact⟨rfl,B0⟩
 have b23:(k==23)=false:=bne h23;by_cases h6:k=6
 ·subst h6;have hX:V=1:=hV;clear hV;subst hX;go_enter Tryz.func267,Tryz.ntmps267;go_wp2;go_ret;exact⟨rfl,B0⟩
 have b6:(k==6)=false:=bne h6;by_cases h7:k=7
 ·subst h7;have hX:V=1:=hV;clear hV;subst hX;go_enter Tryz.func267,Tryz.ntmps267;go_wp2;go_ret;exact⟨rfl,B0⟩
 have b7:(k==7)=false:=bne h7;by_cases h24:k=24
 ·subst h24;have hX:V=1:=hV;clear hV;subst hX;go_enter Tryz.func267,Tryz.ntmps267;go_wp2;go_ret;exact⟨rfl,B0⟩
 have b24:(k==24)=false:=bne h24;by_cases h8:k=8
 ·subst h8;have hX:V=2:=hV;clear hV;subst hX;go_enter Tryz.func267,Tryz.ntmps267;go_wp2;go_ret;exact⟨rfl,B0⟩
 have b8:(k==8)=false:=bne h8;by_cases h9:k=9
 ·subst h9;have hX:V=2:=hV;clear hV;subst hX;go_enter Tryz.func267,Tryz.ntmps267;go_wp2;go_ret;exact⟨rfl,B0⟩
 have b9:(k==9)=false:=bne h9;by_cases h10:k=10
 ·subst h10;have hX:V=2:=hV;clear hV;subst hX;go_enter Tryz.func267,Tryz.ntmps267;go_wp2;go_ret;exact⟨rfl,B0⟩
 have b10:(k==10)=false:=bne h10;by_cases h11:k=11
 ·subst h11;have hX:V=2:=hV;clear hV;subst hX;go_enter Tryz.func267,Tryz.ntmps267;go_wp2;go_ret;exact⟨rfl,B0⟩
 have b11:(k==11)=false:=bne h11;by_cases h12:k=12
 ·subst h12;have hX:V=2:=hV;clear hV;subst hX;go_enter Tryz.func267,Tryz.ntmps267;go_wp2;go_ret;exact⟨rfl,B0⟩
 have b12:(k==12)=false:=bne h12;by_cases h13:k=13
 ·subst h13;have hX:V=2:=hV;clear hV;subst hX;go_enter Tryz.func267,Tryz.ntmps267;go_wp2;go_ret;exact⟨rfl,B0⟩
 have b13:(k==13)=false:=bne h13;by_cases h14:k=14
 ·subst h14;have hX:V=2:=hV;clear hV;subst hX;go_enter Tryz.func267,Tryz.ntmps267;go_wp2;go_ret;exact⟨rfl,B0⟩
 have b14:(k==14)=false:=bne h14;by_cases h15:k=15
 ·subst h15;have hX:V=2:=hV;clear hV;subst hX;go_enter Tryz.func267,Tryz.ntmps267;go_wp2;go_ret;exact⟨rfl,B0⟩
 have b15:(k==15)=false:=bne h15;by_cases h16:k=16
 ·subst h16;have hX:V=2:=hV;clear hV;subst hX;go_enter Tryz.func267,Tryz.ntmps267;go_wp2;go_ret;exact⟨rfl,B0⟩
 have b16:(k==16)=false:=bne h16;by_cases h17:k=17
 ·subst h17;have hX:V=2:=hV;clear hV;subst hX;go_enter Tryz.func267,Tryz.ntmps267;go_wp2;go_ret;exact⟨rfl,B0⟩
 have b17:(k==17)=false:=bne h17;by_cases h18:k=18
 ·subst h18;have hX:V=2:=hV;clear hV;subst hX;go_enter Tryz.func267,Tryz.ntmps267;go_wp2;go_ret;exact⟨rfl,B0⟩
 have b18:(k==18)=false:=bne h18;by_cases h21:k=21
 ·subst h21;have hX:V=2:=hV;clear hV;subst hX;go_enter Tryz.func267,Tryz.ntmps267;go_wp2;go_ret;exact⟨rfl,B0⟩
 have b21:(k==21)=false:=bne h21;by_cases h19:k=19
 ·subst h19;have hX:V=3:=hV;clear hV;subst hX;go_enter Tryz.func267,Tryz.ntmps267;go_wp2;go_ret;exact⟨rfl,B0⟩
 have b19:(k==19)=false:=bne h19;by_cases h25:k=25
 ·subst h25;have hX:V=-1:=hV;clear hV;subst hX;go_enter Tryz.func267,Tryz.ntmps267;go_wp2;go_ret;exact⟨rfl,B0⟩
 have b25:(k==25)=false:=bne h25;by_cases h20:k=20
 ·subst h20;by_cases n1:1<=n
  ·by_cases n3:n<=3
   ·have hX:V=2:=by rw[hV];simp[kidN,n1,n3]
    clear hV;subst hX;go_enter Tryz.func267,Tryz.ntmps267;go_wp2;go_ret;exact⟨rfl,B0⟩
   ·have hX:V=1:=by rw[hV];simp[kidN,n3]
    clear hV;subst hX;go_enter Tryz.func267,Tryz.ntmps267;go_wp2;go_ret;exact⟨rfl,B0⟩
  ·have hX:V=1:=by rw[hV];simp[kidN,n1]
   clear hV;subst hX;go_enter Tryz.func267,Tryz.ntmps267;go_wp2;go_ret;exact⟨rfl,B0⟩
 have b20:(k==20)=false:=bne h20;have hX:V=-2:=by rw[hV];simp[kidN,h1,h2,h3,h4,h22,h23,h6,h7,h24,h8,h9,h10,h11,h12,h13,h14,h15,h16,h17,h18,h21,h19,h25,h20]
 clear hV h1 h2 h3 h4 h22 h23 h6 h7 h24 h8 h9 h10 h11 h12 h13 h14 h15 h16 h17 h18 h21 h19 h25 h20;subst hX;go_enter Tryz.func267,Tryz.ntmps267;go_wp2;go_ret;exact⟨rfl,B0⟩
theorem call_rng (n:Int):(callOf n).isSome=decide (1<=n/\n<=10):=by
 by_cases h:1<=n/\n<=10
 ·rw[show decide (1<=n/\n<=10)=true by simpa using h]
  have:n=1\/n=2\/n=3\/n=4\/n=5\/n=6\/n=7\/n=8\/n=9\/n=10:=by omega
  rcases this with rfl|rfl|rfl|rfl|rfl|rfl|rfl|rfl|rfl|rfl<;>rfl
 ·rw[show decide (1<=n/\n<=10)=false by simpa using h,Option.isSome_eq_false_iff,Option.isNone_iff_eq_none];unfold callOf;rw[List.find?_eq_none];intro x hx
  have:∀ x ∈ callsL,1<=x.2.1/\x.2.1<=10:=by decide
  have:=this x hx
  simp only[beq_iff_eq];omega
theorem quant_rng (n:Int):(quantOf n).isSome=decide (1<=n/\n<=6):=by
 by_cases h:1<=n/\n<=6
 ·rw[show decide (1<=n/\n<=6)=true by simpa using h]
  have:n=1\/n=2\/n=3\/n=4\/n=5\/n=6:=by omega
  rcases this with rfl|rfl|rfl|rfl|rfl|rfl<;>rfl
 ·rw[show decide (1<=n/\n<=6)=false by simpa using h,Option.isSome_eq_false_iff,Option.isNone_iff_eq_none];unfold quantOf;rw[List.find?_eq_none];intro x hx
  have:∀ x ∈ quantsL,1<=x.2/\x.2<=6:=by decide
  have:=this x hx
  simp only[beq_iff_eq];omega
theorem fields_q (k n:Int)(nm:List UInt8)(ao:Option Addr)(len cap:Nat)(a:Int)(w:World)(hl:nm.length<=maxLen) :
  Calls Tryz.prog 268 #[.agg #[.int .i64 k,.int .i64 n,stv nm,.slice ao len cap,.int .i64 a]] w fun e w'=>e=.returned (.bool (numB k n&&namB k nm))/\Below w.heap.size w w':=by
 have B0:Below w.heap.size w (w.alloc (.cells #[.int .i64 k,.int .i64 n,stv nm,.slice ao len cap,.int .i64 a] 25)):=(Below.refl _ w).alloc (Nat.le_refl _) _;have Z0:(w.alloc (.cells #[.int .i64 k,.int .i64 n,stv nm,.slice ao len cap,.int .i64 a] 25)).heap[w.heap.size]?=some (.cells #[.int .i64 k,.int .i64 n,stv nm,.slice ao len cap,.int .i64 a] 25):=heap_alloc_new w _;have c1:=name_r ⟨nm.toArray⟩ (w.alloc (.cells #[.int .i64 k,.int .i64 n,stv nm,.slice ao len cap,.int .i64 a] 25)) (by rw[size_mk];exact hl);have hd:(ByteArray.mk nm.toArray).data.toList=nm:=by simp
 rw[hd] at c1;obtain⟨V,hV⟩:∃V,V=(numB k n&&namB k nm):=⟨_,rfl⟩
 rw[<-hV];have hs0:w.heap.size<(w.alloc (.cells #[.int .i64 k,.int .i64 n,stv nm,.slice ao len cap,.int .i64 a] 25)).heap.size:=by simp
 obtain⟨z0,z1,z2,z3,z4,zf⟩:=box5 Z0;clear hd;by_cases h1:k=1
 ·subst h1;by_cases p:0<=n
  ·have pb:0<=n:=p;have hX:V=(nm==[]):=by rw[hV];simp[numB,namB,call_rng,quant_rng,p]
   clear hV;rw[hX];clear hX V;go_enter Tryz.func268,Tryz.ntmps268;go_wp2_with fail;refine c1.mono ?_;rintro e w1 ⟨rfl,b1⟩;have B1:=B0.trans (b1.mono B0.size);have Z1:=(b1.block _ hs0).trans Z0;obtain⟨y0,y1,y2,y3,y4,yf⟩:=box5 Z1;clear c1 b1 B0 Z0 Z1 z0 z1 z2 z3 z4 zf;go_wp2;go_ret;exact⟨ret_bool (by first|rfl|simp),B1⟩
  ·have pb:¬0<=n:=p;have hX:V=false:=by rw[hV];simp[numB,namB,call_rng,quant_rng,p]
   clear hV;rw[hX];clear hX V;go_enter Tryz.func268,Tryz.ntmps268;go_wp2_with fail;refine c1.mono ?_;rintro e w1 ⟨rfl,b1⟩;have B1:=B0.trans (b1.mono B0.size);have Z1:=(b1.block _ hs0).trans Z0;obtain⟨y0,y1,y2,y3,y4,yf⟩:=box5 Z1;clear c1 b1 B0 Z0 Z1 z0 z1 z2 z3 z4 zf;go_wp2;go_ret;exact⟨ret_bool (by first|rfl|simp),B1⟩
 have b1:(k==1)=false:=bne h1;by_cases h3:k=3
 ·subst h3;by_cases p:0<=n
  ·have pb:0<=n:=p;have hX:V=(nm==[]):=by rw[hV];simp[numB,namB,call_rng,quant_rng,p]
   clear hV;rw[hX];clear hX V;go_enter Tryz.func268,Tryz.ntmps268;go_wp2_with fail;refine c1.mono ?_;rintro e w1 ⟨rfl,b1⟩;have B1:=B0.trans (b1.mono B0.size);have Z1:=(b1.block _ hs0).trans Z0;obtain⟨y0,y1,y2,y3,y4,yf⟩:=box5 Z1;clear c1 b1 B0 Z0 Z1 z0 z1 z2 z3 z4 zf;go_wp2;go_ret;exact⟨ret_bool (by first|rfl|simp),B1⟩
  ·have pb:¬0<=n:=p;have hX:V=false:=by rw[hV];simp[numB,namB,call_rng,quant_rng,p]
   clear hV;rw[hX];clear hX V;go_enter Tryz.func268,Tryz.ntmps268;go_wp2_with fail;refine c1.mono ?_;rintro e w1 ⟨rfl,b1⟩;have B1:=B0.trans (b1.mono B0.size);have Z1:=(b1.block _ hs0).trans Z0;obtain⟨y0,y1,y2,y3,y4,yf⟩:=box5 Z1;clear c1 b1 B0 Z0 Z1 z0 z1 z2 z3 z4 zf;go_wp2;go_ret;exact⟨ret_bool (by first|rfl|simp),B1⟩
 have b3:(k==3)=false:=bne h3;by_cases h2:k=2
 ·subst h2;by_cases p:n=0
  ·subst p;have hX:V=(nm==[]):=by rw[hV];simp[numB,namB,call_rng,quant_rng]
   clear hV;rw[hX];clear hX V;go_enter Tryz.func268,Tryz.ntmps268;go_wp2_with fail;refine c1.mono ?_;rintro e w1 ⟨rfl,b1⟩;have B1:=B0.trans (b1.mono B0.size);have Z1:=(b1.block _ hs0).trans Z0;obtain⟨y0,y1,y2,y3,y4,yf⟩:=box5 Z1;clear c1 b1 B0 Z0 Z1 z0 z1 z2 z3 z4 zf;go_wp2;go_ret;exact⟨ret_bool (by first|rfl|simp),B1⟩
  ·have pb:(n==0)=false:=by simpa using p
   by_cases r:n=1
   ·subst r;have hX:V=(nm==[]):=by rw[hV];simp[numB,namB,call_rng,quant_rng]
    clear hV;rw[hX];clear hX V;go_enter Tryz.func268,Tryz.ntmps268;go_wp2_with fail;refine c1.mono ?_;rintro e w1 ⟨rfl,b1⟩;have B1:=B0.trans (b1.mono B0.size);have Z1:=(b1.block _ hs0).trans Z0;obtain⟨y0,y1,y2,y3,y4,yf⟩:=box5 Z1;clear c1 b1 B0 Z0 Z1 z0 z1 z2 z3 z4 zf;go_wp2;go_ret;exact⟨ret_bool (by first|rfl|simp),B1⟩
   ·have rb:(n==1)=false:=by simpa using r
    have hX:V=false:=by rw[hV];simp[numB,namB,call_rng,quant_rng,p,r]
    clear hV;clear p r;rw[hX];clear hX V;go_enter Tryz.func268,Tryz.ntmps268;go_wp2_with fail;refine c1.mono ?_;rintro e w1 ⟨rfl,b1⟩;have B1:=B0.trans (b1.mono B0.size);have Z1:=(b1.block _ hs0).trans Z0;obtain⟨y0,y1,y2,y3,y4,yf⟩:=box5 Z1;clear c1 b1 B0 Z0 Z1 z0 z1 z2 z3 z4 zf;go_wp2;go_ret;exact⟨ret_bool (by first|rfl|simp),B1⟩
 have b2:(k==2)=false:=bne h2;by_cases h4:k=4
 ·subst h4;by_cases p:n=0
  ·subst p;have hX:V=nameB nm:=by rw[hV];simp[numB,namB,call_rng,quant_rng]
   clear hV;rw[hX];clear hX V;go_enter Tryz.func268,Tryz.ntmps268;go_wp2_with fail;refine c1.mono ?_;rintro e w1 ⟨rfl,b1⟩;have B1:=B0.trans (b1.mono B0.size);have Z1:=(b1.block _ hs0).trans Z0;obtain⟨y0,y1,y2,y3,y4,yf⟩:=box5 Z1;clear c1 b1 B0 Z0 Z1 z0 z1 z2 z3 z4 zf;go_wp2;go_ret;exact⟨ret_bool (by first|rfl|simp),B1⟩
  ·have pb:(n==0)=false:=by simpa using p
   have hX:V=false:=by rw[hV];simp[numB,namB,call_rng,quant_rng,p]
   clear hV;clear p;rw[hX];clear hX V;go_enter Tryz.func268,Tryz.ntmps268;go_wp2_with fail;refine c1.mono ?_;rintro e w1 ⟨rfl,b1⟩;have B1:=B0.trans (b1.mono B0.size);have Z1:=(b1.block _ hs0).trans Z0;obtain⟨y0,y1,y2,y3,y4,yf⟩:=box5 Z1;clear c1 b1 B0 Z0 Z1 z0 z1 z2 z3 z4 zf;go_wp2;go_ret;exact⟨ret_bool (by first|rfl|simp),B1⟩
 have b4:(k==4)=false:=bne h4;by_cases h23:k=23
 ·subst h23;by_cases p:n=0
  ·subst p;have hX:V=nameB nm:=by rw[hV];simp[numB,namB,call_rng,quant_rng]
   clear hV;rw[hX];clear hX V;go_enter Tryz.func268,Tryz.ntmps268;go_wp2_with fail;refine c1.mono ?_;rintro e w1 ⟨rfl,b1⟩;have B1:=B0.trans (b1.mono B0.size);have Z1:=(b1.block _ hs0).trans Z0;obtain⟨y0,y1,y2,y3,y4,yf⟩:=box5 Z1;clear c1 b1 B0 Z0 Z1 z0 z1 z2 z3 z4 zf;go_wp2;go_ret;exact⟨ret_bool (by first|rfl|simp),B1⟩
  ·have pb:(n==0)=false:=by simpa using p
   have hX:V=false:=by rw[hV];simp[numB,namB,call_rng,quant_rng,p]
   clear hV;clear p;rw[hX];clear hX V;go_enter Tryz.func268,Tryz.ntmps268;go_wp2_with fail;refine c1.mono ?_;rintro e w1 ⟨rfl,b1⟩;have B1:=B0.trans (b1.mono B0.size);have Z1:=(b1.block _ hs0).trans Z0;obtain⟨y0,y1,y2,y3,y4,yf⟩:=box5 Z1;clear c1 b1 B0 Z0 Z1 z0 z1 z2 z3 z4 zf;go_wp2;go_ret;exact⟨ret_bool (by first|rfl|simp),B1⟩
 have b23:(k==23)=false:=bne h23;by_cases h20:k=20
 ·subst h20;by_cases p:1<=n
  ·have pb:1<=n:=p;by_cases r:n<=10
   ·have rb:n<=10:=r;have hX:V=(nm==[]):=by rw[hV];simp[numB,namB,call_rng,quant_rng,p,r]
    clear hV;rw[hX];clear hX V;go_enter Tryz.func268,Tryz.ntmps268;go_wp2_with fail;refine c1.mono ?_;rintro e w1 ⟨rfl,b1⟩;have B1:=B0.trans (b1.mono B0.size);have Z1:=(b1.block _ hs0).trans Z0;obtain⟨y0,y1,y2,y3,y4,yf⟩:=box5 Z1;clear c1 b1 B0 Z0 Z1 z0 z1 z2 z3 z4 zf;go_wp2;go_ret;exact⟨ret_bool (by first|rfl|simp),B1⟩
   ·have rb:¬n<=10:=r;have hX:V=false:=by rw[hV];simp[numB,namB,call_rng,quant_rng,p,r]
    clear hV;rw[hX];clear hX V;go_enter Tryz.func268,Tryz.ntmps268;go_wp2_with fail;refine c1.mono ?_;rintro e w1 ⟨rfl,b1⟩;have B1:=B0.trans (b1.mono B0.size);have Z1:=(b1.block _ hs0).trans Z0;obtain⟨y0,y1,y2,y3,y4,yf⟩:=box5 Z1;clear c1 b1 B0 Z0 Z1 z0 z1 z2 z3 z4 zf;go_wp2;go_ret;exact⟨ret_bool (by first|rfl|simp),B1⟩
  ·have pb:¬1<=n:=p;have hX:V=false:=by rw[hV];simp[numB,namB,call_rng,quant_rng,p]
   clear hV;rw[hX];clear hX V;go_enter Tryz.func268,Tryz.ntmps268;go_wp2_with fail;refine c1.mono ?_;rintro e w1 ⟨rfl,b1⟩;have B1:=B0.trans (b1.mono B0.size);have Z1:=(b1.block _ hs0).trans Z0;obtain⟨y0,y1,y2,y3,y4,yf⟩:=box5 Z1;clear c1 b1 B0 Z0 Z1 z0 z1 z2 z3 z4 zf;go_wp2;go_ret;exact⟨ret_bool (by first|rfl|simp),B1⟩
 have b20:(k==20)=false:=bne h20;by_cases h21:k=21
 ·subst h21;by_cases p:1<=n
  ·have pb:1<=n:=p;by_cases r:n<=6
   ·have rb:n<=6:=r;have hX:V=nameB nm:=by rw[hV];simp[numB,namB,call_rng,quant_rng,p,r]
    clear hV;rw[hX];clear hX V;go_enter Tryz.func268,Tryz.ntmps268;go_wp2_with fail;refine c1.mono ?_;rintro e w1 ⟨rfl,b1⟩;have B1:=B0.trans (b1.mono B0.size);have Z1:=(b1.block _ hs0).trans Z0;obtain⟨y0,y1,y2,y3,y4,yf⟩:=box5 Z1;clear c1 b1 B0 Z0 Z1 z0 z1 z2 z3 z4 zf;go_wp2;go_ret;exact⟨ret_bool (by first|rfl|simp),B1⟩
   ·have rb:¬n<=6:=r;have hX:V=false:=by rw[hV];simp[numB,namB,call_rng,quant_rng,p,r]
    clear hV;rw[hX];clear hX V;go_enter Tryz.func268,Tryz.ntmps268;go_wp2_with fail;refine c1.mono ?_;rintro e w1 ⟨rfl,b1⟩;have B1:=B0.trans (b1.mono B0.size);have Z1:=(b1.block _ hs0).trans Z0;obtain⟨y0,y1,y2,y3,y4,yf⟩:=box5 Z1;clear c1 b1 B0 Z0 Z1 z0 z1 z2 z3 z4 zf;go_wp2;go_ret;exact⟨ret_bool (by first|rfl|simp),B1⟩
  ·have pb:¬1<=n:=p;have hX:V=false:=by rw[hV];simp[numB,namB,call_rng,quant_rng,p]
   clear hV;rw[hX];clear hX V;go_enter Tryz.func268,Tryz.ntmps268;go_wp2_with fail;refine c1.mono ?_;rintro e w1 ⟨rfl,b1⟩;have B1:=B0.trans (b1.mono B0.size);have Z1:=(b1.block _ hs0).trans Z0;obtain⟨y0,y1,y2,y3,y4,yf⟩:=box5 Z1;clear c1 b1 B0 Z0 Z1 z0 z1 z2 z3 z4 zf;go_wp2;go_ret;exact⟨ret_bool (by first|rfl|simp),B1⟩
 have b21:(k==21)=false:=bne h21;by_cases p:n=0
 ·subst p;have hX:V=(nm==[]):=by rw[hV];simp[numB,namB,call_rng,quant_rng,h1,h3,h2,h4,h23,h20,h21]
  clear hV;clear h1 h3 h2 h4 h23 h20 h21;rw[hX];clear hX V;go_enter Tryz.func268,Tryz.ntmps268;go_wp2_with fail;refine c1.mono ?_;rintro e w1 ⟨rfl,b1⟩;have B1:=B0.trans (b1.mono B0.size);have Z1:=(b1.block _ hs0).trans Z0;obtain⟨y0,y1,y2,y3,y4,yf⟩:=box5 Z1;clear c1 b1 B0 Z0 Z1 z0 z1 z2 z3 z4 zf;go_wp2;go_ret;exact⟨ret_bool (by first|rfl|simp),B1⟩
 ·have pb:(n==0)=false:=by simpa using p
  have hX:V=false:=by rw[hV];simp[numB,namB,call_rng,quant_rng,h1,h3,h2,h4,h23,h20,h21,p]
  clear hV;clear p h1 h3 h2 h4 h23 h20 h21;rw[hX];clear hX V;go_enter Tryz.func268,Tryz.ntmps268;go_wp2_with fail;refine c1.mono ?_;rintro e w1 ⟨rfl,b1⟩;have B1:=B0.trans (b1.mono B0.size);have Z1:=(b1.block _ hs0).trans Z0;obtain⟨y0,y1,y2,y3,y4,yf⟩:=box5 Z1;clear c1 b1 B0 Z0 Z1 z0 z1 z2 z3 z4 zf;go_wp2;go_ret;exact⟨ret_bool (by first|rfl|simp),B1⟩
end Go.Proofs.YtbjdkekhnajafaaGreatDoor

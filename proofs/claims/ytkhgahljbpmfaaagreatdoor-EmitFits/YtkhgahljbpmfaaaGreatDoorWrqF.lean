import Derived.Test.YtkhgahljbpmfaaaGreatDoorWrqB
import Derived.Deep.RegionWith
import Derived.Deep.LoopGhost
set_option maxRecDepth 100000
set_option maxHeartbeats 8000000
namespace Go.Proofs.YtkhgahljbpmfaaaGreatDoor
open Go.ChangeShapes Go.WideShapes Go.ChangeAt Go.RowKit
set_option linter.unusedVariables false
def grt (r:Nat):Bool:=decide (65<=r)&&decide (r<=90)
theorem dig_r (r:Nat)(w:World)(hr:r<256) :
  Calls Tryz.prog 95 #[.int .u8 (r:Nat)] w fun e w'=>e=.returned (.bool (dig r))/\w'=w:=by
 by_cases h1:48<=r
 ·have g1:(48:Int)<=(r:Int):=by omega
  by_cases h2:r<=57
  ·have g2:(r:Int)<=57:=by omega
   have e0:dig r=true:=by simp[dig,h1,h2]
   rw[e0];clear e0;go_enter Tryz.func95,Tryz.ntmps95;go_wp2;go_ret;exact⟨rfl,rfl⟩
  ·have g2:¬(r:Int)<=57:=by omega
   have g3:decide ((r:Int)<=57)=false:=decide_eq_false g2;have e0:dig r=false:=by simp[dig];omega
   rw[e0];clear e0;go_enter Tryz.func95,Tryz.ntmps95;go_wp2;go_ret;exact⟨rfl,rfl⟩
 ·have g1:¬(48:Int)<=(r:Int):=by omega
  have e0:dig r=false:=by simp[dig];omega
  rw[e0];clear e0;go_enter Tryz.func95,Tryz.ntmps95;go_wp2;go_ret;exact⟨rfl,rfl⟩
theorem sml_r (r:Nat)(w:World)(hr:r<256) :
  Calls Tryz.prog 98 #[.int .u8 (r:Nat)] w fun e w'=>e=.returned (.bool (sml r))/\w'=w:=by
 by_cases h1:97<=r
 ·have g1:(97:Int)<=(r:Int):=by omega
  by_cases h2:r<=122
  ·have g2:(r:Int)<=122:=by omega
   have e0:sml r=true:=by simp[sml,h1,h2]
   rw[e0];clear e0;go_enter Tryz.func98,Tryz.ntmps98;go_wp2;go_ret;exact⟨rfl,rfl⟩
  ·have g2:¬(r:Int)<=122:=by omega
   have g3:decide ((r:Int)<=122)=false:=decide_eq_false g2;have e0:sml r=false:=by simp[sml];omega
   rw[e0];clear e0;go_enter Tryz.func98,Tryz.ntmps98;go_wp2;go_ret;exact⟨rfl,rfl⟩
 ·have g1:¬(97:Int)<=(r:Int):=by omega
  have e0:sml r=false:=by simp[sml];omega
  rw[e0];clear e0;go_enter Tryz.func98,Tryz.ntmps98;go_wp2;go_ret;exact⟨rfl,rfl⟩
theorem grt_r (r:Nat)(w:World)(hr:r<256) :
  Calls Tryz.prog 99 #[.int .u8 (r:Nat)] w fun e w'=>e=.returned (.bool (grt r))/\w'=w:=by
 by_cases h1:65<=r
 ·have g1:(65:Int)<=(r:Int):=by omega
  by_cases h2:r<=90
  ·have g2:(r:Int)<=90:=by omega
   have e0:grt r=true:=by simp[grt,h1,h2]
   rw[e0];clear e0;go_enter Tryz.func99,Tryz.ntmps99;go_wp2;go_ret;exact⟨rfl,rfl⟩
  ·have g2:¬(r:Int)<=90:=by omega
   have g3:decide ((r:Int)<=90)=false:=decide_eq_false g2;have e0:grt r=false:=by simp[grt];omega
   rw[e0];clear e0;go_enter Tryz.func99,Tryz.ntmps99;go_wp2;go_ret;exact⟨rfl,rfl⟩
 ·have g1:¬(65:Int)<=(r:Int):=by omega
  have e0:grt r=false:=by simp[grt];omega
  rw[e0];clear e0;go_enter Tryz.func99,Tryz.ntmps99;go_wp2;go_ret;exact⟨rfl,rfl⟩
theorem blk_r (r:Nat)(w:World)(hr:r<256) :
  Calls Tryz.prog 49 #[.int .u8 (r:Nat)] w fun e w'=>e=.returned (.bool (blk r))/\w'=w:=by
 by_cases h0:r=32
 ·subst h0;have e0:blk 32=true:=by rfl
  rw[e0];clear e0;go_enter Tryz.func49,Tryz.ntmps49;go_wp2;go_ret;exact⟨rfl,rfl⟩
 by_cases h1:r=9
 ·subst h1;clear h0;have e0:blk 9=true:=by rfl
  rw[e0];clear e0;go_enter Tryz.func49,Tryz.ntmps49;go_wp2;go_ret;exact⟨rfl,rfl⟩
 by_cases h2:r=10
 ·subst h2;clear h0;clear h1;have e0:blk 10=true:=by rfl
  rw[e0];clear e0;go_enter Tryz.func49,Tryz.ntmps49;go_wp2;go_ret;exact⟨rfl,rfl⟩
 by_cases h3:r=13
 ·subst h3;clear h0;clear h1;clear h2;have e0:blk 13=true:=by rfl
  rw[e0];clear e0;go_enter Tryz.func49,Tryz.ntmps49;go_wp2;go_ret;exact⟨rfl,rfl⟩
 have e0:blk r=false:=by simp[blk];omega
 have g0:¬(r:Int)=32:=by omega
 have g1:¬(r:Int)=9:=by omega
 have g2:¬(r:Int)=10:=by omega
 have g3:¬(r:Int)=13:=by omega
 clear h0 h1 h2 h3;rw[e0];clear e0;go_enter Tryz.func49,Tryz.ntmps49;go_wp2;go_ret;refine⟨?_,rfl⟩;simp[g0,g1,g2,g3]
abbrev wordsV:Array Value:=#[.string ⟨#[97,108,108]⟩,.string ⟨#[97,110,100]⟩,.string ⟨#[97,114,111,117,110,100]⟩,.string ⟨#[98,108,111,99,107]⟩,.string ⟨#[98,111,116,116,108,101,110,101,99,107]⟩,.string ⟨#[99,111,110,110,101,99,116,101,100]⟩,.string ⟨#[99,111,117,110,116]⟩,.string ⟨#[100,101,103,114,101,101]⟩,.string ⟨#[101,108,115,101]⟩,.string ⟨#[102,97,108,115,101]⟩,.string ⟨#[105,102]⟩,.string ⟨#[105,110]⟩,.string ⟨#[108,101,97,115,116]⟩,.string ⟨#[109,97,120]⟩,.string ⟨#[109,105,110]⟩,.string ⟨#[109,111,115,116]⟩,.string ⟨#[110,111,116]⟩,.string ⟨#[111,114]⟩,.string ⟨#[114,101,112]⟩,.string ⟨#[115,105,122,101]⟩,.string ⟨#[115,111,109,101]⟩,.string ⟨#[115,117,109]⟩,.string ⟨#[116,104,101,110]⟩,.string ⟨#[116,111,116,97,108]⟩,.string ⟨#[116,114,117,101]⟩,.string ⟨#[118,97,108,117,101]⟩,.string ⟨#[118,101,114,116,105,99,101,115]⟩]
theorem wordsV_at (k:Nat)(hk:k<27):wordsV[k]?=some (.string (wd k)):=by
 match k,hk with
 | 0,_=>rfl
 | 1,_=>rfl
 | 2,_=>rfl
 | 3,_=>rfl
 | 4,_=>rfl
 | 5,_=>rfl
 | 6,_=>rfl
 | 7,_=>rfl
 | 8,_=>rfl
 | 9,_=>rfl
 | 10,_=>rfl
 | 11,_=>rfl
 | 12,_=>rfl
 | 13,_=>rfl
 | 14,_=>rfl
 | 15,_=>rfl
 | 16,_=>rfl
 | 17,_=>rfl
 | 18,_=>rfl
 | 19,_=>rfl
 | 20,_=>rfl
 | 21,_=>rfl
 | 22,_=>rfl
 | 23,_=>rfl
 | 24,_=>rfl
 | 25,_=>rfl
 | 26,_=>rfl
 | n+27,h=>omega
theorem word_r (s:ByteArray)(w:World)(hs:s.size<=maxLen) :
  Calls Tryz.prog 100 #[.string s] w fun e w'=>e=.returned (.bool (wordB s.data.toList))/\Below w.heap.size w w':=by
 obtain⟨w1,hw1⟩:∃w1,w1=w.alloc (.cells wordsV 9):=⟨_,rfl⟩
 have hce:∀ k,k<27->w1.cell? ⟨w.heap.size,k,none⟩=some (.string (wd k)):=fun k hk=>by
  rw[hw1,cell_of_row _ _ _ _ _ _ (heap_alloc_new w _),wordsV_at k hk]
 have hbe:Below w.heap.size w w1:=by rw[hw1];exact b1 _ _
 have HW:Hid (w1=w.alloc (.cells wordsV 9)):=hw1;have HC:=Lib.hid hce;clear hw1 hce;go_enter Tryz.func100,Tryz.ntmps100;go_upto_region 2 with fail;rw[show w.alloc _=w1 from HW.out.symm];clear HW;go_wp2_with fail;go_loopw [4] (fun v wr=>∃k:Nat,k<=27/\v=.int .i64 (k:Nat)/\(∀ j,j<k->s≠wd j)/\wr=w1) (fun v _=>27-(intOf v).toNat)
 case atStart=>exact⟨0,by omega,by go_num,fun j hj=>by omega,rfl⟩
 case round =>
  obtain⟨k,hk,rfl,hin,rfl⟩:=hrel;by_cases hlt:k<27
  ·have ix:=HC.out k hlt;have hkI:(k:Int)<27:=by omega
   by_cases he:s=wd k
   ·have fin:wordB s.data.toList=true:=wordB_yes k hlt (by rw[he];rfl);rw[<-he] at ix;clear he HC hin;go_wp2;go_ret;exact⟨by rw[fin];rfl,hbe⟩
   ·have hin':∀ j,j<k+1->s≠wd j:=fun j hj=>by
     by_cases e:j=k
     ·subst e;exact he
     ·exact hin j (by omega)
    have heb:((wd k).toList==s.toList)=false:=str_ne (fun e=>he e.symm);generalize wd k=t at ix he heb;clear HC hin;go_wp2;go_roundw
    case rel=>(try ((repeat apply Exists.intro);refine⟨?_,rfl⟩));exact⟨k+1,by omega,by go_num,hin',by trivial⟩
    case measure=>simp[intOf];omega
  ·obtain rfl:k=27:=by omega
   clear HC;have fin:wordB s.data.toList=false:=wordB_no fun j hj e=>hin j hj (bytes_eq.1 (by rw[e];rfl));go_wp2;go_ret;exact⟨by rw[fin];rfl,hbe⟩
theorem name_r (s:ByteArray)(w:World)(hs:s.size<=maxLen) :
  Calls Tryz.prog 101 #[.string s] w fun e w'=>e=.returned (.bool (nameB s.data.toList))/\Below w.heap.size w w':=by
 have hs':=hs;unfold maxLen at hs;have HL:Hid (s.data.toList.length=s.size):=data_len s;by_cases h0:s.size<1
 ·have fin:nameB s.data.toList=false:=by rw[<-Bool.not_eq_true,nameB_iff];rintro ⟨h,_⟩;have:=HL.out;omega
  rw[fin];clear fin;have h0I:(s.size:Int)<1:=by omega
  go_enter Tryz.func101,Tryz.ntmps101;go_wp2;go_ret;exact⟨rfl,b0 _⟩
 ·have h0I:¬(s.size:Int)<1:=by omega
  by_cases h12:12<s.size
  ·have fin:nameB s.data.toList=false:=by rw[<-Bool.not_eq_true,nameB_iff];rintro ⟨_,h,_⟩;have:=HL.out;omega
   rw[fin];clear fin;have h12I:(12:Int)<(s.size:Int):=by omega
   go_enter Tryz.func101,Tryz.ntmps101;go_wp2;go_ret;exact⟨rfl,b0 _⟩
  ·have h12I:¬(12:Int)<(s.size:Int):=by omega
   have hpos:0<s.size:=by omega
   have hpl:0<s.data.toList.length:=by have:=HL.out;omega
   have hb0:(s[0]'hpos).toNat<256:=UInt8.toNat_lt _;cases h1:sml (s[0]'hpos).toNat
   ·have fin:nameB s.data.toList=false:=nameB_not 0 hpl (by rw[data_get s 0 hpos hpl];simp[nmc,h1]);rw[fin];clear fin;go_enter Tryz.func101,Tryz.ntmps101;go_wp2_with (go_at_call 98;refine(sml_r _ _ hb0).mono ?_;rw[h1];rintro e w1 ⟨rfl,rfl⟩);go_ret;exact⟨rfl,b0 _⟩
   ·have H0:Hid (nmc 0 s[0]=true):=by show _=_;simp[nmc,h1]
    go_enter Tryz.func101,Tryz.ntmps101;go_wp2_with (go_at_call 98;refine(sml_r _ _ hb0).mono ?_;rw[h1];rintro e w1 ⟨rfl,rfl⟩);go_loopw [3] (fun v wr=>∃k:Nat,v=.int .i64 (k:Nat)/\k<=s.size/\(∀ j (h:j<s.data.toList.length),j<k->nmc j s.data.toList[j]=true)/\wr=w1) (fun v _=>s.size-(intOf v).toNat)
    case atStart=>exact⟨0,by go_num,by omega,fun j _ h=>by omega,rfl⟩
    case round =>
     obtain⟨k,rfl,hk,hin,rfl⟩:=hrel;by_cases hlt:k<s.size
     ·have hkl:k<s.data.toList.length:=by have:=HL.out;omega
      have hkI:(k:Int)<(s.size:Int):=by omega
      have hbk:(s[k]'hlt).toNat<256:=UInt8.toNat_lt _;have hex:nmc k s.data.toList[k]=nmc k s[k]:=by rw[data_get s k hlt hkl]
      have hcase:nmc k s[k]=(sml (s[k]).toNat||dig (s[k]).toNat||(s[k]).toNat==95):=by
       by_cases hk0:k=0
       ·subst hk0;rw[H0.out,h1];rfl
       ·have hb:(k != 0)=true:=by simpa using hk0
        simp[nmc,hb,Bool.or_assoc]
      have hgo:(sml (s[k]).toNat||dig (s[k]).toNat||(s[k]).toNat==95)=true->∀ j (h:j<s.data.toList.length),j<k+1->nmc j s.data.toList[j]=true:=fun hx j h hj=>by
       by_cases e:j=k
       ·subst e;rw[hex,hcase];exact hx
       ·exact hin j h (by omega)
      have hno:(sml (s[k]).toNat||dig (s[k]).toNat||(s[k]).toNat==95)=false->nameB s.data.toList=false:=fun hx=>nameB_not k hkl (by rw[hex,hcase];exact hx);have HG:Hid (((sml (s[k]).toNat||dig (s[k]).toNat||(s[k]).toNat==95)=true->∀ j (h:j<s.data.toList.length),j<k+1->nmc j s.data.toList[j]=true)/\((sml (s[k]).toNat||dig (s[k]).toNat||(s[k]).toNat==95)=false->nameB s.data.toList=false)):=⟨hgo,hno⟩
      clear hex hcase hgo hno hin;cases h2:sml (s[k]'hlt).toNat
      ·cases h3:dig (s[k]'hlt).toNat
       ·by_cases h4:(s[k]'hlt).toNat=95
        ·have RL:=HG.out.1 (by simp[h4]);have H4:=Lib.hid h4;clear HG h4;go_wp2_with (first|(go_at_call 98;refine(sml_r _ _ hbk).mono ?_;rw[h2];rintro e w1 ⟨rfl,rfl⟩)|(go_at_call 95;refine(dig_r _ _ hbk).mono ?_;rw[h3];rintro e w1 ⟨rfl,rfl⟩;have h4:=H4.out;clear h2 h3 hbk));go_roundw
         case rel=>(try ((repeat apply Exists.intro);refine⟨?_,rfl⟩));exact⟨k+1,by go_num,by omega,RL,by trivial⟩
         case measure=>simp[intOf];omega
        ·have fin:nameB s.data.toList=false:=HG.out.2 (by simp[h2,h3,h4]);have h4I:¬((s[k]'hlt).toNat:Int)=95:=by omega
         have h4b:(((s[k]'hlt).toNat:Int)==95)=false:=by simpa using h4I
         clear HG h4;go_wp2_with (first|(go_at_call 98;refine(sml_r _ _ hbk).mono ?_;rw[h2];rintro e w1 ⟨rfl,rfl⟩)|(go_at_call 95;refine(dig_r _ _ hbk).mono ?_;rw[h3];rintro e w1 ⟨rfl,rfl⟩));go_ret;exact⟨by rw[fin];rfl,b0 _⟩
       ·have RL:=HG.out.1 (by simp[h3]);clear HG;go_wp2_with (first|(go_at_call 98;refine(sml_r _ _ hbk).mono ?_;rw[h2];rintro e w1 ⟨rfl,rfl⟩)|(go_at_call 95;refine(dig_r _ _ hbk).mono ?_;rw[h3];rintro e w1 ⟨rfl,rfl⟩));go_roundw
        case rel=>(try ((repeat apply Exists.intro);refine⟨?_,rfl⟩));exact⟨k+1,by go_num,by omega,RL,by trivial⟩
        case measure=>simp[intOf];omega
      ·have RL:=HG.out.1 (by simp[h2]);clear HG;go_wp2_with (go_at_call 98;refine(sml_r _ _ hbk).mono ?_;rw[h2];rintro e w1 ⟨rfl,rfl⟩);go_roundw
       case rel=>(try ((repeat apply Exists.intro);refine⟨?_,rfl⟩));exact⟨k+1,by go_num,by omega,RL,by trivial⟩
       case measure=>simp[intOf];omega
     ·obtain rfl:k=s.size:=by omega
      have fin:nameB s.data.toList=!wordB s.data.toList:=by
       have hl:=HL.out;cases hw:wordB s.data.toList
       ·exact(nameB_iff _).2 ⟨by omega,by omega,fun j h=>hin j h (by omega),hw⟩
       ·show _=false;rw[<-Bool.not_eq_true,nameB_iff];rintro ⟨_,_,_,h⟩;rw[hw] at h;cases h
      clear hin;go_wp2_with (go_at_call 100;refine(word_r s _ hs').mono ?_;rintro e w1 ⟨rfl,hbx⟩);go_ret;exact⟨by rw[fin];rfl,hbx⟩
set_option linter.unusedSimpArgs false
theorem row_8 {k:Int}(h19:k≠19)(h21:k≠21)(h18:k≠18)(h17:k≠17)(h7:k≠7)(h13:k≠13)(h14:k≠14)(h15:k≠15)(h16:k≠16)(h8:k≠8)(h9:k≠9)(h10:k≠10)(h11:k≠11)(h12:k≠12)(h6:k≠6):rowOf k=8:=by
 have e19:((19:Int)==k)=false:=by rw[beq_eq_false_iff_ne];exact fun e=>h19 e.symm
 have e21:((21:Int)==k)=false:=by rw[beq_eq_false_iff_ne];exact fun e=>h21 e.symm
 have e18:((18:Int)==k)=false:=by rw[beq_eq_false_iff_ne];exact fun e=>h18 e.symm
 have e17:((17:Int)==k)=false:=by rw[beq_eq_false_iff_ne];exact fun e=>h17 e.symm
 have e7:((7:Int)==k)=false:=by rw[beq_eq_false_iff_ne];exact fun e=>h7 e.symm
 have e13:((13:Int)==k)=false:=by rw[beq_eq_false_iff_ne];exact fun e=>h13 e.symm
 have e14:((14:Int)==k)=false:=by rw[beq_eq_false_iff_ne];exact fun e=>h14 e.symm
 have e15:((15:Int)==k)=false:=by rw[beq_eq_false_iff_ne];exact fun e=>h15 e.symm
 have e16:((16:Int)==k)=false:=by rw[beq_eq_false_iff_ne];exact fun e=>h16 e.symm
 have e8:((8:Int)==k)=false:=by rw[beq_eq_false_iff_ne];exact fun e=>h8 e.symm
 have e9:((9:Int)==k)=false:=by rw[beq_eq_false_iff_ne];exact fun e=>h9 e.symm
 have e10:((10:Int)==k)=false:=by rw[beq_eq_false_iff_ne];exact fun e=>h10 e.symm
 have e11:((11:Int)==k)=false:=by rw[beq_eq_false_iff_ne];exact fun e=>h11 e.symm
 have e12:((12:Int)==k)=false:=by rw[beq_eq_false_iff_ne];exact fun e=>h12 e.symm
 have e6:((6:Int)==k)=false:=by rw[beq_eq_false_iff_ne];exact fun e=>h6 e.symm
 have ho:opOf k=none:=by simp[opOf,opsL,List.find?,e18,e17,e13,e14,e15,e16,e8,e9,e10,e11,e12]
 simp[rowOf,ho,bne h19,bne h21,bne h7,bne h6]
theorem row_q (k:Int)(w:World) :
  Calls Tryz.prog 245 #[.int .i64 k] w fun e w'=>e=.returned (.int .i64 (rowOf k:Nat))/\w'=w:=by
 by_cases h19:k=19
 ·subst h19;go_enter Tryz.func245,Tryz.ntmps245;go_wp2;go_ret;exact⟨rfl,rfl⟩
 have b19:(k==19)=false:=bne h19;by_cases h21:k=21
 ·subst h21;go_enter Tryz.func245,Tryz.ntmps245;go_wp2;go_ret;exact⟨rfl,rfl⟩
 have b21:(k==21)=false:=bne h21;by_cases h18:k=18
 ·subst h18;go_enter Tryz.func245,Tryz.ntmps245;go_wp2;go_ret;exact⟨rfl,rfl⟩
 have b18:(k==18)=false:=bne h18;by_cases h17:k=17
 ·subst h17;go_enter Tryz.func245,Tryz.ntmps245;go_wp2;go_ret;exact⟨rfl,rfl⟩
 have b17:(k==17)=false:=bne h17;by_cases h7:k=7
 ·subst h7;go_enter Tryz.func245,Tryz.ntmps245;go_wp2;go_ret;exact⟨rfl,rfl⟩
 have b7:(k==7)=false:=bne h7;by_cases h13:k=13
 ·subst h13;go_enter Tryz.func245,Tryz.ntmps245;go_wp2;go_ret;exact⟨rfl,rfl⟩
 have b13:(k==13)=false:=bne h13;by_cases h14:k=14
 ·subst h14;go_enter Tryz.func245,Tryz.ntmps245;go_wp2;go_ret;exact⟨rfl,rfl⟩
 have b14:(k==14)=false:=bne h14;by_cases h15:k=15
 ·subst h15;go_enter Tryz.func245,Tryz.ntmps245;go_wp2;go_ret;exact⟨rfl,rfl⟩
 have b15:(k==15)=false:=bne h15;by_cases h16:k=16
 ·subst h16;go_enter Tryz.func245,Tryz.ntmps245;go_wp2;go_ret;exact⟨rfl,rfl⟩
 have b16:(k==16)=false:=bne h16;by_cases h8:k=8
 ·subst h8;go_enter Tryz.func245,Tryz.ntmps245;go_wp2;go_ret;exact⟨rfl,rfl⟩
 have b8:(k==8)=false:=bne h8;by_cases h9:k=9
 ·subst h9;go_enter Tryz.func245,Tryz.ntmps245;go_wp2;go_ret;exact⟨rfl,rfl⟩
 have b9:(k==9)=false:=bne h9;by_cases h10:k=10
 ·subst h10;go_enter Tryz.func245,Tryz.ntmps245;go_wp2;go_ret;exact⟨rfl,rfl⟩
 have b10:(k==10)=false:=bne h10;by_cases h11:k=11
 ·subst h11;go_enter Tryz.func245,Tryz.ntmps245;go_wp2;go_ret;exact⟨rfl,rfl⟩
 have b11:(k==11)=false:=bne h11;by_cases h12:k=12
 ·subst h12;go_enter Tryz.func245,Tryz.ntmps245;go_wp2;go_ret;exact⟨rfl,rfl⟩
 have b12:(k==12)=false:=bne h12;by_cases h6:k=6
 ·subst h6;go_enter Tryz.func245,Tryz.ntmps245;go_wp2;go_ret;exact⟨rfl,rfl⟩
 have b6:(k==6)=false:=bne h6;rw[row_8 h19 h21 h18 h17 h7 h13 h14 h15 h16 h8 h9 h10 h11 h12 h6];clear h19 h21 h18 h17 h7 h13 h14 h15 h16 h8 h9 h10 h11 h12 h6;go_enter Tryz.func245,Tryz.ntmps245;go_wp2;go_ret;exact⟨rfl,rfl⟩
def askO (k:Int)(i:Nat):Nat:=if rowOf k=3\/rowOf k=7 then rowOf k else if rowOf k=4 then 5 else if rowOf k=0\/rowOf k=8 then 0 else rowOf k+i
theorem row_le (k:Int):rowOf k<=8:=by
 unfold rowOf;split
 ·omega
 ·split
  ·omega
  ·split
   ·omega
   ·split
    ·rename_i x hx
     have hm:=List.mem_of_find?_eq_some hx
     have:∀ x ∈ opsL,x.2.2.1<=8:=by decide
     exact this x hm
    ·omega
theorem asked_q (k:Int)(i:Nat)(hi:i<=1000000000)(w:World) :
  Calls Tryz.prog 246 #[.int .i64 k,.int .i64 (i:Nat)] w fun e w'=>e=.returned (.int .i64 (askO k i:Nat))/\w'=w:=by
 have c1:=row_q k w;have hle:=row_le k;obtain⟨W,hW⟩:∃W,W=askO k i:=⟨_,rfl⟩
 rw[<-hW];unfold askO at hW;generalize rowOf k=r at *;by_cases h0:r=0
 ·subst h0;have hX:W=0:=by simpa using hW
  clear hW;subst hX;go_enter Tryz.func246,Tryz.ntmps246;go_wp2_with fail;refine c1.mono ?_;rintro e w1 ⟨rfl,rfl⟩;clear c1;go_wp2;go_ret;exact⟨rfl,rfl⟩
 by_cases h3:r=3
 ·subst h3;have hX:W=3:=by simpa using hW
  clear hW;subst hX;go_enter Tryz.func246,Tryz.ntmps246;go_wp2_with fail;refine c1.mono ?_;rintro e w1 ⟨rfl,rfl⟩;clear c1;go_wp2;go_ret;exact⟨rfl,rfl⟩
 by_cases h4:r=4
 ·subst h4;have hX:W=5:=by simpa using hW
  clear hW;subst hX;go_enter Tryz.func246,Tryz.ntmps246;go_wp2_with fail;refine c1.mono ?_;rintro e w1 ⟨rfl,rfl⟩;clear c1;go_wp2;go_ret;exact⟨rfl,rfl⟩
 by_cases h7:r=7
 ·subst h7;have hX:W=7:=by simpa using hW
  clear hW;subst hX;go_enter Tryz.func246,Tryz.ntmps246;go_wp2_with fail;refine c1.mono ?_;rintro e w1 ⟨rfl,rfl⟩;clear c1;go_wp2;go_ret;exact⟨rfl,rfl⟩
 by_cases h8:r=8
 ·subst h8;have hX:W=0:=by simpa using hW
  clear hW;subst hX;go_enter Tryz.func246,Tryz.ntmps246;go_wp2_with fail;refine c1.mono ?_;rintro e w1 ⟨rfl,rfl⟩;clear c1;go_wp2;go_ret;exact⟨rfl,rfl⟩
 have hX:W=r+i:=by simpa [h0,h3,h4,h7,h8] using hW
 clear hW;subst hX;have b0:((r:Int)==0)=false:=by rw[beq_eq_false_iff_ne];omega
 have b3:((r:Int)==3)=false:=by rw[beq_eq_false_iff_ne];omega
 have b4:((r:Int)==4)=false:=by rw[beq_eq_false_iff_ne];omega
 have b7:((r:Int)==7)=false:=by rw[beq_eq_false_iff_ne];omega
 have b8:((r:Int)==8)=false:=by rw[beq_eq_false_iff_ne];omega
 have hr:r<=8:=hle;clear h0 h3 h4 h7 h8 hle;go_enter Tryz.func246,Tryz.ntmps246;go_wp2_with fail;refine c1.mono ?_;rintro e w1 ⟨rfl,rfl⟩;clear c1;go_wp2;go_ret;exact⟨by rw[show ((r+i:Nat):Int)=(r:Int)+(i:Int) by omega];rfl,rfl⟩
theorem isSetK_iff (k:Int):isSetK k=decide (22<=k/\k<=25):=by
 by_cases h:22<=k/\k<=25
 ·rw[show decide (22<=k/\k<=25)=true by simpa using h];unfold isSetK;simp only[Bool.or_eq_true,beq_iff_eq];omega
 ·rw[show decide (22<=k/\k<=25)=false by simpa using h];rw[<-Bool.not_eq_true];unfold isSetK;simp only[Bool.or_eq_true,beq_iff_eq];omega
theorem isSet_q (k:Int)(w:World) :
  Calls Tryz.prog 228 #[.int .i64 k] w fun e w'=>e=.returned (.bool (isSetK k))/\w'=w:=by
 rw[isSetK_iff];by_cases h1:22<=k
 ·by_cases h2:k<=25
  ·rw[show decide (22<=k/\k<=25)=true by simp;omega];go_enter Tryz.func228,Tryz.ntmps228;go_wp2;go_ret;exact⟨by simp[h2],rfl⟩
  ·rw[show decide (22<=k/\k<=25)=false by simp;omega];go_enter Tryz.func228,Tryz.ntmps228;go_wp2;go_ret;exact⟨by simp[h2],rfl⟩
 ·rw[show decide (22<=k/\k<=25)=false by simp;omega];go_enter Tryz.func228,Tryz.ntmps228;go_wp2;go_ret;exact⟨rfl,rfl⟩
def kidN (k n:Int):Int :=
 if k=1\/k=2\/k=3\/k=4\/k=22\/k=23 then 0 else if k=6\/k=7\/k=24 then 1 else if k=8\/k=9\/k=10\/k=11\/k=12\/k=13\/k=14\/k=15\/k=16\/k=17\/k=18\/k=21 then 2 else if k=19 then 3 else if k=25 then -1 else if k=20 then (if 1<=n/\n<=3 then 2 else 1) else -2
theorem kids_q (k n:Int)(nm:List UInt8)(ao:Option Addr)(len cap:Nat)(a:Int)(w:World) :
  Calls Tryz.prog 226 #[.agg #[.int .i64 k,.int .i64 n,stv nm,.slice ao len cap,.int .i64 a]] w fun e w'=>e=.returned (.int .i64 (kidN k n))/\Below w.heap.size w w':=by
 have B0:Below w.heap.size w (w.alloc (.cells #[.int .i64 k,.int .i64 n,stv nm,.slice ao len cap,.int .i64 a] 25)):=(Below.refl _ w).alloc (Nat.le_refl _) _;have Z0:(w.alloc (.cells #[.int .i64 k,.int .i64 n,stv nm,.slice ao len cap,.int .i64 a] 25)).heap[w.heap.size]?=some (.cells #[.int .i64 k,.int .i64 n,stv nm,.slice ao len cap,.int .i64 a] 25):=heap_alloc_new w _;obtain⟨z0,z1,z2,z3,z4,zf⟩:=box5 Z0;clear Z0;obtain⟨V,hV⟩:∃V,V=kidN k n:=⟨_,rfl⟩
 rw[<-hV];by_cases h1:k=1
 ·subst h1;have hX:V=0:=hV;clear hV;subst hX;go_enter Tryz.func226,Tryz.ntmps226;go_wp2;go_ret;exact⟨rfl,B0⟩
 have b1:(k==1)=false:=bne h1;by_cases h2:k=2
 ·subst h2;have hX:V=0:=hV;clear hV;subst hX;go_enter Tryz.func226,Tryz.ntmps226;go_wp2;go_ret;exact⟨rfl,B0⟩
 have b2:(k==2)=false:=bne h2;by_cases h3:k=3
 ·subst h3;have hX:V=0:=hV;clear hV;subst hX;go_enter Tryz.func226,Tryz.ntmps226;go_wp2;go_ret;exact⟨rfl,B0⟩
 have b3:(k==3)=false:=bne h3;by_cases h4:k=4
 ·subst h4;have hX:V=0:=hV;clear hV;subst hX;go_enter Tryz.func226,Tryz.ntmps226;go_wp2;go_ret;exact⟨rfl,B0⟩
 have b4:(k==4)=false:=bne h4;by_cases h22:k=22
 ·subst h22;have hX:V=0:=hV;clear hV;subst hX;go_enter Tryz.func226,Tryz.ntmps226;go_wp2;go_ret;exact⟨rfl,B0⟩
 have b22:(k==22)=false:=bne h22;by_cases h23:k=23
 ·subst h23;have hX:V=0:=hV;clear hV;subst hX;go_enter Tryz.func226,Tryz.ntmps226;go_wp2;go_ret;exact⟨rfl,B0⟩
 have b23:(k==23)=false:=bne h23;by_cases h6:k=6
 ·subst h6;have hX:V=1:=hV;clear hV;subst hX;go_enter Tryz.func226,Tryz.ntmps226;go_wp2;go_ret;exact⟨rfl,B0⟩
 have b6:(k==6)=false:=bne h6;by_cases h7:k=7
 ·subst h7;have hX:V=1:=hV;clear hV;subst hX;go_enter Tryz.func226,Tryz.ntmps226;go_wp2;go_ret;exact⟨rfl,B0⟩
 have b7:(k==7)=false:=bne h7;by_cases h24:k=24
 ·subst h24;have hX:V=1:=hV;clear hV;subst hX;go_enter Tryz.func226,Tryz.ntmps226;go_wp2;go_ret;exact⟨rfl,B0⟩
 have b24:(k==24)=false:=bne h24;by_cases h8:k=8
 ·subst h8;have hX:V=2:=hV;clear hV;subst hX;go_enter Tryz.func226,Tryz.ntmps226;go_wp2;go_ret;exact⟨rfl,B0⟩
 have b8:(k==8)=false:=bne h8;by_cases h9:k=9
 ·subst h9;have hX:V=2:=hV;clear hV;subst hX;go_enter Tryz.func226,Tryz.ntmps226;go_wp2;go_ret;exact⟨rfl,B0⟩
 have b9:(k==9)=false:=bne h9;by_cases h10:k=10
 ·subst h10;have hX:V=2:=hV;clear hV;subst hX;go_enter Tryz.func226,Tryz.ntmps226;go_wp2;go_ret;exact⟨rfl,B0⟩
 have b10:(k==10)=false:=bne h10;by_cases h11:k=11
 ·subst h11;have hX:V=2:=hV;clear hV;subst hX;go_enter Tryz.func226,Tryz.ntmps226;go_wp2;go_ret;exact⟨rfl,B0⟩
 have b11:(k==11)=false:=bne h11;by_cases h12:k=12
 ·subst h12;have hX:V=2:=hV;clear hV;subst hX;go_enter Tryz.func226,Tryz.ntmps226;go_wp2;go_ret;exact⟨rfl,B0⟩
 have b12:(k==12)=false:=bne h12;by_cases h13:k=13
 ·subst h13;have hX:V=2:=hV;clear hV;subst hX;go_enter Tryz.func226,Tryz.ntmps226;go_wp2;go_ret;exact⟨rfl,B0⟩
 have b13:(k==13)=false:=bne h13;by_cases h14:k=14
 ·subst h14;have hX:V=2:=hV;clear hV;subst hX;go_enter Tryz.func226,Tryz.ntmps226;go_wp2;go_ret;exact⟨rfl,B0⟩
 have b14:(k==14)=false:=bne h14;by_cases h15:k=15
 ·subst h15;have hX:V=2:=hV;clear hV;subst hX;go_enter Tryz.func226,Tryz.ntmps226;go_wp2;go_ret;exact⟨rfl,B0⟩
 have b15:(k==15)=false:=bne h15;by_cases h16:k=16
 ·subst h16;have hX:V=2:=hV;clear hV;subst hX;go_enter Tryz.func226,Tryz.ntmps226;go_wp2;go_ret;exact⟨rfl,B0⟩
 have b16:(k==16)=false:=bne h16;by_cases h17:k=17
 ·subst h17;have hX:V=2:=hV;clear hV;subst hX;go_enter Tryz.func226,Tryz.ntmps226;go_wp2;go_ret;exact⟨rfl,B0⟩
 have b17:(k==17)=false:=bne h17;by_cases h18:k=18
 ·subst h18;have hX:V=2:=hV;clear hV;subst hX;go_enter Tryz.func226,Tryz.ntmps226;go_wp2;go_ret;exact⟨rfl,B0⟩
 have b18:(k==18)=false:=bne h18;by_cases h21:k=21
 ·subst h21;have hX:V=2:=hV;clear hV;subst hX;go_enter Tryz.func226,Tryz.ntmps226;go_wp2;go_ret;exact⟨rfl,B0⟩
 have b21:(k==21)=false:=bne h21;by_cases h19:k=19
 ·subst h19;have hX:V=3:=hV;clear hV;subst hX;go_enter Tryz.func226,Tryz.ntmps226;go_wp2;go_ret;exact⟨rfl,B0⟩
 have b19:(k==19)=false:=bne h19;by_cases h25:k=25
 ·subst h25;have hX:V=-1:=hV;clear hV;subst hX;go_enter Tryz.func226,Tryz.ntmps226;go_wp2;go_ret;exact⟨rfl,B0⟩
 have b25:(k==25)=false:=bne h25;by_cases h20:k=20
 ·subst h20;by_cases n1:1<=n
  ·by_cases n3:n<=3
   ·have hX:V=2:=by rw[hV];simp[kidN,n1,n3]
    clear hV;subst hX;go_enter Tryz.func226,Tryz.ntmps226;go_wp2;go_ret;exact⟨rfl,B0⟩
   ·have hX:V=1:=by rw[hV];simp[kidN,n3]
    clear hV;subst hX;go_enter Tryz.func226,Tryz.ntmps226;go_wp2;go_ret;exact⟨rfl,B0⟩
  ·have hX:V=1:=by rw[hV];simp[kidN,n1]
   clear hV;subst hX;go_enter Tryz.func226,Tryz.ntmps226;go_wp2;go_ret;exact⟨rfl,B0⟩
 have b20:(k==20)=false:=bne h20;have hX:V=-2:=by rw[hV];simp[kidN,h1,h2,h3,h4,h22,h23,h6,h7,h24,h8,h9,h10,h11,h12,h13,h14,h15,h16,h17,h18,h21,h19,h25,h20]
 clear hV h1 h2 h3 h4 h22 h23 h6 h7 h24 h8 h9 h10 h11 h12 h13 h14 h15 h16 h17 h18 h21 h19 h25 h20;subst hX;go_enter Tryz.func226,Tryz.ntmps226;go_wp2;go_ret;exact⟨rfl,B0⟩
theorem call_rng (n:Int):(callOf n).isSome=decide (1<=n/\n<=10):=by
 by_cases h:1<=n/\n<=10
 ·rw[show decide (1<=n/\n<=10)=true by simpa using h]
  have:n=1\/n=2\/n=3\/n=4\/n=5\/n=6\/n=7\/n=8\/n=9\/n=10:=by omega
  rcases this with rfl|rfl|rfl|rfl|rfl|rfl|rfl|rfl|rfl|rfl<;>rfl
 ·rw[show decide (1<=n/\n<=10)=false by simpa using h,Option.isSome_eq_false_iff,Option.isNone_iff_eq_none];unfold callOf;rw[List.find?_eq_none];intro x hx
  have:∀ x ∈ callsL,1<=x.2.1/\x.2.1<=10:=by decide
  have:=this x hx
  simp only[beq_iff_eq];omega
theorem quant_rng (n:Int):(quantOf n).isSome=decide (1<=n/\n<=6):=by
 by_cases h:1<=n/\n<=6
 ·rw[show decide (1<=n/\n<=6)=true by simpa using h]
  have:n=1\/n=2\/n=3\/n=4\/n=5\/n=6:=by omega
  rcases this with rfl|rfl|rfl|rfl|rfl|rfl<;>rfl
 ·rw[show decide (1<=n/\n<=6)=false by simpa using h,Option.isSome_eq_false_iff,Option.isNone_iff_eq_none];unfold quantOf;rw[List.find?_eq_none];intro x hx
  have:∀ x ∈ quantsL,1<=x.2/\x.2<=6:=by decide
  have:=this x hx
  simp only[beq_iff_eq];omega
theorem fields_q (k n:Int)(nm:List UInt8)(ao:Option Addr)(len cap:Nat)(a:Int)(w:World)(hl:nm.length<=maxLen) :
  Calls Tryz.prog 227 #[.agg #[.int .i64 k,.int .i64 n,stv nm,.slice ao len cap,.int .i64 a]] w fun e w'=>e=.returned (.bool (numB k n&&namB k nm))/\Below w.heap.size w w':=by
 have B0:Below w.heap.size w (w.alloc (.cells #[.int .i64 k,.int .i64 n,stv nm,.slice ao len cap,.int .i64 a] 25)):=(Below.refl _ w).alloc (Nat.le_refl _) _;have Z0:(w.alloc (.cells #[.int .i64 k,.int .i64 n,stv nm,.slice ao len cap,.int .i64 a] 25)).heap[w.heap.size]?=some (.cells #[.int .i64 k,.int .i64 n,stv nm,.slice ao len cap,.int .i64 a] 25):=heap_alloc_new w _;have c1:=name_r ⟨nm.toArray⟩ (w.alloc (.cells #[.int .i64 k,.int .i64 n,stv nm,.slice ao len cap,.int .i64 a] 25)) (by rw[size_mk];exact hl);have hd:(ByteArray.mk nm.toArray).data.toList=nm:=by simp
 rw[hd] at c1;obtain⟨V,hV⟩:∃V,V=(numB k n&&namB k nm):=⟨_,rfl⟩
 rw[<-hV];have hs0:w.heap.size<(w.alloc (.cells #[.int .i64 k,.int .i64 n,stv nm,.slice ao len cap,.int .i64 a] 25)).heap.size:=by simp
 obtain⟨z0,z1,z2,z3,z4,zf⟩:=box5 Z0;clear hd;by_cases h1:k=1
 ·subst h1;by_cases p:0<=n
  ·have pb:0<=n:=p;have hX:V=(nm==[]):=by rw[hV];simp[numB,namB,call_rng,quant_rng,p]
   clear hV;rw[hX];clear hX V;go_enter Tryz.func227,Tryz.ntmps227;go_wp2_with fail;refine c1.mono ?_;rintro e w1 ⟨rfl,b1⟩;have B1:=B0.trans (b1.mono B0.size);have Z1:=(b1.block _ hs0).trans Z0;obtain⟨y0,y1,y2,y3,y4,yf⟩:=box5 Z1;clear c1 b1 B0 Z0 Z1 z0 z1 z2 z3 z4 zf;go_wp2;go_ret;exact⟨ret_bool (by first|rfl|simp),B1⟩
  ·have pb:¬0<=n:=p;have hX:V=false:=by rw[hV];simp[numB,namB,call_rng,quant_rng,p]
   clear hV;rw[hX];clear hX V;go_enter Tryz.func227,Tryz.ntmps227;go_wp2_with fail;refine c1.mono ?_;rintro e w1 ⟨rfl,b1⟩;have B1:=B0.trans (b1.mono B0.size);have Z1:=(b1.block _ hs0).trans Z0;obtain⟨y0,y1,y2,y3,y4,yf⟩:=box5 Z1;clear c1 b1 B0 Z0 Z1 z0 z1 z2 z3 z4 zf;go_wp2;go_ret;exact⟨ret_bool (by first|rfl|simp),B1⟩
 have b1:(k==1)=false:=bne h1;by_cases h3:k=3
 ·subst h3;by_cases p:0<=n
  ·have pb:0<=n:=p;have hX:V=(nm==[]):=by rw[hV];simp[numB,namB,call_rng,quant_rng,p]
   clear hV;rw[hX];clear hX V;go_enter Tryz.func227,Tryz.ntmps227;go_wp2_with fail;refine c1.mono ?_;rintro e w1 ⟨rfl,b1⟩;have B1:=B0.trans (b1.mono B0.size);have Z1:=(b1.block _ hs0).trans Z0;obtain⟨y0,y1,y2,y3,y4,yf⟩:=box5 Z1;clear c1 b1 B0 Z0 Z1 z0 z1 z2 z3 z4 zf;go_wp2;go_ret;exact⟨ret_bool (by first|rfl|simp),B1⟩
  ·have pb:¬0<=n:=p;have hX:V=false:=by rw[hV];simp[numB,namB,call_rng,quant_rng,p]
   clear hV;rw[hX];clear hX V;go_enter Tryz.func227,Tryz.ntmps227;go_wp2_with fail;refine c1.mono ?_;rintro e w1 ⟨rfl,b1⟩;have B1:=B0.trans (b1.mono B0.size);have Z1:=(b1.block _ hs0).trans Z0;obtain⟨y0,y1,y2,y3,y4,yf⟩:=box5 Z1;clear c1 b1 B0 Z0 Z1 z0 z1 z2 z3 z4 zf;go_wp2;go_ret;exact⟨ret_bool (by first|rfl|simp),B1⟩
 have b3:(k==3)=false:=bne h3;by_cases h2:k=2
 ·subst h2;by_cases p:n=0
  ·subst p;have hX:V=(nm==[]):=by rw[hV];simp[numB,namB,call_rng,quant_rng]
   clear hV;rw[hX];clear hX V;go_enter Tryz.func227,Tryz.ntmps227;go_wp2_with fail;refine c1.mono ?_;rintro e w1 ⟨rfl,b1⟩;have B1:=B0.trans (b1.mono B0.size);have Z1:=(b1.block _ hs0).trans Z0;obtain⟨y0,y1,y2,y3,y4,yf⟩:=box5 Z1;clear c1 b1 B0 Z0 Z1 z0 z1 z2 z3 z4 zf;go_wp2;go_ret;exact⟨ret_bool (by first|rfl|simp),B1⟩
  ·have pb:(n==0)=false:=by simpa using p
   by_cases r:n=1
   ·subst r;have hX:V=(nm==[]):=by rw[hV];simp[numB,namB,call_rng,quant_rng]
    clear hV;rw[hX];clear hX V;go_enter Tryz.func227,Tryz.ntmps227;go_wp2_with fail;refine c1.mono ?_;rintro e w1 ⟨rfl,b1⟩;have B1:=B0.trans (b1.mono B0.size);have Z1:=(b1.block _ hs0).trans Z0;obtain⟨y0,y1,y2,y3,y4,yf⟩:=box5 Z1;clear c1 b1 B0 Z0 Z1 z0 z1 z2 z3 z4 zf;go_wp2;go_ret;exact⟨ret_bool (by first|rfl|simp),B1⟩
   ·have rb:(n==1)=false:=by simpa using r
    have hX:V=false:=by rw[hV];simp[numB,namB,call_rng,quant_rng,p,r]
    clear hV;clear p r;rw[hX];clear hX V;go_enter Tryz.func227,Tryz.ntmps227;go_wp2_with fail;refine c1.mono ?_;rintro e w1 ⟨rfl,b1⟩;have B1:=B0.trans (b1.mono B0.size);have Z1:=(b1.block _ hs0).trans Z0;obtain⟨y0,y1,y2,y3,y4,yf⟩:=box5 Z1;clear c1 b1 B0 Z0 Z1 z0 z1 z2 z3 z4 zf;go_wp2;go_ret;exact⟨ret_bool (by first|rfl|simp),B1⟩
 have b2:(k==2)=false:=bne h2;by_cases h4:k=4
 ·subst h4;by_cases p:n=0
  ·subst p;have hX:V=nameB nm:=by rw[hV];simp[numB,namB,call_rng,quant_rng]
   clear hV;rw[hX];clear hX V;go_enter Tryz.func227,Tryz.ntmps227;go_wp2_with fail;refine c1.mono ?_;rintro e w1 ⟨rfl,b1⟩;have B1:=B0.trans (b1.mono B0.size);have Z1:=(b1.block _ hs0).trans Z0;obtain⟨y0,y1,y2,y3,y4,yf⟩:=box5 Z1;clear c1 b1 B0 Z0 Z1 z0 z1 z2 z3 z4 zf;go_wp2;go_ret;exact⟨ret_bool (by first|rfl|simp),B1⟩
  ·have pb:(n==0)=false:=by simpa using p
   have hX:V=false:=by rw[hV];simp[numB,namB,call_rng,quant_rng,p]
   clear hV;clear p;rw[hX];clear hX V;go_enter Tryz.func227,Tryz.ntmps227;go_wp2_with fail;refine c1.mono ?_;rintro e w1 ⟨rfl,b1⟩;have B1:=B0.trans (b1.mono B0.size);have Z1:=(b1.block _ hs0).trans Z0;obtain⟨y0,y1,y2,y3,y4,yf⟩:=box5 Z1;clear c1 b1 B0 Z0 Z1 z0 z1 z2 z3 z4 zf;go_wp2;go_ret;exact⟨ret_bool (by first|rfl|simp),B1⟩
 have b4:(k==4)=false:=bne h4;by_cases h23:k=23
 ·subst h23;by_cases p:n=0
  ·subst p;have hX:V=nameB nm:=by rw[hV];simp[numB,namB,call_rng,quant_rng]
   clear hV;rw[hX];clear hX V;go_enter Tryz.func227,Tryz.ntmps227;go_wp2_with fail;refine c1.mono ?_;rintro e w1 ⟨rfl,b1⟩;have B1:=B0.trans (b1.mono B0.size);have Z1:=(b1.block _ hs0).trans Z0;obtain⟨y0,y1,y2,y3,y4,yf⟩:=box5 Z1;clear c1 b1 B0 Z0 Z1 z0 z1 z2 z3 z4 zf;go_wp2;go_ret;exact⟨ret_bool (by first|rfl|simp),B1⟩
  ·have pb:(n==0)=false:=by simpa using p
   have hX:V=false:=by rw[hV];simp[numB,namB,call_rng,quant_rng,p]
   clear hV;clear p;rw[hX];clear hX V;go_enter Tryz.func227,Tryz.ntmps227;go_wp2_with fail;refine c1.mono ?_;rintro e w1 ⟨rfl,b1⟩;have B1:=B0.trans (b1.mono B0.size);have Z1:=(b1.block _ hs0).trans Z0;obtain⟨y0,y1,y2,y3,y4,yf⟩:=box5 Z1;clear c1 b1 B0 Z0 Z1 z0 z1 z2 z3 z4 zf;go_wp2;go_ret;exact⟨ret_bool (by first|rfl|simp),B1⟩
 have b23:(k==23)=false:=bne h23;by_cases h20:k=20
 ·subst h20;by_cases p:1<=n
  ·have pb:1<=n:=p;by_cases r:n<=10
   ·have rb:n<=10:=r;have hX:V=(nm==[]):=by rw[hV];simp[numB,namB,call_rng,quant_rng,p,r]
    clear hV;rw[hX];clear hX V;go_enter Tryz.func227,Tryz.ntmps227;go_wp2_with fail;refine c1.mono ?_;rintro e w1 ⟨rfl,b1⟩;have B1:=B0.trans (b1.mono B0.size);have Z1:=(b1.block _ hs0).trans Z0;obtain⟨y0,y1,y2,y3,y4,yf⟩:=box5 Z1;clear c1 b1 B0 Z0 Z1 z0 z1 z2 z3 z4 zf;go_wp2;go_ret;exact⟨ret_bool (by first|rfl|simp),B1⟩
   ·have rb:¬n<=10:=r;have hX:V=false:=by rw[hV];simp[numB,namB,call_rng,quant_rng,p,r]
    clear hV;rw[hX];clear hX V;go_enter Tryz.func227,Tryz.ntmps227;go_wp2_with fail;refine c1.mono ?_;rintro e w1 ⟨rfl,b1⟩;have B1:=B0.trans (b1.mono B0.size);have Z1:=(b1.block _ hs0).trans Z0;obtain⟨y0,y1,y2,y3,y4,yf⟩:=box5 Z1;clear c1 b1 B0 Z0 Z1 z0 z1 z2 z3 z4 zf;go_wp2;go_ret;exact⟨ret_bool (by first|rfl|simp),B1⟩
  ·have pb:¬1<=n:=p;have hX:V=false:=by rw[hV];simp[numB,namB,call_rng,quant_rng,p]
   clear hV;rw[hX];clear hX V;go_enter Tryz.func227,Tryz.ntmps227;go_wp2_with fail;refine c1.mono ?_;rintro e w1 ⟨rfl,b1⟩;have B1:=B0.trans (b1.mono B0.size);have Z1:=(b1.block _ hs0).trans Z0;obtain⟨y0,y1,y2,y3,y4,yf⟩:=box5 Z1;clear c1 b1 B0 Z0 Z1 z0 z1 z2 z3 z4 zf;go_wp2;go_ret;exact⟨ret_bool (by first|rfl|simp),B1⟩
 have b20:(k==20)=false:=bne h20;by_cases h21:k=21
 ·subst h21;by_cases p:1<=n
  ·have pb:1<=n:=p;by_cases r:n<=6
   ·have rb:n<=6:=r;have hX:V=nameB nm:=by rw[hV];simp[numB,namB,call_rng,quant_rng,p,r]
    clear hV;rw[hX];clear hX V;go_enter Tryz.func227,Tryz.ntmps227;go_wp2_with fail;refine c1.mono ?_;rintro e w1 ⟨rfl,b1⟩;have B1:=B0.trans (b1.mono B0.size);have Z1:=(b1.block _ hs0).trans Z0;obtain⟨y0,y1,y2,y3,y4,yf⟩:=box5 Z1;clear c1 b1 B0 Z0 Z1 z0 z1 z2 z3 z4 zf;go_wp2;go_ret;exact⟨ret_bool (by first|rfl|simp),B1⟩
   ·have rb:¬n<=6:=r;have hX:V=false:=by rw[hV];simp[numB,namB,call_rng,quant_rng,p,r]
    clear hV;rw[hX];clear hX V;go_enter Tryz.func227,Tryz.ntmps227;go_wp2_with fail;refine c1.mono ?_;rintro e w1 ⟨rfl,b1⟩;have B1:=B0.trans (b1.mono B0.size);have Z1:=(b1.block _ hs0).trans Z0;obtain⟨y0,y1,y2,y3,y4,yf⟩:=box5 Z1;clear c1 b1 B0 Z0 Z1 z0 z1 z2 z3 z4 zf;go_wp2;go_ret;exact⟨ret_bool (by first|rfl|simp),B1⟩
  ·have pb:¬1<=n:=p;have hX:V=false:=by rw[hV];simp[numB,namB,call_rng,quant_rng,p]
   clear hV;rw[hX];clear hX V;go_enter Tryz.func227,Tryz.ntmps227;go_wp2_with fail;refine c1.mono ?_;rintro e w1 ⟨rfl,b1⟩;have B1:=B0.trans (b1.mono B0.size);have Z1:=(b1.block _ hs0).trans Z0;obtain⟨y0,y1,y2,y3,y4,yf⟩:=box5 Z1;clear c1 b1 B0 Z0 Z1 z0 z1 z2 z3 z4 zf;go_wp2;go_ret;exact⟨ret_bool (by first|rfl|simp),B1⟩
 have b21:(k==21)=false:=bne h21;by_cases p:n=0
 ·subst p;have hX:V=(nm==[]):=by rw[hV];simp[numB,namB,call_rng,quant_rng,h1,h3,h2,h4,h23,h20,h21]
  clear hV;clear h1 h3 h2 h4 h23 h20 h21;rw[hX];clear hX V;go_enter Tryz.func227,Tryz.ntmps227;go_wp2_with fail;refine c1.mono ?_;rintro e w1 ⟨rfl,b1⟩;have B1:=B0.trans (b1.mono B0.size);have Z1:=(b1.block _ hs0).trans Z0;obtain⟨y0,y1,y2,y3,y4,yf⟩:=box5 Z1;clear c1 b1 B0 Z0 Z1 z0 z1 z2 z3 z4 zf;go_wp2;go_ret;exact⟨ret_bool (by first|rfl|simp),B1⟩
 ·have pb:(n==0)=false:=by simpa using p
  have hX:V=false:=by rw[hV];simp[numB,namB,call_rng,quant_rng,h1,h3,h2,h4,h23,h20,h21,p]
  clear hV;clear p h1 h3 h2 h4 h23 h20 h21;rw[hX];clear hX V;go_enter Tryz.func227,Tryz.ntmps227;go_wp2_with fail;refine c1.mono ?_;rintro e w1 ⟨rfl,b1⟩;have B1:=B0.trans (b1.mono B0.size);have Z1:=(b1.block _ hs0).trans Z0;obtain⟨y0,y1,y2,y3,y4,yf⟩:=box5 Z1;clear c1 b1 B0 Z0 Z1 z0 z1 z2 z3 z4 zf;go_wp2;go_ret;exact⟨ret_bool (by first|rfl|simp),B1⟩
def Rq (w:World)(rb i:Nat)(o q:Int)(er pl:Nat)(all:List Tk):Prop :=
 ∃g cap,w.heap[rb]?=some (.cells #[.slice (some ⟨g,0,none⟩) all.length cap,.int .i64 (i:Nat),.int .i64 o,.int .i64 q,.int .i64 (er:Nat),.int .i64 (pl:Nat)] 64 (0,0))/\g<rb/\(∀ j u,(tcells all)[j]?=some u->w.cell? ⟨g,j,none⟩=some u)/\all.length<=3000/\all.length<=cap/\cap<=maxLen
theorem Rq.lt {w:World}{rb i:Nat}{o q:Int}{er pl:Nat}{all:List Tk}(h:Rq w rb i o q er pl all):rb<w.heap.size:=by
 obtain⟨g,cap,h1,_⟩:=h;exact lt_of_block h1
theorem Rq.below {w w':World}{rb i:Nat}{o q:Int}{er pl:Nat}{all:List Tk}(h:Rq w rb i o q er pl all)(b:Below w.heap.size w w'):Rq w' rb i o q er pl all:=by
 have hlt:=h.lt;obtain⟨g,cap,h1,h2,h3,h4⟩:=h;exact⟨g,cap,(b.block rb hlt).trans h1,h2,fun j u hu=>(b.cell (p:=⟨g,j,none⟩) (show g<w.heap.size by omega)).trans (h3 j u hu),h4⟩
theorem Rq.next {w:World}{rb i:Nat}{o q:Int}{er pl:Nat}{all:List Tk}{x:Tk}(h:Rq w rb i o q er pl all)(hx:all[i]?=some x):∃g cap L,g<rb/\i<L/\L<=cap/\cap<=maxLen/\L<=3000/\(w.cell? ⟨rb,0,none⟩=some (.slice (some ⟨g,0,none⟩) L cap)/\w.cell? ⟨rb,1,none⟩=some (.int .i64 (i:Nat))/\w.cell? ⟨g,i*4,none⟩=some (.int .i64 (x.k:Nat))/\w.cell? ⟨g,i*4+1,none⟩=some (.int .i64 x.n)/\w.cell? ⟨g,i*4+2,none⟩=some (stv x.t)/\w.cell? ⟨g,i*4+3,none⟩=some (.int .i64 (x.a:Nat)))/\w.cell? ⟨rb,2,none⟩=some (.int .i64 o)/\w.cell? ⟨rb,3,none⟩=some (.int .i64 q)/\w.cell? ⟨rb,4,none⟩=some (.int .i64 (er:Nat))/\w.cell? ⟨rb,5,none⟩=some (.int .i64 (pl:Nat))/\(∀ j,w.frozen? ⟨rb,j,none⟩=false):=by
 obtain⟨g,cap,h1,h2,h3,h4,h5,h6⟩:=h;have hi:i<all.length:=by
  by_cases hi:i<all.length
  ·exact hi
  ·rw[List.getElem?_eq_none (by omega)] at hx;cases hx
 obtain⟨t0,t1,t2,t3⟩:=tkcells_at all i x hx;refine⟨g,cap,all.length,h2,hi,h5,h6,h4,⟨?_,?_,h3 _ _ t0,h3 _ _ t1,h3 _ _ t2,h3 _ _ t3⟩,?_,?_,?_,?_,fun j=>frozen_of_row w rb j _ _ h1⟩
 all_goals simp[cell_of_row w rb _ _ _ (0,0) h1]
theorem Rq.set {w:World}{rb i:Nat}{o q:Int}{er pl:Nat}{all:List Tk}(h:Rq w rb i o q er pl all) :
  (∀ i':Nat,Rq (w.setCell ⟨rb,1,none⟩ (.int .i64 (i':Nat))) rb i' o q er pl all)/\(∀ o':Int,Rq (w.setCell ⟨rb,2,none⟩ (.int .i64 o')) rb i o' q er pl all)/\(∀ q':Int,Rq (w.setCell ⟨rb,3,none⟩ (.int .i64 q')) rb i o q' er pl all)/\(∀ er':Nat,Rq (w.setCell ⟨rb,4,none⟩ (.int .i64 (er':Nat))) rb i o q er' pl all)/\(∀ pl':Nat,Rq (w.setCell ⟨rb,5,none⟩ (.int .i64 (pl':Nat))) rb i o q er pl' all):=by
 obtain⟨g,cap,h1,h2,h3,h4⟩:=h;have hB:Blk w (fun _=>0) 0 rb (.cells #[.slice (some ⟨g,0,none⟩) all.length cap,.int .i64 (i:Nat),.int .i64 o,.int .i64 q,.int .i64 (er:Nat),.int .i64 (pl:Nat)] 64 (0,0)):=⟨h1,rfl⟩
 have hc:∀ (k:Nat) (v:Value) j u,(tcells all)[j]?=some u->(w.setCell ⟨rb,k,none⟩ v).cell? ⟨g,j,none⟩=some u:=fun k v j u hu=>(World.cell?_of_block (a:=⟨g,j,none⟩) (heap_setCell_other w ⟨rb,k,none⟩ g v (show g≠rb by omega))).trans (h3 j u hu);exact⟨fun i'=>⟨g,cap,(hB.set 1 _).1,h2,hc 1 _,h4⟩,fun o'=>⟨g,cap,(hB.set 2 _).1,h2,hc 2 _,h4⟩,fun q'=>⟨g,cap,(hB.set 3 _).1,h2,hc 3 _,h4⟩,fun er'=>⟨g,cap,(hB.set 4 _).1,h2,hc 4 _,h4⟩,fun pl'=>⟨g,cap,(hB.set 5 _).1,h2,hc 5 _,h4⟩⟩
theorem Keep.at {rb:Nat}(w:World)(k:Nat)(v:Value):Keep rb w (w.setCell ⟨rb,k,none⟩ v):=(Keep.refl rb w).set ⟨rb,k,none⟩ v (.inr rfl)
theorem two_alloc (w:World)(o1:Obj):(w.alloc o1).drew.heap[w.heap.size]?=some o1/\Below w.heap.size w (w.alloc o1).drew:=⟨heap_alloc_new w _,((Below.refl _ w).alloc (Nat.le_refl _) _).drew⟩
theorem is_q {w:World}{rb i:Nat}{o q:Int}{er pl:Nat}{all:List Tk}{x:Tk}(s:List UInt8)(h:Rq w rb i o q er pl all)(hx:all[i]?=some x) :
  Calls Tryz.prog 103 #[.pointer (some ⟨rb,0,none⟩),stv s] w fun e w'=>e=.returned (.bool ((er==0)&&((x.k==3||x.k==4)&&x.t==s)))/\Below w.heap.size w w':=by
 obtain⟨B,hB⟩:∃B,B=((er==0)&&((x.k==3||x.k==4)&&x.t==s)):=⟨_,rfl⟩
 rw[<-hB];have HB:Hid (B=((er==0)&&((x.k==3||x.k==4)&&x.t==s))):=hB;clear hB;obtain⟨g,cap,L,hg,hi,hc,hm,hL,⟨c0,c1,t0,t1,t2,t3⟩,c2,c3,c4,c5,hf⟩:=h.next hx;have hrb:=h.lt;have bz:Below w.heap.size w (w.alloc (.cells #[.int .i64 0,.int .i64 0,.string ⟨#[]⟩,.int .i64 0] 67)):=(Below.refl _ w).alloc (Nat.le_refl _) _;have d0:=(bz.cell (p:=⟨rb,0,none⟩) hrb).trans c0;have d1:=(bz.cell (p:=⟨rb,1,none⟩) hrb).trans c1;have hgs:g<w.heap.size:=by omega
 have u0:=(bz.cell (p:=⟨g,i*4,none⟩) hgs).trans t0;have u1:=(bz.cell (p:=⟨g,i*4+1,none⟩) hgs).trans t1;have u2:=(bz.cell (p:=⟨g,i*4+2,none⟩) hgs).trans t2;have u3:=(bz.cell (p:=⟨g,i*4+3,none⟩) hgs).trans t3;have hmm:cap<=9223372036854775807:=hm;have hiI:(i:Int)<(L:Int):=by omega
 have HX:Hid (∀ wx,Below w.heap.size w wx->wx.cell? ⟨rb,4,none⟩=some (.int .i64 (er:Nat))):=fun wx b=>(b.cell (p:=⟨rb,4,none⟩) hrb).trans c4;clear h bz hm;go_enter Tryz.func103,Tryz.ntmps103;go_upto_region 1 with fail;go_cut [5] (fun v wx=>∃bt,v=.pointer (some ⟨bt,0,none⟩)/\wx.heap[bt]?=some (.cells #[.int .i64 (x.k:Nat),.int .i64 x.n,stv x.t,.int .i64 (x.a:Nat)] 67)/\Below w.heap.size w wx)
 case first =>
  have h2:=two_alloc w (.cells #[.int .i64 (x.k:Nat),.int .i64 x.n,stv x.t,.int .i64 (x.a:Nat)] 67);go_region
  all_goals
   go_wp2;go_meet;exact⟨_,rfl,h2.1,h2.2⟩
 case rest =>
 obtain⟨bt,rfl,hT,B1⟩:=hcut;obtain⟨p0,p1,p2,p3,-⟩:=Blk.cells4 (o:=fun _=>0) (i:=0) ⟨hT,rfl⟩;have e4:=HX.out _ B1;clear c0 c1 t0 t1 t2 t3 d0 d1 u0 u1 u2 u3 c2 c3 c4 c5 hT HX;by_cases h0:er=0
 ·subst h0;by_cases h3:x.k=3
  ·have b3:((x.k:Int)==3)=true:=by simp[h3]
   have b4:Hid (B=(x.t==s)):=by show B=_;rw[HB.out];simp[h3]
   clear h3 HB;go_wp2;go_ret;exact⟨by rw[b4.out];simp,B1⟩
  ·have b3:((x.k:Int)==3)=false:=by simp;omega
   by_cases h4:x.k=4
   ·have b4:((x.k:Int)==4)=true:=by simp[h4]
    have b5:Hid (B=(x.t==s)):=by show B=_;rw[HB.out];simp[h4]
    clear h3 h4 HB;go_wp2;go_ret;exact⟨by rw[b5.out];simp,B1⟩
   ·have b4:((x.k:Int)==4)=false:=by simp;omega
    have b5:Hid (B=false):=by show B=_;rw[HB.out];simp[h3,h4]
    clear h3 h4 HB;go_wp2;go_ret;exact⟨by rw[b5.out];rfl,B1⟩
 ·have b0:((er:Int)==0)=false:=by simp;omega
  have b1:Hid (B=false):=by show B=_;rw[HB.out];simp[h0]
  clear h0 HB;go_wp2;go_ret;exact⟨by rw[b1.out];rfl,B1⟩
def TokI (x:Tk):Prop:=∀ s:List UInt8,s≠[]->nameB s=false->((x.k==3||x.k==4)&&x.t==s)=(x.t==s)
abbrev Sq:=Sum (Nat × Nat) (List Tk)
def QS (w:World)(rb:Nat)(all:List Tk)(o q:Nat):Sq->Prop
 | .inl (er,a)=>∃(i:Nat) (o' q':Int),Rq w rb i o' q' er a all/\i<all.length/\er≠0
 | .inr ts=>∃(i pl:Nat),Rq w rb i (o:Nat) (q:Nat) 0 pl all/\all.drop i=ts/\WFT ts/\o<=64/\q<=4
def stp {α:Type}:Rs α->Sq
 | ⟨none⟩=>.inl (0,0)
 | ⟨some (.inl (e,a))⟩=>.inl (e,a)
 | ⟨some (.inr (_,t))⟩=>.inr t
def onw {α:Type}(f:List Tk->Rs α):Sq->Sq
 | .inl ea=>.inl ea
 | .inr ts=>stp (f ts)
def isS (s:List UInt8):Sq->Bool
 | .inl _=>false
 | .inr []=>false
 | .inr (x::_)=>x.t==s
def failS (e:Nat):Sq->Sq
 | .inl ea=>.inl ea
 | .inr []=>.inl (0,0)
 | .inr (x::_)=>.inl (e,x.a)
theorem QS.below {w w':World}{rb o q:Nat}{all:List Tk}{st:Sq}(h:QS w rb all o q st)(b:Below w.heap.size w w'):QS w' rb all o q st:=by
 match st,h with
 | .inl (er,a),⟨i,o',q',h1,h2⟩=>exact⟨i,o',q',h1.below b,h2⟩
 | .inr ts,⟨i,pl,h1,h2⟩=>exact⟨i,pl,h1.below b,h2⟩
theorem QS.lt {w:World}{rb o q:Nat}{all:List Tk}{st:Sq}(h:QS w rb all o q st):rb<w.heap.size:=by
 match st,h with
 | .inl (er,a),⟨i,o',q',h1,h2⟩=>exact h1.lt
 | .inr ts,⟨i,pl,h1,h2⟩=>exact h1.lt
theorem dropQ {all:List Tk}{i:Nat}{x:Tk}{r:List Tk}(h:all.drop i=x::r):all[i]?=some x/\all.drop (i+1)=r/\x ∈ all:=by
 have h1:(all.drop i)[0]?=some x:=by rw[h];rfl
 rw[List.getElem?_drop] at h1;have h2:(all.drop i).tail=r:=by rw[h];rfl
 rw[List.tail_drop] at h2;exact⟨by simpa using h1,h2,List.mem_of_mem_drop (i:=i) (by rw[h];exact List.mem_cons_self)⟩
theorem fails_q {w:World}{rb i:Nat}{o q:Int}{pl:Nat}{all:List Tk}{x:Tk}(e:Nat)(h:Rq w rb i o q 0 pl all)(hx:all[i]?=some x) :
  Calls Tryz.prog 29 #[.pointer (some ⟨rb,0,none⟩),.int .i64 (e:Nat)] w fun r w'=>r=.returned (.tuple #[])/\Rq w' rb i o q e x.a all/\Keep rb w w':=by
 obtain⟨_,_,_,_,_,_,_,_,_,_,_,c4,_,hf0⟩:=h.next hx;have h1:=h.set.2.2.2.1 e;have h2:=h1.set.2.2.2.2 x.a;have K:=(Keep.at (rb:=rb) w 4 (.int .i64 (e:Nat))).trans (Keep.at _ 5 (.int .i64 (x.a:Nat)));obtain⟨g,cap,L,hg,hi,hc,hm,hL,⟨c0,c1,t0,t1,t2,t3⟩,-,-,-,c5,hf⟩:=h1.next hx;have hmm:cap<=9223372036854775807:=hm;have hiI:(i:Int)<(L:Int):=by omega
 clear h h1 t0 t1 t2 hm;go_enter Tryz.func29,Tryz.ntmps29;go_upto_region 2 with fail;generalize w.setCell ⟨rb,4,none⟩ (.int .i64 (e:Nat))=w3 at *;go_region
 all_goals
  go_wp2
  go_end0
  exact⟨rfl,h2.below (Below.refl _ _).drew,K.drew⟩
theorem fails_no {w:World}{rb i:Nat}{o q:Int}{er pl:Nat}{all:List Tk}{x:Tk}(e:Nat)(h:Rq w rb i o q er pl all)(hx:all[i]?=some x)(h0:er≠0) :
  Calls Tryz.prog 29 #[.pointer (some ⟨rb,0,none⟩),.int .i64 (e:Nat)] w fun r w'=>r=.returned (.tuple #[])/\Rq w' rb i o q er pl all/\Keep rb w w':=by
 have b0:((er:Int)==0)=false:=by simp;omega
 obtain⟨_,_,_,_,_,_,_,_,_,_,_,c4,_,hf0⟩:=h.next hx;have K:=Keep.refl rb w;clear h0;go_enter Tryz.func29,Tryz.ntmps29;go_wp2
 go_end0
 exact⟨rfl,h,K⟩
theorem is_s {w:World}{rb o q:Nat}{all:List Tk}{st:Sq}(TI:∀ x,x ∈ all->TokI x)(s:List UInt8)(hs:s≠[])(hn:nameB s=false)(h:QS w rb all o q st) :
  Calls Tryz.prog 103 #[.pointer (some ⟨rb,0,none⟩),stv s] w fun e w'=>e=.returned (.bool (isS s st))/\Below w.heap.size w w':=by
 match st,h with
 | .inl (er,a),⟨i,o',q',h1,h2,h3⟩ =>
  refine(is_q s h1 (List.getElem?_eq_getElem h2)).mono ?_;rintro e w' ⟨rfl,b⟩;exact⟨by simp[h3,isS],b⟩
 | .inr [],⟨i,pl,h1,h2,h3⟩=>exact absurd rfl h3.1.ne
 | .inr (x::r),⟨i,pl,h1,h2,h3⟩ =>
  obtain⟨hx,_,hm⟩:=dropQ h2;refine(is_q s h1 hx).mono ?_;rintro e w' ⟨rfl,b⟩;exact⟨by rw[TI x hm s hs hn];simp[isS],b⟩
theorem fail_s {w:World}{rb o q:Nat}{all:List Tk}{st:Sq}(e:Nat)(he:e≠0)(h:QS w rb all o q st) :
  Calls Tryz.prog 29 #[.pointer (some ⟨rb,0,none⟩),.int .i64 (e:Nat)] w fun r w'=>r=.returned (.tuple #[])/\QS w' rb all o q (failS e st)/\Keep rb w w':=by
 match st,h with
 | .inl (er,a),⟨i,o',q',h1,h2,h3⟩ =>
  refine(fails_no e h1 (List.getElem?_eq_getElem h2) h3).mono ?_;rintro r w' ⟨rfl,b,k⟩;exact⟨rfl,⟨i,o',q',b,h2,h3⟩,k⟩
 | .inr [],⟨i,pl,h1,h2,h3⟩=>exact absurd rfl h3.1.ne
 | .inr (x::r),⟨i,pl,h1,h2,h3⟩ =>
  obtain⟨hx,_,hm⟩:=dropQ h2;refine(fails_q e h1 hx).mono ?_;rintro r' w' ⟨rfl,b,k⟩;exact⟨rfl,⟨i,_,_,b,by have:=List.getElem?_eq_some_iff.1 hx;exact this.1,he⟩,k⟩
theorem QS.ok {w:World}{rb o q:Nat}{all:List Tk}{x:Tk}{r:List Tk}(h:QS w rb all o q (.inr (x::r))) :
  ∃i g cap L:Nat,g<rb/\i<L/\L<=cap/\cap<=9223372036854775807/\L<=3000/\x ∈ all/\w.cell? ⟨rb,0,none⟩=some (.slice (some ⟨g,0,none⟩) L cap)/\w.cell? ⟨rb,1,none⟩=some (.int .i64 (i:Nat))/\w.cell? ⟨rb,2,none⟩=some (.int .i64 (o:Nat))/\w.cell? ⟨rb,3,none⟩=some (.int .i64 (q:Nat))/\w.cell? ⟨rb,4,none⟩=some (.int .i64 0)/\(w.cell? ⟨g,i*4,none⟩=some (.int .i64 (x.k:Nat))/\w.cell? ⟨g,i*4+1,none⟩=some (.int .i64 x.n)/\w.cell? ⟨g,i*4+2,none⟩=some (stv x.t)/\w.cell? ⟨g,i*4+3,none⟩=some (.int .i64 (x.a:Nat)))/\(∀ j,w.frozen? ⟨rb,j,none⟩=false):=by
 obtain⟨i,pl,h1,h2,h3⟩:=h;obtain⟨hx,h4,hm⟩:=dropQ h2;obtain⟨g,cap,L,hg,hi,hc,hm2,hL,⟨c0,c1,t0,t1,t2,t3⟩,c2,c3,c4,c5,hf⟩:=h1.next hx;exact⟨i,g,cap,L,hg,hi,hc,hm2,hL,hm,c0,c1,c2,c3,c4,⟨t0,t1,t2,t3⟩,hf⟩
theorem QS.over {w:World}{rb o q:Nat}{all:List Tk}{x:Tk}{r:List Tk}(h:QS w rb all o q (.inr (x::r)))(hx:x.t≠[]\/x.k≠0){i:Nat}(hi:w.cell? ⟨rb,1,none⟩=some (.int .i64 (i:Nat))) :
  QS (w.setCell ⟨rb,1,none⟩ (.int .i64 ((i:Int)+1))) rb all o q (.inr r):=by
 obtain⟨i2,pl,h1,h2,h3⟩:=h;obtain⟨hx2,h4,hm⟩:=dropQ h2;obtain⟨_,_,_,_,_,_,_,_,⟨_,c1,_⟩,_⟩:=h1.next hx2;rw[hi] at c1;have e:i=i2:=by
  have e2:(i:Int)=(i2:Int):=by simpa using c1
  omega
 subst e;exact⟨i+1,pl,h1.set.1 (i+1),h4,h3.1.tail hx,h3.2⟩
theorem QS.open {w:World}{rb o q:Nat}{all:List Tk}{ts:List Tk}(h:QS w rb all o q (.inr ts))(o':Nat)(ho:o'<=64) :
  QS (w.setCell ⟨rb,2,none⟩ (.int .i64 (o':Nat))) rb all o' q (.inr ts):=by
 obtain⟨i,pl,h1,h2⟩:=h;exact⟨i,pl,h1.set.2.1 (o':Nat),h2.1,h2.2.1,ho,h2.2.2.2⟩
theorem QS.quants {w:World}{rb o q:Nat}{all:List Tk}{ts:List Tk}(h:QS w rb all o q (.inr ts))(q':Nat)(hq:q'<=4) :
  QS (w.setCell ⟨rb,3,none⟩ (.int .i64 (q':Nat))) rb all o q' (.inr ts):=by
 obtain⟨i,pl,h1,h2⟩:=h;exact⟨i,pl,h1.set.2.2.1 (q':Nat),h2.1,h2.2.1,h2.2.2.1,hq⟩
theorem QS.down {w:World}{rb o q:Nat}{all:List Tk}{st:Sq}(h:QS w rb all (o+1) q st) :
  ∃o':Int,w.cell? ⟨rb,2,none⟩=some (.int .i64 o')/\(∀ j,w.frozen? ⟨rb,j,none⟩=false)/\QS (w.setCell ⟨rb,2,none⟩ (.int .i64 (wrap64 (o' - 1)))) rb all o q st:=by
 match st,h with
 | .inl (er,a),⟨i,o',q',h1,h2,h3⟩ =>
  obtain⟨_,_,_,_,_,_,_,_,_,c2,_,_,_,hf⟩:=h1.next (List.getElem?_eq_getElem h2);exact⟨o',c2,hf,i,_,q',h1.set.2.1 _,h2,h3⟩
 | .inr [],⟨i,pl,h1,h2,h3⟩=>exact absurd rfl h3.1.ne
 | .inr (x::r),⟨i,pl,h1,h2,h3⟩ =>
  obtain⟨hx,_,hm⟩:=dropQ h2;obtain⟨_,_,_,_,_,_,_,_,_,c2,_,_,_,hf⟩:=h1.next hx;refine⟨_,c2,hf,i,pl,?_,h2,h3.1,by have:=h3.2.1;omega,h3.2.2⟩;have e:wrap64 ((((o+1:Nat):Int))-1)=((o:Nat):Int):=by have:=h3.2.1;unfold wrap64;omega
  rw[e];exact h1.set.2.1 _
theorem QS.le {w:World}{rb o q:Nat}{all:List Tk}{ts:List Tk}(h:QS w rb all o q (.inr ts)):o<=64/\q<=4/\WFT ts:=by
 obtain⟨i,pl,h1,h2,h3,h4⟩:=h;exact⟨h4.1,h4.2,h3⟩
theorem isS_true {s:List UInt8}{st:Sq}(h:isS s st=true):∃x r,st=.inr (x::r)/\x.t=s:=by
 match st,h with
 | .inr (x::r),h=>exact⟨x,r,rfl,by simpa [isS] using h⟩
theorem isS_false {s:List UInt8}{st:Sq}(h:isS s st=false){all:List Tk}{w:World}{rb o q:Nat}(hs:QS w rb all o q st):failS 120 st=onw (passT s) st/\∀ o2,failS 120 st=onw (enterT s o2) st:=by
 match st,h,hs with
 | .inl (er,a),h,hs=>exact⟨rfl,fun _=>rfl⟩
 | .inr [],h,⟨i,pl,h1,h2,h3⟩=>exact absurd rfl h3.1.ne
 | .inr (x::r),h,hs =>
  have hx:¬x.t=s:=by simpa [isS] using h
  exact⟨by simp[failS,onw,passT,hx,stp],fun _=>by simp[failS,onw,enterT,hx,stp]⟩
theorem take_s {w:World}{rb o q:Nat}{all:List Tk}{st:Sq}(TI:∀ x,x ∈ all->TokI x)(s:List UInt8)(hs:s≠[])(hn:nameB s=false)(h:QS w rb all o q st) :
  Calls Tryz.prog 203 #[.pointer (some ⟨rb,0,none⟩),stv s] w fun e w'=>e=.returned (.tuple #[])/\QS w' rb all o q (onw (passT s) st)/\Keep rb w w':=by
 have c:=is_s TI s hs hn h;cases hb:isS s st with
 | true =>
  obtain⟨x,r,rfl,hx⟩:=isS_true hb;have e1:onw (passT s) (.inr (x::r))=.inr r:=by simp[onw,passT,hx,stp]
  rw[e1];rw[hb] at c;have hx2:x.t≠[]\/x.k≠0:=.inl (by rw[hx];exact hs);clear e1 hb hx;go_enter Tryz.func203,Tryz.ntmps203;go_wp2_with fail;refine c.mono ?_;rintro e w2 ⟨rfl,b⟩;have h2:=h.below b;obtain⟨i,g,cap,L,hg,hi,hcL,hcap,hL,hm,c0,c1,c2,c3,c4,-,hf⟩:=h2.ok;have h3:=h2.over hx2 c1;have K:=(Keep.ofBelow (rb:=rb) b).trans (Keep.at w2 1 (.int .i64 ((i:Int)+1)));clear h2 h c b c0 c2 c3 c4;go_wp2
  go_end0
  exact⟨rfl,h3,K⟩
 | false =>
  rw[<-(isS_false hb h).1];rw[hb] at c;have HF:∀ w2,QS w2 rb all o q st->Calls Tryz.prog 29 #[.pointer (some ⟨rb,0,none⟩),.int .i64 120] w2 fun r w'=>r=.returned (.tuple #[])/\QS w' rb all o q (failS 120 st)/\Keep rb w2 w':=fun w2 h2=>fail_s 120 (by decide) h2;clear hb;go_enter Tryz.func203,Tryz.ntmps203;go_wp2_with fail;refine c.mono ?_;rintro e w2 ⟨rfl,b⟩;go_wp2_with fail;refine(HF w2 (h.below b)).mono ?_;rintro e w3 ⟨rfl,h3,k3⟩;have K:=(Keep.ofBelow (rb:=rb) b).trans k3;clear h c b HF;go_wp2
  (try simp only[Exit.inBlock,Exit.then])
  refine bodyPost_ret (results_none rfl _ _ _) rfl ?_;exact⟨rfl,h3,K⟩
theorem open_no {w:World}{rb q:Nat}{all:List Tk}{x:Tk}{r:List Tk}(h:QS w rb all 64 q (.inr (x::r))) :
  Calls Tryz.prog 104 #[.pointer (some ⟨rb,0,none⟩)] w fun e w'=>e=.returned (.tuple #[])/\QS w' rb all 65 q (.inl (121,x.a))/\Keep rb w w':=by
 have c:Calls Tryz.prog 29 #[.pointer (some ⟨rb,0,none⟩),.int .i64 121] w fun r' w'=>r'=.returned (.tuple #[])/\QS w' rb all 65 q (.inl (121,x.a))/\Keep rb w w':=(fail_s 121 (by decide) h).mono fun e w' hh=>⟨hh.1,hh.2.1,hh.2.2⟩;obtain⟨i,g,cap,L,hg,hi,hcL,hcap,hL,hm,c0,c1,c2,c3,c4,-,hf⟩:=h.ok;clear h c0 c1 c3 c4;go_enter Tryz.func104,Tryz.ntmps104;go_wp2_with fail;refine c.mono ?_;rintro e w3 ⟨rfl,h3,k3⟩;clear c;go_wp2
 (try simp only[Exit.inBlock,Exit.then])
 refine bodyPost_ret (results_none rfl _ _ _) rfl ?_;exact⟨rfl,h3,k3⟩
theorem open_ok {w:World}{rb o q:Nat}{all:List Tk}{x:Tk}{r:List Tk}(ho:o<64)(hx:x.t≠[])(h:QS w rb all o q (.inr (x::r))) :
  Calls Tryz.prog 104 #[.pointer (some ⟨rb,0,none⟩)] w fun e w'=>e=.returned (.tuple #[])/\QS w' rb all (o+1) q (.inr r)/\Keep rb w w':=by
 have h1:=h.open (o+1) (by omega);rw[show ((o+1:Nat):Int)=(o:Int)+1 by omega] at h1;obtain⟨i,g,cap,L,hg,hi,hcL,hcap,hL,hm,c0,c1,c2,c3,c4,-,hf⟩:=h.ok;obtain⟨i2,g2,cap2,L2,hg2,hi2,hcL2,hcap2,hL2,hm2,d0,d1,d2,d3,d4,-,hf2⟩:=h1.ok;have h2:=h1.over (.inl hx) d1;have K:=(Keep.at (rb:=rb) w 2 (.int .i64 ((o:Int)+1))).trans (Keep.at _ 1 (.int .i64 ((i2:Int)+1)));have hb:((o:Int)==64)=false:=by simp;omega
 clear h h1 c0 c1 c3 c4 d0 d2 d3 d4;go_enter Tryz.func104,Tryz.ntmps104;go_upto_region 3 with fail;generalize w.setCell ⟨rb,2,none⟩ (.int .i64 ((o:Int)+1))=w3 at *;go_wp2
 go_end0
 exact⟨rfl,h2,K⟩
theorem bracket_s {w:World}{rb o q:Nat}{all:List Tk}{st:Sq}(TI:∀ x,x ∈ all->TokI x)(s:List UInt8)(hs:s≠[])(hn:nameB s=false)(h:QS w rb all o q st) :
  Calls Tryz.prog 160 #[.pointer (some ⟨rb,0,none⟩),stv s] w fun e w'=>e=.returned (.tuple #[])/\QS w' rb all (o+1) q (onw (enterT s o) st)/\Keep rb w w':=by
 have c:=is_s TI s hs hn h;cases hb:isS s st with
 | true =>
  obtain⟨x,r,rfl,hx⟩:=isS_true hb;rw[hb] at c;have HF:∀ w2,QS w2 rb all o q (.inr (x::r))->Calls Tryz.prog 104 #[.pointer (some ⟨rb,0,none⟩)] w2 fun e w'=>e=.returned (.tuple #[])/\QS w' rb all (o+1) q (onw (enterT s o) (.inr (x::r)))/\Keep rb w2 w':=fun w2 h2=>by
   by_cases h64:o=64
   ·subst h64;have e1:onw (enterT s 64) (.inr (x::r))=.inl (121,x.a):=by simp[onw,enterT,hx,stp]
    rw[e1];exact open_no h2
   ·have e1:onw (enterT s o) (.inr (x::r))=.inr r:=by simp[onw,enterT,hx,stp,h64]
    rw[e1];exact open_ok (by have:=h2.le.1;omega) (by rw[hx];exact hs) h2
  clear hb hx;generalize onw (enterT s o) (.inr (x::r))=st2 at *;go_enter Tryz.func160,Tryz.ntmps160;go_wp2_with fail;refine c.mono ?_;rintro e w2 ⟨rfl,b⟩;go_wp2_with fail;refine(HF w2 (h.below b)).mono ?_;rintro e w3 ⟨rfl,h3,k3⟩;have K:=(Keep.ofBelow (rb:=rb) b).trans k3;clear h c b HF;go_wp2
  go_end0
  exact⟨rfl,h3,K⟩
 | false =>
  rw[<-(isS_false hb h).2 o];rw[hb] at c;have HF:∀ w2,QS w2 rb all o q st->Calls Tryz.prog 29 #[.pointer (some ⟨rb,0,none⟩),.int .i64 120] w2 fun r w'=>r=.returned (.tuple #[])/\QS w' rb all (o+1) q (failS 120 st)/\Keep rb w2 w':=fun w2 h2=>(fail_s 120 (by decide) h2).mono fun e w' hh=>⟨hh.1,by
   obtain⟨er,a,e1⟩:∃er a,failS 120 st=.inl (er,a):=by
    match st with
    | .inl (er,a)=>exact⟨er,a,rfl⟩
    | .inr []=>exact⟨0,0,rfl⟩
    | .inr (x::r)=>exact⟨120,x.a,rfl⟩
   have h3:=hh.2.1;rw[e1] at h3 ⊢;exact h3,hh.2.2⟩
  clear hb;go_enter Tryz.func160,Tryz.ntmps160;go_wp2_with fail;refine c.mono ?_;rintro e w2 ⟨rfl,b⟩;go_wp2_with fail;refine(HF w2 (h.below b)).mono ?_;rintro e w3 ⟨rfl,h3,k3⟩;have K:=(Keep.ofBelow (rb:=rb) b).trans k3;clear h c b HF;go_wp2
  (try simp only[Exit.inBlock,Exit.then])
  refine bodyPost_ret (results_none rfl _ _ _) rfl ?_;exact⟨rfl,h3,K⟩
theorem close_s {w:World}{rb o q:Nat}{all:List Tk}{st:Sq}(TI:∀ x,x ∈ all->TokI x)(s:List UInt8)(hs:s≠[])(hn:nameB s=false)(h:QS w rb all (o+1) q st) :
  Calls Tryz.prog 161 #[.pointer (some ⟨rb,0,none⟩),stv s] w fun e w'=>e=.returned (.tuple #[])/\QS w' rb all o q (onw (passT s) st)/\Keep rb w w':=by
 have c:=take_s TI s hs hn h;generalize onw (passT s) st=st2 at *;go_enter Tryz.func161,Tryz.ntmps161;go_wp2_with fail;refine c.mono ?_;rintro e w2 ⟨rfl,h2,k2⟩;obtain⟨o',c2,hf,h3⟩:=h2.down;have K:=k2.trans (Keep.at w2 2 (.int .i64 (wrap64 (o' - 1))));clear h c k2 h2;go_wp2
 go_end0
 exact⟨rfl,h3,K⟩
def amgI (L:List (List UInt8))(st:Sq):Int :=
 match L.findIdx? (fun s=>isS s st) with
 | some i=>(i:Nat)
 | none=>-1
theorem amg_yes {L:List (List UInt8)}{st:Sq}{k:Nat}{s:List UInt8}(hk:L[k]?=some s)(hs:isS s st=true)(hn:∀ j t,j<k->L[j]?=some t->isS t st=false):amgI L st=(k:Nat):=by
 have:L.findIdx? (fun s=>isS s st)=some k:=by
  obtain⟨hl,he⟩:=List.getElem?_eq_some_iff.1 hk;rw[List.findIdx?_eq_some_iff_getElem];refine⟨hl,by rw[he];exact hs,fun j hj=>?_⟩
  have:=hn j (L[j]'(by omega)) hj (List.getElem?_eq_getElem _)
  simp[this]
 unfold amgI;rw[this]
theorem amg_no {L:List (List UInt8)}{st:Sq}(hn:∀ j t,j<L.length->L[j]?=some t->isS t st=false):amgI L st=-1:=by
 have:L.findIdx? (fun s=>isS s st)=none:=by
  rw[List.findIdx?_eq_none_iff];intro t ht;obtain⟨j,hj,he⟩:=List.getElem_of_mem ht;exact hn j t hj (by rw[<-he];exact List.getElem?_eq_getElem _)
 unfold amgI;rw[this]
theorem among_s {w:World}{rb o q:Nat}{all:List Tk}{st:Sq}(TI:∀ x,x ∈ all->TokI x)(L:List (List UInt8))(hL:∀ s,s ∈ L->s≠[]/\nameB s=false)(h:QS w rb all o q st){g n cap:Nat}(hn:n=L.length)(hg:g<w.heap.size)(hl:∀ j s,L[j]?=some s->w.cell? ⟨g,j,none⟩=some (stv s))(hc:n<=cap)(hm:cap<=maxLen) :
  Calls Tryz.prog 54 #[.pointer (some ⟨rb,0,none⟩),.slice (some ⟨g,0,none⟩) n cap] w fun e w'=>e=.returned (.int .i64 (amgI L st))/\Below w.heap.size w w':=by
 have hmm:cap<=9223372036854775807:=hm;obtain⟨V,hV⟩:∃V,V=amgI L st:=⟨_,rfl⟩
 rw[<-hV];have HV:Hid (V=amgI L st):=hV;have HN:Hid (n=L.length):=hn;have HL:Hid (∀ j s wx,L[j]?=some s->Below w.heap.size w wx->wx.cell? ⟨g,j,none⟩=some (stv s)):=fun j s wx hj b=>(b.cell (p:=⟨g,j,none⟩) hg).trans (hl j s hj);have HI:Hid (∀ s wx,s ∈ L->Below w.heap.size w wx->Calls Tryz.prog 103 #[.pointer (some ⟨rb,0,none⟩),stv s] wx fun e w'=>e=.returned (.bool (isS s st))/\Below wx.heap.size wx w'):=fun s wx hs b=>is_s TI s (hL s hs).1 (hL s hs).2 (h.below b);clear hV hn hl h hL TI hm;go_enter Tryz.func54,Tryz.ntmps54;go_wp2_with fail;go_loopw [5] (fun v wr=>∃k:Nat,v=.int .i64 (k:Nat)/\k<=n/\(∀ j t,j<k->L[j]?=some t->isS t st=false)/\Below w.heap.size w wr) (fun v _=>n-(intOf v).toNat)
 case atStart=>exact⟨0,by go_num,by omega,fun j t hj=>by omega,Below.refl _ w⟩
 case round =>
  obtain⟨k,rfl,hk,hin,hB⟩:=hrel;by_cases hlt:k<n
  ·have hkI:(k:Int)<(n:Int):=by omega
   obtain⟨s,hs⟩:∃s,L[k]?=some s:=⟨_,List.getElem?_eq_getElem (by rw[<-HN.out];exact hlt)⟩
   have ix:=HL.out k s wr hs hB;have c:=HI.out s wr (List.mem_of_getElem? hs) hB;have hk9:k<9223372036854775807:=by omega
   cases hb:isS s st with
   | true =>
    rw[hb] at c;have fin:Hid (V=(k:Nat)):=by show V=_;rw[HV.out];exact amg_yes hs hb hin
    clear hin HI HL HV hs hb;go_wp2_with fail;refine c.mono ?_;rintro e w2 ⟨rfl,b2⟩;have B2:=hB.trans (b2.mono hB.size);clear c ix;go_wp2;go_ret;exact⟨by rw[fin.out];rfl,B2⟩
   | false =>
    rw[hb] at c;have hin2:∀ j t,j<k+1->L[j]?=some t->isS t st=false:=fun j t hj ht=>by
     by_cases e:j=k
     ·subst e;rw[hs] at ht;cases ht;exact hb
     ·exact hin j t (by omega) ht
    have HI2:=Lib.hid hin2;clear hin HI HL HV hs hb hin2;go_wp2_with fail;refine c.mono ?_;rintro e w2 ⟨rfl,b2⟩;have B2:=hB.trans (b2.mono hB.size);clear c ix hB b2;go_wp2;go_roundw
    case rel=>(try ((repeat apply Exists.intro);refine⟨?_,rfl⟩));exact⟨k+1,by go_num,by omega,HI2.out,B2⟩
    case measure=>simp[intOf];omega
  ·obtain rfl:k=n:=by omega
   have fin:Hid (V=-1):=by show V=_;rw[HV.out];exact amg_no (by rw[<-HN.out];exact hin)
   clear hin HI HL HV HN;go_wp2;go_ret;exact⟨by rw[fin.out];rfl,hB⟩
abbrev Nb (n bl:Nat):Nat->Prop:=fun b=>n<=b/\b≠bl
theorem Sl.toB {n n1 bl:Nat}{w:World}{f:Fs}{ao:Option Addr}(h:Sl w (Nw n1) f ao)(hn:n<=n1)(hb:bl<n1):Sl w (Nb n bl) f ao:=h.mono (fun _ _ _=>rfl) (Nat.le_refl _) (fun k hk _=>⟨Nat.le_trans hn hk,by have hk:n1<=k:=hk;omega⟩)
theorem Sl.toB' {n bl:Nat}{w:World}{f:Fs}{ao:Option Addr}(h:Sl w (Nw n) f ao)(hb:w.heap.size<=bl):Sl w (Nb n bl) f ao:=h.mono (fun _ _ _=>rfl) (Nat.le_refl _) (fun k hk hl=>⟨hk,by omega⟩)
theorem Sl.keepB {rb n bl:Nat}{w w':World}{f:Fs}{ao:Option Addr}(h:Sl w (Nb n bl) f ao)(k:Keep rb w w')(hn:rb<n):Sl w' (Nb n bl) f ao:=h.mono (fun i hp hl=>k.block i hl (by have:=hp.1;omega)) k.size (fun _ h _=>h)
theorem Sl.allocB {P:Nat->Prop}{w:World}{f:Fs}{ao:Option Addr}(h:Sl w P f ao)(ob:Obj):Sl (w.alloc ob) P f ao:=h.mono (fun i hp hl=>Below.heap_alloc w ob i hl) (by simp) (fun _ h _=>h)
theorem Sl.setB {n bl:Nat}{w:World}{f:Fs}{ao:Option Addr}(h:Sl w (Nb n bl) f ao)(p:Addr)(v:Value)(hp:p.block=bl\/p.block<n):Sl (w.setCell p v) (Nb n bl) f ao:=h.mono (fun i hi hl=>heap_setCell_other w p i v (by have h1:=hi.1;have h2:=hi.2;rcases hp with hp|hp<;>omega)) (by simp) (fun _ h _=>h)
theorem Sl.set5B {n bl:Nat}{w:World}{f:Fs}{ao:Option Addr}(h:Sl w (Nb n bl) f ao){b:Nat}(hb:b=bl\/b<n)(b0 b1 b2 b3 b4:Value):Sl (((((w.setCell ⟨b,0,none⟩ b0).setCell ⟨b,1,none⟩ b1).setCell ⟨b,2,none⟩ b2).setCell ⟨b,3,none⟩ b3).setCell ⟨b,4,none⟩ b4) (Nb n bl) f ao:=((((h.setB ⟨b,0,none⟩ b0 hb).setB ⟨b,1,none⟩ b1 hb).setB ⟨b,2,none⟩ b2 hb).setB ⟨b,3,none⟩ b3 hb).setB ⟨b,4,none⟩ b4 hb
theorem Sl.lowB {n bl m:Nat}{w:World}{f:Fs}{ao:Option Addr}(h:Sl w (Nb n bl) f ao)(hm:m<=n):Sl w (Nw m) f ao:=h.mono (fun _ _ _=>rfl) (Nat.le_refl _) (fun k hk _=>Nat.le_trans hm hk.1)
def cwL:List (List UInt8):=callsL.map (·.1)
def qwL:List (List UInt8):=quantsL.map (·.1)
def Wl (w:World)(L:List (List UInt8))(w':World)(g:Nat):Prop:=Below w.heap.size w w'/\w.heap.size<=g/\g<w'.heap.size/\∀ j s,L[j]?=some s->w'.cell? ⟨g,j,none⟩=some (stv s)
theorem wl_new (w:World)(L:List (List UInt8))(t:TypeId):Wl w L (w.alloc (.cells (L.map stv).toArray t)) w.heap.size:=by
 refine⟨(Below.refl _ w).alloc (Nat.le_refl _) _,Nat.le_refl _,by simp,fun j s hj=>?_⟩;have hh:(w.alloc (.cells (L.map stv).toArray t)).heap[w.heap.size]?=some (.cells (L.map stv).toArray t (0,0)):=heap_alloc_new w _;rw[cell_of_row _ _ _ _ _ (0,0) hh];simp[hj]
theorem calls_s (w:World):Calls Tryz.prog 158 #[] w fun e w'=>∃g,e=.returned (.slice (some ⟨g,0,none⟩) 10 10)/\Wl w cwL w' g:=by
 have H:=wl_new w cwL 9;have e1:(cwL.map stv)=callsL.map (fun x=>stv x.1):=rfl;go_enter Tryz.func158,Tryz.ntmps158;go_wp2;go_ret;exact⟨_,rfl,H⟩
theorem quants_s (w:World):Calls Tryz.prog 159 #[] w fun e w'=>∃g,e=.returned (.slice (some ⟨g,0,none⟩) 6 6)/\Wl w qwL w' g:=by
 have H:=wl_new w qwL 9;go_enter Tryz.func159,Tryz.ntmps159;go_wp2;go_ret;exact⟨_,rfl,H⟩
abbrev bxE (e:Ex)(ao:Option Addr)(cap:Nat):Obj:=.cells #[.int .i64 e.k,.int .i64 e.n,stv e.nm,.slice ao e.kids.len cap,.int .i64 e.a] 25
theorem Fc.allocP {P:Nat->Prop}{w:World}{f:Fs}{xs:List Value}(h:Fc w P f xs)(ob:Obj):Fc (w.alloc ob) P f xs:=h.mono (fun i hp hl=>Below.heap_alloc w ob i hl) (by simp) (fun _ h _=>h)
theorem Sl.freshP {w:World}{P:Nat->Prop}{f:Fs}(xs:List Value)(t:TypeId)(h:Fc w P f xs)(hp:P w.heap.size):Sl (w.alloc (.cells xs.toArray t)) P f (some ⟨w.heap.size,0,none⟩):=by
 refine Sl.of hp (by simp) (fun j u hu=>?_) (h.allocP _);rw[Nat.zero_add];rw[cell_of_row _ w.heap.size j _ t (0,0) (heap_alloc_new w _)];simpa using hu
theorem two_s {w:World}{P:Nat->Prop}(k:Nat)(at0:Int){a b:Ex}{aoa aob:Option Addr}{ca cb:Nat}(ha:Sl w P a.kids aoa)(hb:Sl w P b.kids aob)(hn:P (w.heap.size+1+1+1)) :
  Calls Tryz.prog 55 #[.int .i64 (k:Nat),.int .i64 at0,exV a aoa ca,exV b aob cb] w fun e w'=>∃ao cap,e=.returned (exV ⟨(k:Nat),0,[],at0,(one a).snoc b⟩ ao cap)/\Sl w' P ((one a).snoc b) ao/\Below w.heap.size w w':=by
 have s1:(w.alloc (bxE a aoa ca)).heap.size=w.heap.size+1:=by simp
 have s2:((w.alloc (bxE a aoa ca)).alloc (bxE b aob cb)).heap.size=w.heap.size+1+1:=by simp
 have s3:(((w.alloc (bxE a aoa ca)).alloc (bxE b aob cb)).alloc (bxE ⟨(k:Nat),0,[],at0,(one a).snoc b⟩ (some ⟨w.heap.size+1+1+1,0,none⟩) 2)).heap.size=w.heap.size+1+1+1:=by simp
 have hS:=Sl.freshP _ 25 (Fc.app (Fc.one (e:=a) ca (((ha.allocB (bxE a aoa ca)).allocB (bxE b aob cb)).allocB (bxE ⟨(k:Nat),0,[],at0,(one a).snoc b⟩ (some ⟨w.heap.size+1+1+1,0,none⟩) 2))) (Fc.one (e:=b) cb (((hb.allocB (bxE a aoa ca)).allocB (bxE b aob cb)).allocB (bxE ⟨(k:Nat),0,[],at0,(one a).snoc b⟩ (some ⟨w.heap.size+1+1+1,0,none⟩) 2)))) (by rw[s3];exact hn);have hZ:(((w.alloc (bxE a aoa ca)).alloc (bxE b aob cb)).alloc (bxE ⟨(k:Nat),0,[],at0,(one a).snoc b⟩ (some ⟨w.heap.size+1+1+1,0,none⟩) 2)).heap[w.heap.size+1+1]?=some (bxE ⟨(k:Nat),0,[],at0,(one a).snoc b⟩ (some ⟨w.heap.size+1+1+1,0,none⟩) 2):=by
  have:=heap_alloc_new ((w.alloc (bxE a aoa ca)).alloc (bxE b aob cb)) (bxE ⟨(k:Nat),0,[],at0,(one a).snoc b⟩ (some ⟨w.heap.size+1+1+1,0,none⟩) 2)
  rw[s2] at this;exact this
 have hZ2:=(Below.heap_alloc _ (.cells ([.int .i64 a.k,.int .i64 a.n,stv a.nm,.slice aoa a.kids.len ca,.int .i64 a.a]++[.int .i64 b.k,.int .i64 b.n,stv b.nm,.slice aob b.kids.len cb,.int .i64 b.a]).toArray 25) _ (lt_of_block hZ)).trans hZ;have hB:Below w.heap.size w ((((w.alloc (bxE a aoa ca)).alloc (bxE b aob cb)).alloc (bxE ⟨(k:Nat),0,[],at0,(one a).snoc b⟩ (some ⟨w.heap.size+1+1+1,0,none⟩) 2)).alloc (.cells ([.int .i64 a.k,.int .i64 a.n,stv a.nm,.slice aoa a.kids.len ca,.int .i64 a.a]++[.int .i64 b.k,.int .i64 b.n,stv b.nm,.slice aob b.kids.len cb,.int .i64 b.a]).toArray 25)):=((((Below.refl _ w).alloc (by omega) _).alloc (by omega) _).alloc (by omega) _).alloc (by omega) _;rw[s3] at hS;have l2:((one a).snoc b).len=2:=rfl;obtain⟨u0,u1,u2,u3,u4,-⟩:=box5 hZ2;have FIN:Hid (∀ wx,wx=((((w.alloc (bxE a aoa ca)).alloc (bxE b aob cb)).alloc (bxE ⟨(k:Nat),0,[],at0,(one a).snoc b⟩ (some ⟨w.heap.size+1+1+1,0,none⟩) 2)).alloc (.cells ([.int .i64 a.k,.int .i64 a.n,stv a.nm,.slice aoa a.kids.len ca,.int .i64 a.a]++[.int .i64 b.k,.int .i64 b.n,stv b.nm,.slice aob b.kids.len cb,.int .i64 b.a]).toArray 25))->Sl wx P ((one a).snoc b) (some ⟨w.heap.size+1+1+1,0,none⟩)/\Below w.heap.size w wx/\wx.cell? ⟨w.heap.size+1+1,0,none⟩=some (.int .i64 (k:Nat))/\wx.cell? ⟨w.heap.size+1+1,1,none⟩=some (.int .i64 0)/\wx.cell? ⟨w.heap.size+1+1,2,none⟩=some (stv [])/\wx.cell? ⟨w.heap.size+1+1,3,none⟩=some (.slice (some ⟨w.heap.size+1+1+1,0,none⟩) 2 2)/\wx.cell? ⟨w.heap.size+1+1,4,none⟩=some (.int .i64 at0)):=fun wx e=>by
  subst e;exact⟨hS,hB,u0,u1,u2,u3,u4⟩
 clear hS hB hZ hZ2 u0 u1 u2 u3 u4 s1 s2 s3 l2 ha hb;unfold exV;go_enter Tryz.func55,Tryz.ntmps55;go_wp2;obtain⟨f1,f2,u0,u1,u2,u3,u4⟩:=FIN.out _ rfl;exact bodyPost_ret (v:=exV ⟨(k:Nat),0,[],at0,(one a).snoc b⟩ (some ⟨w.heap.size+1+1+1,0,none⟩) 2) (by simp[results,Tryz.results55,go_sem,exV];rfl) rfl ⟨_,_,rfl,f1,f2⟩
def sgW:Nat->List (List UInt8)
 | 1=>[[111,114]]
 | 2=>[[97,110,100]]
 | 4=>[[61],[33,61],[60,61],[60]]
 | 5=>[[43],[45]]
 | _=>[[42],[47],[37]]
def sgK:Nat->List Nat
 | 1=>[18]
 | 2=>[17]
 | 4=>[13,14,16,15]
 | 5=>[8,9]
 | _=>[10,11,12]
def Sg (w:World)(row:Nat)(w':World)(g1 g2:Nat):Prop:=Wl w (sgW row) w' g1/\w.heap.size<=g2/\g2<w'.heap.size/\∀ j k,(sgK row)[j]?=some k->w'.cell? ⟨g2,j,none⟩=some (.int .i64 (k:Nat))
theorem sg_12 (w:World)(row:Nat)(t1 t2:TypeId):Sg w row ((w.alloc (.cells ((sgW row).map stv).toArray t1)).alloc (.cells ((sgK row).map (fun k=>Value.int .i64 (k:Nat))).toArray t2)) w.heap.size (w.heap.size+1):=by
 obtain⟨h1,h2,h3,h4⟩:=wl_new w (sgW row) t1;have hs:(w.alloc (.cells ((sgW row).map stv).toArray t1)).heap.size=w.heap.size+1:=by simp
 refine⟨⟨h1.alloc (by omega) _,h2,by simp;omega,fun j s hj=>?_⟩,by omega,by simp,fun j k hj=>?_⟩
 ·exact(World.cell?_of_block (a:=⟨w.heap.size,j,none⟩) (Below.heap_alloc _ _ _ h3)).trans (h4 j s hj)
 ·have hh:=heap_alloc_new (w.alloc (.cells ((sgW row).map stv).toArray t1)) (.cells ((sgK row).map (fun k=>Value.int .i64 (k:Nat))).toArray t2);rw[hs] at hh;rw[cell_of_row _ _ _ _ _ (0,0) hh];simp[hj]
theorem sg_21 (w:World)(row:Nat)(t1 t2:TypeId):Sg w row ((w.alloc (.cells ((sgK row).map (fun k=>Value.int .i64 (k:Nat))).toArray t2)).alloc (.cells ((sgW row).map stv).toArray t1)) (w.heap.size+1) w.heap.size:=by
 have hs:(w.alloc (.cells ((sgK row).map (fun k=>Value.int .i64 (k:Nat))).toArray t2)).heap.size=w.heap.size+1:=by simp
 obtain⟨h1,h2,h3,h4⟩:=wl_new (w.alloc (.cells ((sgK row).map (fun k=>Value.int .i64 (k:Nat))).toArray t2)) (sgW row) t1;rw[hs] at h2 h3 h4;have b1:Below w.heap.size w (w.alloc (.cells ((sgK row).map (fun k=>Value.int .i64 (k:Nat))).toArray t2)):=(Below.refl _ w).alloc (Nat.le_refl _) _;refine⟨⟨b1.trans (h1.mono (by omega)),by omega,h3,h4⟩,by omega,by omega,fun j k hj=>?_⟩;have hh:=heap_alloc_new w (.cells ((sgK row).map (fun k=>Value.int .i64 (k:Nat))).toArray t2);have hh2:=(Below.heap_alloc (w.alloc (.cells ((sgK row).map (fun k=>Value.int .i64 (k:Nat))).toArray t2)) (.cells ((sgW row).map stv).toArray t1) _ (lt_of_block hh)).trans hh;rw[cell_of_row _ _ _ _ _ (0,0) hh2];simp[hj]
theorem signs_s (w:World)(row n:Nat)(hr:row=1\/row=2\/row=4\/row=5\/row=6)(hn:n=(sgW row).length) :
  Calls Tryz.prog 53 #[.int .i64 (row:Nat)] w fun e w'=>∃g1 g2,e=.returned (.tuple #[.slice (some ⟨g1,0,none⟩) n n,.slice (some ⟨g2,0,none⟩) n n])/\Sg w row w' g1 g2:=by
 have H1:=Lib.hid (fun w2:World=>sg_12 w2 row 9 3);have H2:=Lib.hid (fun w2:World=>sg_21 w2 row 9 3);rcases hr with rfl|rfl|rfl|rfl|rfl
 all_goals
  subst hn;go_enter Tryz.func53,Tryz.ntmps53;go_wp2;go_ret2;exact⟨_,_,rfl,H1.out w⟩
theorem digit_of (k:Nat)(hk:k<10):((UInt8.ofNat (48+k)).toNat:Int)=48+(k:Int):=by
 rw[UInt8.toNat_ofNat'];omega
theorem text_dig (w:World)(b k:Nat)(hk:k<10)(hb:w.heap[b]?=some (.cells #[.int .u8 (48+(k:Int))] 5 (0,0))) :
  (convert 147 9 (.slice (some ⟨b,0,none⟩) 1 1)).run Tryz.prog w=.ok (.string ⟨#[UInt8.ofNat (48+k)]⟩) w :=
 run_convert_bytes_back _ 147 9 5 ⟨b,0,none⟩ 1 [UInt8.ofNat (48+k)] Tryz.underlying147 Tryz.underlying5 Tryz.underlying9
  (fun j hj=>by
   have e:j=0:=by simp at hj;omega
   subst e
   have:=digit_of k hk
   simp only[List.getElem_cons_zero];rw[this];show w.cell? ⟨b,0+0,none⟩=_;rw[cell_of_row w b _ _ _ (0,0) hb];rfl)
theorem cat_dig (l:List UInt8)(c:UInt8):(⟨l.toArray⟩:ByteArray)++⟨#[c]⟩=⟨(l++[c]).toArray⟩:=by
 apply ByteArray.ext;simp
def DigOk (n:Nat):Prop:=∀ w:World,Calls Tryz.prog 230 #[.int .i64 (n:Nat)] w fun e w'=>e=.returned (stv (Go.Lib.decDigits n))/\Below w.heap.size w w'
theorem dig_small (n:Nat)(h:n<10):DigOk n:=by
 intro w;rw[Go.Lib.decDigits,dif_pos h];have B0:Below w.heap.size w (w.alloc (.cells #[.int .u8 (48+(n:Int))] 5)):=(Below.refl _ w).alloc (Nat.le_refl _) _;have F0:=text_dig (w.alloc (.cells #[.int .u8 (48+(n:Int))] 5)) w.heap.size n h (heap_alloc_new w _);obtain⟨c,hc⟩:∃c,c=UInt8.ofNat (48+n):=⟨_,rfl⟩
 rw[<-hc] at F0 ⊢;clear hc;have hI:(n:Int)<10:=by omega
 have hw:IntKind.u8.wrap (48+(n:Int))=48+(n:Int):=by show (48+(n:Int)) % 256=_;omega
 go_enter Tryz.func230,Tryz.ntmps230;go_wp2;go_ret;exact⟨rfl,B0⟩
theorem dig_big (n:Nat)(h:¬n<10)(hn:n<=9223372036854775807)(IH:DigOk (n / 10)):DigOk n:=by
 intro w;rw[Go.Lib.decDigits,dif_neg h];have hm:n % 10<10:=Nat.mod_lt _ (by omega);have HT:Hid (∀ (wx:World) (b:Nat),wx.heap[b]?=some (.cells #[.int .u8 (48+((n % 10:Nat):Int))] 5 (0,0))->(convert 147 9 (.slice (some ⟨b,0,none⟩) 1 1)).run Tryz.prog wx=.ok (.string ⟨#[UInt8.ofNat (48+n % 10)]⟩) wx):=fun wx b hb=>text_dig wx b (n % 10) hm hb;have IH:=fun wx=>IH wx;have e1:IntKind.i64.wrap (Int.tdiv (n:Int) 10)=((n / 10:Nat):Int):=by rw[IntKind.wrap_i64,show Int.tdiv (n:Int) 10=((n / 10:Nat):Int) from rfl];omega
 have e2:IntKind.i64.wrap (Int.tmod (n:Int) 10)=((n % 10:Nat):Int):=by rw[IntKind.wrap_i64,show Int.tmod (n:Int) 10=((n % 10:Nat):Int) from rfl];omega
 have e3:Int.tdiv (n:Int) 10=((n / 10:Nat):Int):=rfl;have e4:Int.tmod (n:Int) 10=((n % 10:Nat):Int):=rfl;obtain⟨q,hq⟩:∃q,q=n / 10:=⟨_,rfl⟩
 obtain⟨r,hr⟩:∃r,r=n % 10:=⟨_,rfl⟩
 rw[<-hq] at IH e1 e3 ⊢;rw[<-hr] at HT e2 e4 hm ⊢;obtain⟨c,hc⟩:∃c,c=UInt8.ofNat (48+r):=⟨_,rfl⟩
 rw[<-hc] at HT ⊢;obtain⟨L,hL⟩:∃L,L=Go.Lib.decDigits q:=⟨_,rfl⟩
 have hl9:L.length<=21:=by
  have h9:=Go.Lib.itoa_length_le (q:Nat) (by omega) (by omega);unfold Go.Lib.itoa at h9;rw[if_neg (by omega),Int.toNat_natCast,<-hL] at h9;exact h9
 have hsm:=size_mk L;rw[<-hL] at IH ⊢;have HN:Hid (n<=9223372036854775807):=hn;have hq1:IntKind.i64.wrap (q:Int)=(q:Int):=by rw[IntKind.wrap_i64];omega
 have hr1:IntKind.i64.wrap (48+(r:Int))=48+(r:Int):=by rw[IntKind.wrap_i64];omega
 clear hq hr hc hL e1 e2;have hI:¬(n:Int)<10:=by omega
 have hw:IntKind.u8.wrap (48+(r:Int))=48+(r:Int):=by show (48+(r:Int)) % 256=_;omega
 have F1:=HT.out ((w.alloc (.cells #[.int .u8 (48+(r:Int))] 5)).drew) w.heap.size (heap_alloc_new w _);have B0:Below w.heap.size w (w.alloc (.cells #[.int .u8 (48+(r:Int))] 5)).drew:=((Below.refl _ w).alloc (Nat.le_refl _) _).drew;have hs0:w.heap.size<(w.alloc (.cells #[.int .u8 (48+(r:Int))] 5)).drew.heap.size:=by show w.heap.size<(w.alloc _).heap.size;simp
 have hbl:((w.alloc (.cells #[.int .u8 (48+(r:Int))] 5)).drew).heap[w.heap.size]?=some (.cells #[.int .u8 (48+(r:Int))] 5 (0,0)):=heap_alloc_new w _;have Hbl:=Lib.hid hbl;clear hbl;have HC:Hid (((⟨L.toArray⟩:ByteArray)++⟨#[c]⟩)=⟨(L++[c]).toArray⟩):=cat_dig L c;go_enter Tryz.func230,Tryz.ntmps230;go_upto_region 3 with fail;go_region_with ((first|(go_at_call 230;refine(IH w.drew).mono ?_;rintro e w1 ⟨rfl,b1⟩;have B1:Below w.heap.size w w1:=(Below.refl _ w).drew.trans b1;have B2:Below w.heap.size w (w1.alloc (.cells #[.int .u8 (48+(r:Int))] 5)):=B1.alloc B1.size _;have F2:=HT.out (w1.alloc (.cells #[.int .u8 (48+(r:Int))] 5)) w1.heap.size (heap_alloc_new w1 _))|(go_at_call 230;refine(IH ((w.alloc (.cells #[.int .u8 (48+(r:Int))] 5)).drew)).mono ?_;rintro e w1 ⟨rfl,b1⟩;have B2:Below w.heap.size w w1:=B0.trans (b1.mono B0.size);have F2:=HT.out w1 w.heap.size ((b1.block _ hs0).trans Hbl.out))))
 all_goals
  rw[HC.out];go_wp2;go_ret;exact⟨rfl,B2⟩
theorem dig_all:∀ (m n:Nat),n<=m->n<=9223372036854775807->DigOk n
 | 0,n,hm,hn=>dig_small n (by omega)
 | m+1,n,hm,hn=>by
  by_cases h:n<10
  ·exact dig_small n h
  ·exact dig_big n h hn (dig_all m (n / 10) (by omega) (by omega))
theorem digits_q (n:Int)(h0:0<=n)(h1:n<=9223372036854775807)(w:World):Calls Tryz.prog 230 #[.int .i64 n] w fun e w'=>e=.returned (stv (Go.Lib.itoa n))/\Below w.heap.size w w':=by
 have h:=dig_all n.toNat n.toNat (Nat.le_refl _) (by omega) w;rw[show ((n.toNat:Nat):Int)=n by omega] at h;have e:Go.Lib.itoa n=Go.Lib.decDigits n.toNat:=by unfold Go.Lib.itoa;rw[if_neg (by omega)]
 rw[e];exact h
theorem sign_at (x:List UInt8 × Nat × Nat × Nat × Nat)(hx:x ∈ opsL):(x.2.2.1=1\/x.2.2.1=2\/x.2.2.1=4\/x.2.2.1=5\/x.2.2.1=6)/\∃i,i<4/\(sgW x.2.2.1)[i]?=some x.1/\(sgK x.2.2.1)[i]?=some x.2.1/\(∀ j,j<i->(sgK x.2.2.1)[j]?≠some x.2.1)/\∀ r,r<x.2.2.1->r≠3->r≠0->∀ j,j<4->(sgK r)[j]?≠some x.2.1:=by
 simp only[opsL,List.mem_cons,List.not_mem_nil,or_false] at hx;rcases hx with rfl|rfl|rfl|rfl|rfl|rfl|rfl|rfl|rfl|rfl|rfl
 ·exact⟨by decide,0,by decide,rfl,rfl,by decide,by decide⟩
 ·exact⟨by decide,0,by decide,rfl,rfl,by decide,by decide⟩
 ·exact⟨by decide,0,by decide,rfl,rfl,by decide,by decide⟩
 ·exact⟨by decide,1,by decide,rfl,rfl,by decide,by decide⟩
 ·exact⟨by decide,3,by decide,rfl,rfl,by decide,by decide⟩
 ·exact⟨by decide,2,by decide,rfl,rfl,by decide,by decide⟩
 ·exact⟨by decide,0,by decide,rfl,rfl,by decide,by decide⟩
 ·exact⟨by decide,1,by decide,rfl,rfl,by decide,by decide⟩
 ·exact⟨by decide,0,by decide,rfl,rfl,by decide,by decide⟩
 ·exact⟨by decide,1,by decide,rfl,rfl,by decide,by decide⟩
 ·exact⟨by decide,2,by decide,rfl,rfl,by decide,by decide⟩
theorem sg_len (r:Nat):(sgK r).length=(sgW r).length/\(sgW r).length<=4:=by
 unfold sgK sgW;split<;>exact⟨rfl,by decide⟩
theorem sign_q {k:Int}{x:List UInt8 × Nat × Nat × Nat × Nat}(h:opOf k=some x)(w:World):Calls Tryz.prog 234 #[.int .i64 k] w fun e w'=>e=.returned (stv x.1)/\Below w.heap.size w w':=by
 have hm:=List.mem_of_find?_eq_some h;have hk:((x.2.1:Nat):Int)=k:=by have:=List.find?_some h;simpa using this
 obtain⟨hr,ix,hix,hw,hkk,hj,hrow⟩:=sign_at x hm;obtain⟨x1,x2,r,x4,x5⟩:=x;simp only at hk hr hw hkk hj hrow ⊢;subst hk;have HW:Hid ((sgW r)[ix]?=some x1):=hw;have HK:Hid ((sgK r)[ix]?=some x2):=hkk;have HJ:Hid (∀ j,j<ix->(sgK r)[j]?≠some x2):=hj;have HR:Hid (∀ r',r'<r->r'≠3->r'≠0->∀ j,j<4->(sgK r')[j]?≠some x2):=hrow;have hr7:r<7:=by omega
 have HR3:Hid (r≠3):=by show r≠3;omega
 have B0:=Below.refl w.heap.size w;clear hw hkk hj hrow hm h;go_enter Tryz.func234,Tryz.ntmps234;go_wp2_with fail;go_loopw [3] (fun v wr=>∃row:Nat,v=.int .i64 (row:Nat)/\1<=row/\row<=r/\Below w.heap.size w wr) (fun v _=>8-(intOf v).toNat)
 case atStart=>exact⟨1,by go_num,by omega,by omega,B0⟩
 case round =>
  clear B0;obtain⟨row,rfl,h1,hle,B1⟩:=hrel;have hrI:(row:Int)<7:=by omega
  by_cases h3:row=3
  ·subst h3;have hlt:3<r:=by have:=HR3.out;omega
   go_wp2;go_roundw
   case rel=>(try ((repeat apply Exists.intro);refine⟨?_,rfl⟩));exact⟨4,by go_num,by omega,by omega,B1⟩
   case measure=>simp[intOf]
  ·have b3:((row:Int)==3)=false:=by simp;omega
   obtain⟨n,hn⟩:∃n,n=(sgW row).length:=⟨_,rfl⟩
   have c:=signs_s wr row n (by omega) hn;have HN:Hid (n=(sgW row).length):=hn;have hn4:n<=4:=by rw[hn];exact(sg_len row).2
   have H3:Hid (row≠3):=h3;clear hn h3 hr;go_wp2_with fail;refine c.mono ?_;rintro e w2 ⟨g1,g2,rfl,sg⟩;have B2:Below w.heap.size w w2:=B1.trans (sg.1.1.mono B1.size);have SG:Hid (g1<w2.heap.size/\g2<w2.heap.size/\(∀ j s,(sgW row)[j]?=some s->w2.cell? ⟨g1,j,none⟩=some (stv s))/\∀ j k,(sgK row)[j]?=some k->w2.cell? ⟨g2,j,none⟩=some (.int .i64 (k:Nat))):=⟨sg.1.2.2.1,sg.2.2.1,sg.1.2.2.2,sg.2.2.2⟩
   clear c sg B1;go_wp2_with fail;go_loopw [6] (fun v wr=>∃i:Nat,v=.int .i64 (i:Nat)/\i<=n/\Hid (row=r->i<=ix)/\wr=w2) (fun v _=>n-(intOf v).toNat)
   case atStart=>exact⟨0,by go_num,by omega,fun _=>Nat.zero_le _,rfl⟩
   case round =>
    obtain⟨i,rfl,hin,HI,rfl⟩:=hrel;by_cases hlt:i<n
    ·have hiI:(i:Int)<(n:Int):=by omega
     have hl:=sg_len row;obtain⟨kk,hkk⟩:∃kk,(sgK row)[i]?=some kk:=⟨_,List.getElem?_eq_getElem (by rw[hl.1,<-HN.out];exact hlt)⟩
     obtain⟨s,hs⟩:∃s,(sgW row)[i]?=some s:=⟨_,List.getElem?_eq_getElem (by rw[<-HN.out];exact hlt)⟩
     have ck:=SG.out.2.2.2 i kk hkk;have cs:=SG.out.2.2.1 i s hs;by_cases hy:row=r/\i=ix
     ·have e1:kk=x2:=by
       have:=HK.out
       rw[<-hy.1,<-hy.2,hkk] at this;injection this
      have e2:s=x1:=by
       have:=HW.out
       rw[<-hy.1,<-hy.2,hs] at this;injection this
      subst e1 e2;clear hy hkk hs hl;go_wp2;go_ret;exact⟨rfl,B2⟩
     ·have hne:kk≠x2:=fun e=>by
       rw[e] at hkk;by_cases hrr:row=r
       ·have hi2:i<ix:=by
         have:=HI.out hrr
         have:i≠ix:=fun e=>hy ⟨hrr,e⟩
         omega
        exact HJ.out i hi2 (by rw[<-hrr];exact hkk)
       ·exact HR.out row (by omega) H3.out (by omega) i (by omega) hkk
      have bne2:((kk:Int)==(x2:Int))=false:=by simp;omega
      have HI2:Hid (row=r->i+1<=ix):=fun e=>by
       have:=HI.out e
       have:i≠ix:=fun e2=>hy ⟨e,e2⟩
       omega
      clear hy hkk hs hl hne HI;go_wp2;go_roundw
      case rel=>(try ((repeat apply Exists.intro);refine⟨?_,rfl⟩));exact⟨i+1,by go_num,by omega,HI2,by trivial⟩
      case measure=>simp[intOf];omega
    ·obtain rfl:i=n:=by omega
     have hlt2:row<r:=by
      by_cases e:row=r
      ·have h5:=HI.out e;have h6:ix<(sgW r).length:=(List.getElem?_eq_some_iff.1 HW.out).1;have h7:=HN.out;rw[e] at h7;omega
      ·omega
     clear HI;go_wp2;go_roundw
     case rel=>(try ((repeat apply Exists.intro);refine⟨?_,rfl⟩));exact⟨row+1,by go_num,by omega,by omega,B2⟩
     case measure=>simp[intOf];omega
abbrev bxX (e:Ex)(ao:Option Addr)(cap:Nat):Obj:=.cells #[.int .i64 e.k,.int .i64 e.n,stv e.nm,.slice ao e.kids.len cap,.int .i64 e.a] 25
def PartQ (N:Nat):Prop:=∀ (e:Ex) (ao:Option Addr) (cap:Nat) (set:Bool) (wb:Nat) (st:Ow) (w:World) (o:Nat->Nat),e.kids.size<N->e.fit->Sl w (L0 o) e.kids ao->WQ w o wb st ->
 Calls Tryz.prog 193 #[.pointer (some ⟨wb,0,none⟩),exV e ao cap,.bool set] w (PostO w o wb (oEx e set st))
theorem WQ.stp0 {w w':World}{o o':Nat->Nat}{wb:Nat}{st:Ow}(h:WQ w o wb st)(s:Step (fun _=>False) w o w' o'):WQ w' o' wb st:=h.step s id id
theorem Sl.stp0 {w w':World}{o o':Nat->Nat}{f:Fs}{ao:Option Addr}(h:Sl w (L0 o) f ao)(s:Step (fun _=>False) w o w' o'):Sl w' (L0 o') f ao:=h.mono (fun i hp hl=>s.block i hl id) s.size (fun i hp hl=>(s.lab i hl).trans hp)
theorem drewStep (w:World)(o:Nat->Nat)(n:Nat):Step (fun _=>False) w o (w.drewN n) o:=(Step.refl _ w o).drewN n
theorem Step.i12 {w w':World}{o o':Nat->Nat}(s:Step (fun _=>False) w o w' o'):Step I12 w o w' o':=s.mono fun _ h=>h.elim
theorem ent_pos {st s:Ow}(h:Bal (entO st) s):∀ x,s=some x->1<=x.o:=fun x hx=>by
 obtain⟨y,hy,h1,_⟩:=h x hx
 match st,hy with
 | some z,hy =>
  simp only[entO] at hy;split at hy
  ·cases hy
  ·injection hy with hy
   subst hy;show 1<=x.o;rw[h1];show 1<=z.o+1;omega
theorem Bal.refl (st:Ow):Bal st st:=fun s h=>⟨s,h,rfl,rfl⟩
theorem Bal.trans {a b c:Ow}(h:Bal a b)(k:Bal b c):Bal a c:=fun s hs=>by
 obtain⟨y,hy,h1,h2⟩:=k s hs;obtain⟨z,hz,h3,h4⟩:=h y hy;exact⟨z,hz,h1.trans h3,h2.trans h4⟩
theorem Bal.put {a b:Ow}(h:Bal a b)(x:List UInt8):Bal a (putO x b):=h.trans fun s hs=>by
 match b,hs with
 | some z,hs =>
  simp only[putO] at hs;split at hs
  ·cases hs
  ·injection hs with hs
   subst hs;exact⟨z,rfl,rfl,rfl⟩
theorem Bal.lea {a b:Ow}(h:Bal (entO a) b):Bal a (leaO b):=fun s hs=>by
 match b,h,hs with
 | some z,h,hs =>
  injection hs with hs
  subst hs;obtain⟨y,hy,h1,h2⟩:=h z rfl
  match a,hy with
  | some u,hy =>
   simp only[entO] at hy;split at hy
   ·cases hy
   ·injection hy with hy
    subst hy;exact⟨u,rfl,by show z.o-1=u.o;rw[h1];show u.o+1-1=_;omega,h2⟩
theorem Bal.qle {a b:Ow}(h:Bal (qenO a) b):Bal a (qleO b):=fun s hs=>by
 match b,h,hs with
 | some z,h,hs =>
  injection hs with hs
  subst hs;obtain⟨y,hy,h1,h2⟩:=h z rfl
  match a,hy with
  | some u,hy =>
   simp only[qenO] at hy;split at hy
   ·cases hy
   ·injection hy with hy
    subst hy;exact⟨u,rfl,h1,by show z.q-1=u.q;rw[h2];show u.q+1-1=_;omega⟩
theorem qen_pos {st s:Ow}(h:Bal (qenO st) s):∀ x,s=some x->1<=x.q:=fun x hx=>by
 obtain⟨y,hy,_,h1⟩:=h x hx
 match st,hy with
 | some z,hy =>
  simp only[qenO] at hy;split at hy
  ·cases hy
  ·injection hy with hy
   subst hy;show 1<=x.q;rw[h1];show 1<=z.q+1;omega
theorem node_bal {k n:Int}{nm:List UInt8}{K:Sep->Ow->Ow}(hK:∀ g s,Bal s (K g s))(s:Ow):Bal s (oNode k n nm K s):=by
 have lst:∀ (x y:List UInt8) (s:Ow),Bal s (oList x y K s):=fun x y s=>(Bal.lea (((Bal.refl (entO s)).put x).trans (hK _ _))).put y;unfold oNode;split
 ·exact Bal.lea (hK _ _)
 ·split
  ·exact Bal.lea (hK _ _)
  ·split
   ·exact Bal.lea (hK _ _)
   ·split
    ·exact Bal.qle (Bal.lea (hK _ _))
    ·split
     ·exact((Bal.refl s).put _).trans (lst _ _ _)
     ·split
      ·exact((Bal.refl s).put _).trans (lst _ _ _)
      ·split
       ·exact lst _ _ _
       ·unfold oPlain;split
        ·exact(Bal.refl s).put _
        ·split
         ·exact(Bal.refl s).put _
         ·split
          ·exact(Bal.refl s).put _
          ·split
           ·exact(Bal.refl s).put _
           ·split
            ·exact(Bal.refl s).put _
            ·exact hK _ _
theorem part_bal {k n:Int}{nm:List UInt8}{len:Nat}{set:Bool}{K:Sep->Ow->Ow}(hK:∀ g s,Bal s (K g s))(s:Ow):Bal s (oPart k n nm len set K s):=by
 unfold oPart;split
 ·exact node_bal hK s
 ·intro x hx;cases hx
theorem e_bal {k n:Int}{nm:List UInt8}{len asked:Nat}{set:Bool}{K:Sep->Ow->Ow}(hK:∀ g s,Bal s (K g s))(s:Ow):Bal s (oE k n nm len set asked K s):=by
 unfold oE;split
 ·exact(Bal.lea (((Bal.refl (entO s)).put _).trans (part_bal hK _))).put _
 ·exact part_bal hK s
theorem fs_bal:∀ (f:Fs) (b:Bool) (g:Sep) (i:Nat) (s:Ow),Bal s (oFs f b g i s)
 | ⟨none⟩,b,g,i,s=>Bal.refl s
 | ⟨some ⟨k,n,nm,a,ks,r⟩⟩,b,g,i,s=>(((Bal.refl s).put _).trans (e_bal (fun g s=>fs_bal ks (k==21) g 0 s) _)).trans (fs_bal r false g (i+1) _)
def oKid (e y:Ex)(i:Nat)(st:Ow):Ow:=oE y.k y.n y.nm y.kids.len (e.k==21&&decide (i=0)) (askO e.k i) (fun g s=>oFs y.kids (y.k==21) g 0 s) st
theorem oEx_bal (y:Ex)(b:Bool)(s:Ow):Bal s (oEx y b s):=part_bal (fun g s=>fs_bal _ _ _ _ _) s
theorem ask_le (k:Int)(i:Nat):(askO k i:Nat)<=8+i:=by
 unfold askO
 have:=row_le k
 split
 ·omega
 ·split
  ·omega
  ·split<;>omega
theorem kid_q {N:Nat}(IH:PartQ N)(e y:Ex)(x r:Fs)(hk:e.kids=x.app (Fs.ex y r))(i:Nat)(hi:x.len=i)(hi9:i<=1000000000)(hN:y.kids.size<N)(hy:y.fit)(ao:Option Addr)(cap wb:Nat)(st:Ow)(w:World)(o:Nat->Nat)(S:Sl w (L0 o) e.kids ao)(H:WQ w o wb st) :
  Calls Tryz.prog 232 #[.pointer (some ⟨wb,0,none⟩),exV e ao cap,.int .i64 (i:Nat)] w (PostO w o wb (oKid e y i st)):=by
 have hlen:i<e.kids.len:=by rw[hk,Fs.len_app,len_ex];omega
 obtain⟨b,off,ak,ck,rfl,x0,x1,x2,x3,x4,SK⟩:=Sl.kidP (x:=x) (y:=y) (r:=r) (by rw[hk] at S;exact S) i hi;have hbl:b<w.heap.size:=by
  rcases S with h|⟨b',off',zs,he,hp,hlt,hc,hf⟩
  ·rw[hk] at h;cases x using Fs.on with
   | nil=>cases h
   | cons _ _ _ _ _ _=>cases h
  ·injection he with he;injection he with he;subst he;exact hlt
 obtain⟨w0,hw0⟩:∃w0,w0=(w.alloc (bxX e (some ⟨b,off,none⟩) cap)).alloc (bxX y ak ck):=⟨_,rfl⟩
 obtain⟨o0,ho0⟩:∃o0,o0=newLab (w.alloc (bxX e (some ⟨b,off,none⟩) cap)) (newLab w o 0) 0:=⟨_,rfl⟩
 have s0:Step (fun _=>False) w o w0 o0:=by rw[hw0,ho0];exact(boxStep _ w o _).trans (boxStep _ _ _ _)
 have E0:w0.heap[w.heap.size]?=some (bxX e (some ⟨b,off,none⟩) cap):=by
  rw[hw0];exact(Below.heap_alloc _ _ _ (by simp)).trans (heap_alloc_new w _)
 have Y0:w0.heap[w.heap.size+1]?=some (bxX y ak ck):=by
  rw[hw0]
  have:=heap_alloc_new (w.alloc (bxX e (some ⟨b,off,none⟩) cap)) (bxX y ak ck)
  simpa using this
 have l0:o0 w.heap.size=0:=by rw[ho0,newLab_old (by simp),newLab_new (Nat.le_refl _)]
 have l1:o0 (w.heap.size+1)=0:=by rw[ho0,newLab_new (by simp)]
 have SK0:=SK.stp0 s0;have H0:=H.stp0 s0;have hiI:(i:Int)<(e.kids.len:Int):=by omega
 have hal:=ask_le e.k i;clear ho0 S SK H hk;rw[exV_out];go_enter Tryz.func232,Tryz.ntmps232;go_upto_region 2 with fail;rw[<-hw0];clear hw0 x0 x1 x2 x3 x4;generalize w.heap.size=be at *;obtain⟨p0,p1,p2,p3,p4,pf⟩:=box5 E0;obtain⟨y0,y1,y2,y3,y4,yf⟩:=box5 Y0;have hrw:IntKind.i64.wrap ((rowOf y.k:Nat):Int)=((rowOf y.k:Nat):Int):=by have:=row_le y.k;rw[IntKind.wrap_i64];omega
 go_quiet ((first|(go_at_call 245;exact Calls.quiet_of_same (row_q _ _))|(go_at_call 246;exact Calls.quiet_of_same (asked_q _ _ hi9 _))))
 have d1:=drewStep w0 o0 nq;have H1:=H0.stp0 d1;have SK1:=SK0.stp0 d1;have s1:=(s0.trans d1).i12;have E1:Blk (w0.drewN nq) o0 0 be (bxX e (some ⟨b,off,none⟩) cap):=⟨E0,l0⟩
 have Y1:Blk (w0.drewN nq) o0 0 (be+1) (bxX y ak ck):=⟨Y0,l1⟩
 clear H0 SK0 s0 d1 E0 Y0 l0 l1 p0 p1 p2 p3 p4 pf y0 y1 y2 y3 y4 yf;generalize w0.drewN nq=w1 at *;by_cases hrow:rowOf y.k<askO e.k i
 ·have hge:¬((askO e.k i:Nat):Int)<=((rowOf y.k:Nat):Int):=by omega
  have c2:=opens_o [40] H1 (by simp);have HF:Hid (oKid e y i st=putO [41] (leaO (oEx y false (putO [40] (entO st))))):=by show oE _ _ _ _ _ _ _ _=_;unfold oE;rw[if_pos hrow];rfl
  have hpos:∀ x,oEx y false (putO [40] (entO st))=some x->1<=x.o:=ent_pos (((Bal.refl (entO st)).put [40]).trans (oEx_bal y false _));generalize putO [40] (entO st)=st2 at *;clear H1 hrow;go_wp2_with fail;refine c2.mono ?_;rintro e2 w2 ⟨rfl,o2,H2,s2⟩;have SK2:=SK1.stp s2;have Y2:=Y1.stp s2;have s2':=s1.trans s2;clear c2 s1 s2 E1 Y1 SK1;obtain⟨y0,y1,y2,y3,y4,yf⟩:=box5 Y2.1;have c3:=IH y ak ck false wb st2 w2 o2 hN hy SK2 H2;rw[exV_out] at c3;generalize oEx y false st2=st3 at *;go_wp2_with fail;refine c3.mono ?_;rintro e2 w3 ⟨rfl,o3,H3,s3⟩;have s3':=s2'.trans s3;obtain⟨oo,d1,df,s4,H4⟩:=H3.lea hpos;have s4':=s3'.trans s4;generalize leaO st3=st4 at *;clear c3 s3 s3' s2' s4 H3 H2 SK2 Y2 y0 y1 y2 y3 y4 yf hpos;go_upto_region 7 with fail;generalize w3.setCell ⟨wb,1,none⟩ (.int .i64 (wrap64 (oo-1)))=w4 at *;clear d1 df;have c5:=puts_o [41] H4 (by simp);go_wp2_with fail;refine c5.mono ?_;rintro e2 w5 ⟨rfl,o5,H5,s5⟩;have s5':=s4'.trans s5;clear c5 s5 s4' H4;go_wp2
  go_end0
  exact⟨rfl,o5,by rw[HF.out];exact H5,s5'⟩
 ·have hge:((askO e.k i:Nat):Int)<=((rowOf y.k:Nat):Int):=by omega
  have HF:Hid (oKid e y i st=oEx y (e.k==21&&decide (i=0)) st):=by show oE _ _ _ _ _ _ _ _=_;unfold oE;rw[if_neg hrow];rfl
  clear hrow;obtain⟨p0,p1,p2,p3,p4,pf⟩:=box5 E1.1;obtain⟨y0,y1,y2,y3,y4,yf⟩:=box5 Y1.1;by_cases h21:e.k=21
  ·have b21:(e.k==21)=true:=by simp[h21]
   by_cases h0:i=0
   ·have b0:((i:Int)==0)=true:=by simp[h0]
    have hset:(e.k==21&&decide (i=0))=true:=by simp[h21,h0]
    rw[hset] at HF;have c2:=IH y ak ck true wb st w1 o0 hN hy SK1 H1;rw[exV_out] at c2;generalize oEx y true st=st3 at *;clear h21 h0 hset;go_wp2_with fail;refine c2.mono ?_;rintro e2 w2 ⟨rfl,o2,H2,s2⟩;have s2':=s1.trans s2;clear c2 s1 s2 H1 SK1 E1 Y1 p0 p1 p2 p3 p4 pf y0 y1 y2 y3 y4 yf;go_wp2
    (try simp only[Exit.inBlock,Exit.then])
    refine bodyPost_ret (results_none rfl _ _ _) rfl ?_;exact⟨rfl,o2,by rw[HF.out];exact H2,s2'⟩
   ·have b0:((i:Int)==0)=false:=by simp;omega
    have hset:(e.k==21&&decide (i=0))=false:=by simp[h0]
    rw[hset] at HF;have c2:=IH y ak ck false wb st w1 o0 hN hy SK1 H1;rw[exV_out] at c2;generalize oEx y false st=st3 at *;clear h21 h0 hset;go_wp2_with fail;refine c2.mono ?_;rintro e2 w2 ⟨rfl,o2,H2,s2⟩;have s2':=s1.trans s2;clear c2 s1 s2 H1 SK1 E1 Y1 p0 p1 p2 p3 p4 pf y0 y1 y2 y3 y4 yf;go_wp2
    (try simp only[Exit.inBlock,Exit.then])
    refine bodyPost_ret (results_none rfl _ _ _) rfl ?_;exact⟨rfl,o2,by rw[HF.out];exact H2,s2'⟩
  ·have b21:(e.k==21)=false:=bne h21;have hset:(e.k==21&&decide (i=0))=false:=by simp[h21]
   rw[hset] at HF;have c2:=IH y ak ck false wb st w1 o0 hN hy SK1 H1;rw[exV_out] at c2;generalize oEx y false st=st3 at *;clear h21 hset;go_wp2_with fail;refine c2.mono ?_;rintro e2 w2 ⟨rfl,o2,H2,s2⟩;have s2':=s1.trans s2;clear c2 s1 s2 H1 SK1 E1 Y1 p0 p1 p2 p3 p4 pf y0 y1 y2 y3 y4 yf;go_wp2
   (try simp only[Exit.inBlock,Exit.then])
   refine bodyPost_ret (results_none rfl _ _ _) rfl ?_;exact⟨rfl,o2,by rw[HF.out];exact H2,s2'⟩
end Go.Proofs.YtkhgahljbpmfaaaGreatDoor

import Derived.Test.YtjjhcbmhdkobkaaDoorCodM
import Derived.Lib.Hide
import Derived.Lib.LaidTab
set_option maxRecDepth 100000
set_option maxHeartbeats 8000000
namespace Go.Proofs.YtjjhcbmhdkobkaaDoor
open Go.ChangeShapes Go.WideShapes Go.ChangeAt Go.RowKit
set_option linter.unusedVariables false
def wd (k:Nat):ByteArray:=⟨(wordsL.getD k []).toArray⟩
def wordsA:Array Value:=#[.string (wd 0),.string (wd 1),.string (wd 2),.string (wd 3),.string (wd 4),.string (wd 5),.string (wd 6),.string (wd 7),.string (wd 8),.string (wd 9),.string (wd 10),.string (wd 11),.string (wd 12),.string (wd 13),.string (wd 14),.string (wd 15),.string (wd 16),.string (wd 17),.string (wd 18),.string (wd 19),.string (wd 20),.string (wd 21),.string (wd 22),.string (wd 23),.string (wd 24),.string (wd 25),.string (wd 26)]
theorem wix0 (w:World):(Instr.index 97 (.agg wordsA) (.int .i64 0)).run Tryd.prog w=.ok (.string (wd 0)) w:=by kernel_rfl
theorem wix1 (w:World):(Instr.index 97 (.agg wordsA) (.int .i64 1)).run Tryd.prog w=.ok (.string (wd 1)) w:=by kernel_rfl
theorem wix2 (w:World):(Instr.index 97 (.agg wordsA) (.int .i64 2)).run Tryd.prog w=.ok (.string (wd 2)) w:=by kernel_rfl
theorem wix3 (w:World):(Instr.index 97 (.agg wordsA) (.int .i64 3)).run Tryd.prog w=.ok (.string (wd 3)) w:=by kernel_rfl
theorem wix4 (w:World):(Instr.index 97 (.agg wordsA) (.int .i64 4)).run Tryd.prog w=.ok (.string (wd 4)) w:=by kernel_rfl
theorem wix5 (w:World):(Instr.index 97 (.agg wordsA) (.int .i64 5)).run Tryd.prog w=.ok (.string (wd 5)) w:=by kernel_rfl
theorem wix6 (w:World):(Instr.index 97 (.agg wordsA) (.int .i64 6)).run Tryd.prog w=.ok (.string (wd 6)) w:=by kernel_rfl
theorem wix7 (w:World):(Instr.index 97 (.agg wordsA) (.int .i64 7)).run Tryd.prog w=.ok (.string (wd 7)) w:=by kernel_rfl
theorem wix8 (w:World):(Instr.index 97 (.agg wordsA) (.int .i64 8)).run Tryd.prog w=.ok (.string (wd 8)) w:=by kernel_rfl
theorem wix9 (w:World):(Instr.index 97 (.agg wordsA) (.int .i64 9)).run Tryd.prog w=.ok (.string (wd 9)) w:=by kernel_rfl
theorem wix10 (w:World):(Instr.index 97 (.agg wordsA) (.int .i64 10)).run Tryd.prog w=.ok (.string (wd 10)) w:=by kernel_rfl
theorem wix11 (w:World):(Instr.index 97 (.agg wordsA) (.int .i64 11)).run Tryd.prog w=.ok (.string (wd 11)) w:=by kernel_rfl
theorem wix12 (w:World):(Instr.index 97 (.agg wordsA) (.int .i64 12)).run Tryd.prog w=.ok (.string (wd 12)) w:=by kernel_rfl
theorem wix13 (w:World):(Instr.index 97 (.agg wordsA) (.int .i64 13)).run Tryd.prog w=.ok (.string (wd 13)) w:=by kernel_rfl
theorem wix14 (w:World):(Instr.index 97 (.agg wordsA) (.int .i64 14)).run Tryd.prog w=.ok (.string (wd 14)) w:=by kernel_rfl
theorem wix15 (w:World):(Instr.index 97 (.agg wordsA) (.int .i64 15)).run Tryd.prog w=.ok (.string (wd 15)) w:=by kernel_rfl
theorem wix16 (w:World):(Instr.index 97 (.agg wordsA) (.int .i64 16)).run Tryd.prog w=.ok (.string (wd 16)) w:=by kernel_rfl
theorem wix17 (w:World):(Instr.index 97 (.agg wordsA) (.int .i64 17)).run Tryd.prog w=.ok (.string (wd 17)) w:=by kernel_rfl
theorem wix18 (w:World):(Instr.index 97 (.agg wordsA) (.int .i64 18)).run Tryd.prog w=.ok (.string (wd 18)) w:=by kernel_rfl
theorem wix19 (w:World):(Instr.index 97 (.agg wordsA) (.int .i64 19)).run Tryd.prog w=.ok (.string (wd 19)) w:=by kernel_rfl
theorem wix20 (w:World):(Instr.index 97 (.agg wordsA) (.int .i64 20)).run Tryd.prog w=.ok (.string (wd 20)) w:=by kernel_rfl
theorem wix21 (w:World):(Instr.index 97 (.agg wordsA) (.int .i64 21)).run Tryd.prog w=.ok (.string (wd 21)) w:=by kernel_rfl
theorem wix22 (w:World):(Instr.index 97 (.agg wordsA) (.int .i64 22)).run Tryd.prog w=.ok (.string (wd 22)) w:=by kernel_rfl
theorem wix23 (w:World):(Instr.index 97 (.agg wordsA) (.int .i64 23)).run Tryd.prog w=.ok (.string (wd 23)) w:=by kernel_rfl
theorem wix24 (w:World):(Instr.index 97 (.agg wordsA) (.int .i64 24)).run Tryd.prog w=.ok (.string (wd 24)) w:=by kernel_rfl
theorem wix25 (w:World):(Instr.index 97 (.agg wordsA) (.int .i64 25)).run Tryd.prog w=.ok (.string (wd 25)) w:=by kernel_rfl
theorem wix26 (w:World):(Instr.index 97 (.agg wordsA) (.int .i64 26)).run Tryd.prog w=.ok (.string (wd 26)) w:=by kernel_rfl
theorem wordsA_at (k:Nat)(hk:k<27)(w:World):(Instr.index 97 (.agg wordsA) (.int .i64 (k:Nat))).run Tryd.prog w=.ok (.string (wd k)) w:=by
 match k,hk with
 | 0,_=>exact wix0 w
 | 1,_=>exact wix1 w
 | 2,_=>exact wix2 w
 | 3,_=>exact wix3 w
 | 4,_=>exact wix4 w
 | 5,_=>exact wix5 w
 | 6,_=>exact wix6 w
 | 7,_=>exact wix7 w
 | 8,_=>exact wix8 w
 | 9,_=>exact wix9 w
 | 10,_=>exact wix10 w
 | 11,_=>exact wix11 w
 | 12,_=>exact wix12 w
 | 13,_=>exact wix13 w
 | 14,_=>exact wix14 w
 | 15,_=>exact wix15 w
 | 16,_=>exact wix16 w
 | 17,_=>exact wix17 w
 | 18,_=>exact wix18 w
 | 19,_=>exact wix19 w
 | 20,_=>exact wix20 w
 | 21,_=>exact wix21 w
 | 22,_=>exact wix22 w
 | 23,_=>exact wix23 w
 | 24,_=>exact wix24 w
 | 25,_=>exact wix25 w
 | 26,_=>exact wix26 w
 | n+27,h=>omega
def Wd (w:World):Prop:=∃t fr,w.heap[1]?=some (.cells wordsA t fr)
theorem Wd.lt {w:World}(h:Wd w):1<w.heap.size:=by
 obtain⟨t,fr,h⟩:=h;exact lt_of_block h
theorem Wd.below {w w':World}(h:Wd w)(b:Below w.heap.size w w'):Wd w':=by
 have hl:=h.lt;obtain⟨t,fr,h⟩:=h;exact⟨t,fr,(b.block _ hl).trans h⟩
theorem wordB_yes {t:List UInt8}(k:Nat)(hk:k<27)(h:t=wordsL.getD k []):wordB t=true:=by
 subst h;have hl:wordsL.length=27:=rfl;unfold wordB;rw[List.contains_iff_mem];simp only[List.getD,List.getElem?_eq_getElem (by omega:k<wordsL.length),Option.getD_some];exact List.getElem_mem _
theorem wordB_no {t:List UInt8}(h:∀ k,k<27->¬t=wordsL.getD k []):wordB t=false:=by
 rw[<-Bool.not_eq_true];unfold wordB;rw[List.contains_iff_mem,List.mem_iff_getElem];rintro ⟨k,hk,e⟩;have hl:wordsL.length=27:=rfl;refine h k (by omega) ?_;simp only[List.getD,List.getElem?_eq_getElem hk,Option.getD_some];exact e.symm
theorem wordsInfo:(Tryd.prog.info? 97).map (·.size)=some wordsA.size:=by kernel_rfl
theorem word_c (s:ByteArray)(w:World)(hW:Wd w)(hs:s.size<=maxLen) :
  Calls Tryd.prog 70 #[.string s] w fun e w'=>e=.returned (.bool (wordB s.data.toList))/\w'=w:=by
 obtain⟨tt,fr,hg⟩:=hW;have IX:Hid (∀ k:Nat,k<27->(Instr.index 97 (.agg wordsA) (.int .i64 (k:Nat))).run Tryd.prog w=.ok (.string (wd k)) w):=fun k hk=>wordsA_at k hk w;have hsz:=wordsInfo;generalize wordsA=cs at *;go_enter Tryd.func70,Tryd.ntmps70;go_wp2_with (refine wpList_load_row rfl 97 _ rfl 1 rfl tt _ fr _ hg Tryd.underlying97 rfl hsz ?_);go_loopw [6] (fun v wr=>∃k:Nat,k<=27/\v=.int .i64 (k:Nat)/\(∀ j,j<k->s≠wd j)/\wr=w) (fun v _=>27-(intOf v).toNat)
 case atStart=>exact⟨0,by omega,by go_num,fun j hj=>by omega,rfl⟩
 case round =>
  obtain⟨k,hk,rfl,hin,rfl⟩:=hrel;by_cases hlt:k<27
  ·have ix:=IX.out k hlt;have hkI:(k:Int)<27:=by omega
   by_cases he:s=wd k
   ·have fin:wordB s.data.toList=true:=wordB_yes k hlt (by rw[he];rfl);rw[<-he] at ix;clear he IX;go_wp2;go_ret;exact⟨by rw[fin];rfl,rfl⟩
   ·have hin':∀ j,j<k+1->s≠wd j:=fun j hj=>by
     by_cases e:j=k
     ·subst e;exact he
     ·exact hin j (by omega)
    have heb:=str_ne he;generalize wd k=t at ix he heb;clear IX hin;go_wp2;go_roundw
    case rel=>(try ((repeat apply Exists.intro);refine⟨?_,rfl⟩));exact⟨k+1,by omega,by go_num,hin',by trivial⟩
    case measure=>simp[intOf];omega
  ·obtain rfl:k=27:=by omega
   clear IX;have fin:wordB s.data.toList=false:=wordB_no fun j hj e=>hin j hj (bytes_eq.1 (by rw[e];rfl));go_wp2;go_ret;exact⟨by rw[fin];rfl,rfl⟩
def nmc (j:Nat)(c:UInt8):Bool:=sml c.toNat||(j != 0&&(dig c.toNat||c.toNat==95))
theorem nameB_iff (l:List UInt8):nameB l=true ↔ 0<l.length/\l.length<=12/\(∀ j (h:j<l.length),nmc j l[j]=true)/\wordB l=false:=by
 cases l with
 | nil=>simp[nameB]
 | cons c r =>
  simp only[nameB,Bool.and_eq_true,decide_eq_true_eq,List.all_eq_true,Bool.not_eq_true',List.length_cons];constructor
  ·rintro ⟨⟨⟨h1,h2⟩,h3⟩,h4⟩;refine⟨by omega,by omega,fun j h=>?_,h4⟩;cases j with
   | zero=>simp[nmc,h2]
   | succ j =>
    have:=h3 (r[j]'(by omega)) (List.getElem_mem _)
    simp only[inn] at this;simp[nmc];simpa [Bool.or_eq_true,or_assoc] using this
  ·rintro ⟨h1,h2,h3,h4⟩;refine⟨⟨⟨by omega,?_⟩,fun x hx=>?_⟩,h4⟩
   ·have:=h3 0 (by omega)
    simpa [nmc] using this
   ·obtain⟨j,hj,rfl⟩:=List.mem_iff_getElem.1 hx
    have:=h3 (j+1) (by omega)
    simp only[nmc,List.getElem_cons_succ] at this;simp only[inn];simpa [Bool.or_eq_true,or_assoc] using this
theorem nameB_not {l:List UInt8}(j:Nat)(h:j<l.length)(hn:nmc j l[j]=false):nameB l=false:=by
 rw[<-Bool.not_eq_true,nameB_iff];rintro ⟨_,_,h3,_⟩
 have:=h3 j h
 rw[hn] at this;cases this
theorem nmc_high (j:Nat)(c:UInt8)(h:128<=c.toNat):nmc j c=false:=by
 simp[nmc,sml,dig];omega
theorem data_get (s:ByteArray)(j:Nat)(h:j<s.size)(h':j<s.data.toList.length):s.data.toList[j]=s[j]:=by
 rw[Array.getElem_toList];rfl
theorem data_len (s:ByteArray):s.data.toList.length=s.size:=Array.length_toList
theorem name_c (s:ByteArray)(w:World)(hW:Wd w)(hs:s.size<=maxLen) :
  Calls Tryd.prog 39 #[.string s] w fun e w'=>e=.returned (.bool (nameB s.data.toList))/\Below w.heap.size w w':=by
 have hs':=hs;unfold maxLen at hs;have hln:=data_len s;by_cases h0:s.size=0
 ·have e0:s=⟨#[]⟩:=by
   apply ByteArray.ext;exact Array.eq_empty_of_size_eq_zero h0
  subst e0;have fin:nameB (⟨#[]⟩:ByteArray).data.toList=false:=rfl;rw[fin];clear fin h0 hln;go_enter Tryd.func39,Tryd.ntmps39;go_wp2;go_ret;exact⟨rfl,b0 _⟩
 ·by_cases h12:12<s.size
  ·have fin:nameB s.data.toList=false:=by rw[<-Bool.not_eq_true,nameB_iff];rintro ⟨_,h,_⟩;omega
   rw[fin];clear fin hln;have hne:=str_full h0;have h12I:(12:Int)<(s.size:Int):=by omega
   go_enter Tryd.func39,Tryd.ntmps39;go_wp2;go_ret;exact⟨by simp,b0 _⟩
  ·have hne:=str_full h0;have h12I:¬(12:Int)<(s.size:Int):=by omega
   have HL:Hid (s.data.toList.length=s.size):=hln;clear hln;go_enter Tryd.func39,Tryd.ntmps39;go_wp2;go_loopw [3] (fun _ wr=>∃pos:Nat,wr.heap[w.heap.size]?=some (.stringIter s pos)/\pos<=s.size/\(∀ j (h:j<s.data.toList.length),j<pos->nmc j s.data.toList[j]=true)/\Below w.heap.size w wr) (fun _ wr=>s.size-wr.iterPos w.heap.size)
   case atStart=>exact⟨0,World.iter_heap w s 0,by omega,fun j _ h=>by omega,b1 _ _⟩
   case round =>
    obtain⟨pos,hit,hps,hin,hbw⟩:=hrel;by_cases hp:pos<s.size
    ·have hpl:pos<s.data.toList.length:=by have:=HL.out;omega
     by_cases ha:(s[pos]'hp).toNat<128
     ·have hnx:∀ ty,(Instr.next (.pointer (some ⟨w.heap.size,0,none⟩)) true ty).run Tryd.prog wr=_:=fun ty=>Lib.run_next_ascii_at wr w.heap.size s pos ty hit hp ha;have hit2:=Lib.iterAt_heap wr w.heap.size s pos (pos+1) hit;have hbw2:=Lib.below_iterAt hbw (k:=w.heap.size) (by omega) s (pos+1);have hex:nmc pos s.data.toList[pos]=nmc pos s[pos]:=by rw[data_get s pos hp hpl]
      have hgo:nmc pos s[pos]=true->∀ j (h:j<s.data.toList.length),j<pos+1->nmc j s.data.toList[j]=true:=fun hx j h hj=>by
       by_cases e:j=pos
       ·subst e;rw[hex];exact hx
       ·exact hin j h (by omega)
      have hno:nmc pos s[pos]=false->nameB s.data.toList=false:=fun hx=>nameB_not pos hpl (by rw[hex];exact hx);have hme:s.size-(wr.iterAt w.heap.size s (pos+1)).iterPos w.heap.size<s.size-wr.iterPos w.heap.size:=by
       simp only[World.iterPos,hit2,hit];omega
      clear hit hbw hin hex;have hwz:w.heap.size=w.heap.size:=rfl;generalize wr.iterAt w.heap.size s (pos+1)=w2 at *;have hnm:nmc pos s[pos]=(sml (s[pos]).toNat||(pos != 0&&(dig (s[pos]).toNat||(s[pos]).toNat==95))):=rfl;rw[hnm] at hgo hno;clear hnm;generalize hrn:(s[pos]'hp).toNat=r at *;have hr:r<=2147483647:=by omega
      clear hrn;have HG:Hid (((sml r||(pos != 0&&(dig r||r==95)))=true->∀ j (h:j<s.data.toList.length),j<pos+1->nmc j s.data.toList[j]=true)/\((sml r||(pos != 0&&(dig r||r==95)))=false->nameB s.data.toList=false)):=⟨hgo,hno⟩
      clear hgo hno;cases h1:sml r
      ·by_cases hz:pos=0
       ·have fin:nameB s.data.toList=false:=HG.out.2 (by simp[h1,hz]);subst hz;clear HG hme;go_wp2_with (go_at_call 68;refine(sml_c r _ hr).mono ?_;rw[h1];rintro e w1 ⟨rfl,rfl⟩);go_ret;exact⟨by rw[fin];rfl,hbw2⟩
       ·have hz':¬(pos:Int)=0:=by omega
        cases h2:dig r
        ·by_cases h3:r=95
         ·have RL:=HG.out.1 (by simp[h3,hz]);clear HG;subst h3;go_wp2_with (first|(go_at_call 68;refine(sml_c 95 _ hr).mono ?_;rw[h1];rintro e w1 ⟨rfl,rfl⟩)|(go_at_call 69;refine(dig_c 95 _ hr).mono ?_;rw[h2];rintro e w1 ⟨rfl,rfl⟩));go_roundw
          case rel=>(try ((repeat apply Exists.intro);refine⟨?_,rfl⟩));exact⟨pos+1,hit2,by omega,RL,hbw2⟩
          case measure=>exact hme
         ·have fin:nameB s.data.toList=false:=HG.out.2 (by simp[h1,h2,h3]);have h3':¬(r:Int)=95:=by omega
          have h3b:((r:Int) != 95)=true:=by simpa using h3'
          clear HG hme;go_wp2_with (first|(go_at_call 68;refine(sml_c r _ hr).mono ?_;rw[h1];rintro e w1 ⟨rfl,rfl⟩)|(go_at_call 69;refine(dig_c r _ hr).mono ?_;rw[h2];rintro e w1 ⟨rfl,rfl⟩));go_ret;exact⟨by rw[fin];rfl,hbw2⟩
        ·have RL:=HG.out.1 (by simp[h2,hz]);clear HG;go_wp2_with (first|(go_at_call 68;refine(sml_c r _ hr).mono ?_;rw[h1];rintro e w1 ⟨rfl,rfl⟩)|(go_at_call 69;refine(dig_c r _ hr).mono ?_;rw[h2];rintro e w1 ⟨rfl,rfl⟩));go_roundw
         case rel=>(try ((repeat apply Exists.intro);refine⟨?_,rfl⟩));exact⟨pos+1,hit2,by omega,RL,hbw2⟩
         case measure=>exact hme
      ·have RL:=HG.out.1 (by simp[h1]);clear HG;go_wp2_with (go_at_call 68;refine(sml_c r _ hr).mono ?_;rw[h1];rintro e w1 ⟨rfl,rfl⟩);go_roundw
       case rel=>(try ((repeat apply Exists.intro);refine⟨?_,rfl⟩));exact⟨pos+1,hit2,by omega,RL,hbw2⟩
       case measure=>exact hme
     ·have fin:nameB s.data.toList=false:=nameB_not pos hpl (by rw[data_get s pos hp hpl];exact nmc_high _ _ (by omega));have hnx:∀ ty,(Instr.next (.pointer (some ⟨w.heap.size,0,none⟩)) true ty).run Tryd.prog wr=_:=fun ty=>Lib.run_next_any_at wr w.heap.size s pos ty hit hp;have hbw2:=Lib.below_iterAt hbw (k:=w.heap.size) (by omega) s (pos+(Utf8.decode s pos).2);have hr:=decode_le s pos;have hr2:=(decode_high s pos hp (by omega)).1;generalize wr.iterAt w.heap.size s (pos+(Utf8.decode s pos).2)=w2 at *;generalize (Utf8.decode s pos).1=r at *;have h1:sml r=false:=by simp[sml];omega
      have h2:dig r=false:=by simp[dig];omega
      have h3':¬(r:Int)=95:=by omega
      have h3b:((r:Int) != 95)=true:=by simpa using h3'
      clear hit hbw hin ha;by_cases hz:pos=0
      ·subst hz;go_wp2_with (go_at_call 68;refine(sml_c r _ hr).mono ?_;rw[h1];rintro e w1 ⟨rfl,rfl⟩);go_ret;exact⟨by rw[fin];rfl,hbw2⟩
      ·have hz':¬(pos:Int)=0:=by omega
       go_wp2_with (first|(go_at_call 68;refine(sml_c r _ hr).mono ?_;rw[h1];rintro e w1 ⟨rfl,rfl⟩)|(go_at_call 69;refine(dig_c r _ hr).mono ?_;rw[h2];rintro e w1 ⟨rfl,rfl⟩));go_ret;exact⟨by rw[fin];rfl,hbw2⟩
    ·have hnx:∀ ty,(Instr.next (.pointer (some ⟨w.heap.size,0,none⟩)) true ty).run Tryd.prog wr=_:=fun ty=>Lib.run_next_end_at wr w.heap.size s pos ty hit hp;have hW2:=hW.below hbw;have fin:nameB s.data.toList=!wordB s.data.toList:=by
      have hl:=HL.out;cases hw:wordB s.data.toList
      ·exact(nameB_iff _).2 ⟨by omega,by omega,fun j h=>hin j h (by omega),hw⟩
      ·show _=false;rw[<-Bool.not_eq_true,nameB_iff];rintro ⟨_,_,_,h⟩;rw[hw] at h;cases h
     clear hin hit;go_wp2_with (go_at_call 70;refine(word_c s _ hW2 hs').mono ?_;rintro e w1 ⟨rfl,rfl⟩);go_ret;exact⟨by rw[fin];rfl,hbw⟩
theorem dig_r (r:Nat)(w:World)(hr:r<256) :
  Calls Tryd.prog 54 #[.int .u8 (r:Nat)] w fun e w'=>e=.returned (.bool (dig r))/\w'=w:=by
 by_cases h1:48<=r
 ·have g1:(48:Int)<=(r:Int):=by omega
  by_cases h2:r<=57
  ·have g2:(r:Int)<=57:=by omega
   have e0:dig r=true:=by simp[dig,h1,h2]
   rw[e0];clear e0;go_enter Tryd.func54,Tryd.ntmps54;go_wp2;go_ret;exact⟨rfl,rfl⟩
  ·have g2:¬(r:Int)<=57:=by omega
   have g3:decide ((r:Int)<=57)=false:=decide_eq_false g2;have e0:dig r=false:=by simp[dig];omega
   rw[e0];clear e0;go_enter Tryd.func54,Tryd.ntmps54;go_wp2;go_ret;exact⟨rfl,rfl⟩
 ·have g1:¬(48:Int)<=(r:Int):=by omega
  have e0:dig r=false:=by simp[dig];omega
  rw[e0];clear e0;go_enter Tryd.func54,Tryd.ntmps54;go_wp2;go_ret;exact⟨rfl,rfl⟩
theorem sml_r (r:Nat)(w:World)(hr:r<256) :
  Calls Tryd.prog 53 #[.int .u8 (r:Nat)] w fun e w'=>e=.returned (.bool (sml r))/\w'=w:=by
 by_cases h1:97<=r
 ·have g1:(97:Int)<=(r:Int):=by omega
  by_cases h2:r<=122
  ·have g2:(r:Int)<=122:=by omega
   have e0:sml r=true:=by simp[sml,h1,h2]
   rw[e0];clear e0;go_enter Tryd.func53,Tryd.ntmps53;go_wp2;go_ret;exact⟨rfl,rfl⟩
  ·have g2:¬(r:Int)<=122:=by omega
   have g3:decide ((r:Int)<=122)=false:=decide_eq_false g2;have e0:sml r=false:=by simp[sml];omega
   rw[e0];clear e0;go_enter Tryd.func53,Tryd.ntmps53;go_wp2;go_ret;exact⟨rfl,rfl⟩
 ·have g1:¬(97:Int)<=(r:Int):=by omega
  have e0:sml r=false:=by simp[sml];omega
  rw[e0];clear e0;go_enter Tryd.func53,Tryd.ntmps53;go_wp2;go_ret;exact⟨rfl,rfl⟩
abbrev wordsV:Array Value:=#[.string ⟨#[97,108,108]⟩,.string ⟨#[97,110,100]⟩,.string ⟨#[97,114,111,117,110,100]⟩,.string ⟨#[98,108,111,99,107]⟩,.string ⟨#[98,111,116,116,108,101,110,101,99,107]⟩,.string ⟨#[99,111,110,110,101,99,116,101,100]⟩,.string ⟨#[99,111,117,110,116]⟩,.string ⟨#[100,101,103,114,101,101]⟩,.string ⟨#[101,108,115,101]⟩,.string ⟨#[102,97,108,115,101]⟩,.string ⟨#[105,102]⟩,.string ⟨#[105,110]⟩,.string ⟨#[108,101,97,115,116]⟩,.string ⟨#[109,97,120]⟩,.string ⟨#[109,105,110]⟩,.string ⟨#[109,111,115,116]⟩,.string ⟨#[110,111,116]⟩,.string ⟨#[111,114]⟩,.string ⟨#[114,101,112]⟩,.string ⟨#[115,105,122,101]⟩,.string ⟨#[115,111,109,101]⟩,.string ⟨#[115,117,109]⟩,.string ⟨#[116,104,101,110]⟩,.string ⟨#[116,111,116,97,108]⟩,.string ⟨#[116,114,117,101]⟩,.string ⟨#[118,97,108,117,101]⟩,.string ⟨#[118,101,114,116,105,99,101,115]⟩]
theorem wordsV_at (k:Nat)(hk:k<27):wordsV[k]?=some (.string (wd k)):=by
 match k,hk with
 | 0,_=>rfl
 | 1,_=>rfl
 | 2,_=>rfl
 | 3,_=>rfl
 | 4,_=>rfl
 | 5,_=>rfl
 | 6,_=>rfl
 | 7,_=>rfl
 | 8,_=>rfl
 | 9,_=>rfl
 | 10,_=>rfl
 | 11,_=>rfl
 | 12,_=>rfl
 | 13,_=>rfl
 | 14,_=>rfl
 | 15,_=>rfl
 | 16,_=>rfl
 | 17,_=>rfl
 | 18,_=>rfl
 | 19,_=>rfl
 | 20,_=>rfl
 | 21,_=>rfl
 | 22,_=>rfl
 | 23,_=>rfl
 | 24,_=>rfl
 | 25,_=>rfl
 | 26,_=>rfl
 | n+27,h=>omega
theorem word_r (s:ByteArray)(w:World)(hs:s.size<=maxLen) :
  Calls Tryd.prog 55 #[.string s] w fun e w'=>e=.returned (.bool (wordB s.data.toList))/\Below w.heap.size w w':=by
 obtain⟨w1,hw1⟩:∃w1,w1=w.alloc (.cells wordsV 9):=⟨_,rfl⟩
 have hce:∀ k,k<27->w1.cell? ⟨w.heap.size,k,none⟩=some (.string (wd k)):=fun k hk=>by
  rw[hw1,cell_of_row _ _ _ _ _ _ (heap_alloc_new w _),wordsV_at k hk]
 have hbe:Below w.heap.size w w1:=by rw[hw1];exact b1 _ _
 have HW:Hid (w1=w.alloc (.cells wordsV 9)):=hw1;have HC:=Lib.hid hce;clear hw1 hce;go_enter Tryd.func55,Tryd.ntmps55;go_upto_region 2 with fail;rw[show w.alloc _=w1 from HW.out.symm];clear HW;go_wp2_with fail;go_loopw [4] (fun v wr=>∃k:Nat,k<=27/\v=.int .i64 (k:Nat)/\(∀ j,j<k->s≠wd j)/\wr=w1) (fun v _=>27-(intOf v).toNat)
 case atStart=>exact⟨0,by omega,by go_num,fun j hj=>by omega,rfl⟩
 case round =>
  obtain⟨k,hk,rfl,hin,rfl⟩:=hrel;by_cases hlt:k<27
  ·have ix:=HC.out k hlt;have hkI:(k:Int)<27:=by omega
   by_cases he:s=wd k
   ·have fin:wordB s.data.toList=true:=wordB_yes k hlt (by rw[he];rfl);rw[<-he] at ix;clear he HC hin;go_wp2;go_ret;exact⟨by rw[fin];rfl,hbe⟩
   ·have hin':∀ j,j<k+1->s≠wd j:=fun j hj=>by
     by_cases e:j=k
     ·subst e;exact he
     ·exact hin j (by omega)
    have heb:((wd k).toList==s.toList)=false:=str_ne (fun e=>he e.symm);generalize wd k=t at ix he heb;clear HC hin;go_wp2;go_roundw
    case rel=>(try ((repeat apply Exists.intro);refine⟨?_,rfl⟩));exact⟨k+1,by omega,by go_num,hin',by trivial⟩
    case measure=>simp[intOf];omega
  ·obtain rfl:k=27:=by omega
   clear HC;have fin:wordB s.data.toList=false:=wordB_no fun j hj e=>hin j hj (bytes_eq.1 (by rw[e];rfl));go_wp2;go_ret;exact⟨by rw[fin];rfl,hbe⟩
theorem name_r (s:ByteArray)(w:World)(hs:s.size<=maxLen) :
  Calls Tryd.prog 31 #[.string s] w fun e w'=>e=.returned (.bool (nameB s.data.toList))/\Below w.heap.size w w':=by
 have hs':=hs;unfold maxLen at hs;have HL:Hid (s.data.toList.length=s.size):=data_len s;by_cases h0:s.size<1
 ·have fin:nameB s.data.toList=false:=by rw[<-Bool.not_eq_true,nameB_iff];rintro ⟨h,_⟩;have:=HL.out;omega
  rw[fin];clear fin;have h0I:(s.size:Int)<1:=by omega
  go_enter Tryd.func31,Tryd.ntmps31;go_wp2;go_ret;exact⟨rfl,b0 _⟩
 ·have h0I:¬(s.size:Int)<1:=by omega
  by_cases h12:12<s.size
  ·have fin:nameB s.data.toList=false:=by rw[<-Bool.not_eq_true,nameB_iff];rintro ⟨_,h,_⟩;have:=HL.out;omega
   rw[fin];clear fin;have h12I:(12:Int)<(s.size:Int):=by omega
   go_enter Tryd.func31,Tryd.ntmps31;go_wp2;go_ret;exact⟨rfl,b0 _⟩
  ·have h12I:¬(12:Int)<(s.size:Int):=by omega
   have hpos:0<s.size:=by omega
   have hpl:0<s.data.toList.length:=by have:=HL.out;omega
   have hb0:(s[0]'hpos).toNat<256:=UInt8.toNat_lt _;cases h1:sml (s[0]'hpos).toNat
   ·have fin:nameB s.data.toList=false:=nameB_not 0 hpl (by rw[data_get s 0 hpos hpl];simp[nmc,h1]);rw[fin];clear fin;go_enter Tryd.func31,Tryd.ntmps31;go_wp2_with (go_at_call 53;refine(sml_r _ _ hb0).mono ?_;rw[h1];rintro e w1 ⟨rfl,rfl⟩);go_ret;exact⟨rfl,b0 _⟩
   ·have H0:Hid (nmc 0 s[0]=true):=by show _=_;simp[nmc,h1]
    go_enter Tryd.func31,Tryd.ntmps31;go_wp2_with (go_at_call 53;refine(sml_r _ _ hb0).mono ?_;rw[h1];rintro e w1 ⟨rfl,rfl⟩);go_loopw [3] (fun v wr=>∃k:Nat,v=.int .i64 (k:Nat)/\k<=s.size/\(∀ j (h:j<s.data.toList.length),j<k->nmc j s.data.toList[j]=true)/\wr=w1) (fun v _=>s.size-(intOf v).toNat)
    case atStart=>exact⟨0,by go_num,by omega,fun j _ h=>by omega,rfl⟩
    case round =>
     obtain⟨k,rfl,hk,hin,rfl⟩:=hrel;by_cases hlt:k<s.size
     ·have hkl:k<s.data.toList.length:=by have:=HL.out;omega
      have hkI:(k:Int)<(s.size:Int):=by omega
      have hbk:(s[k]'hlt).toNat<256:=UInt8.toNat_lt _;have hex:nmc k s.data.toList[k]=nmc k s[k]:=by rw[data_get s k hlt hkl]
      have hcase:nmc k s[k]=(sml (s[k]).toNat||dig (s[k]).toNat||(s[k]).toNat==95):=by
       by_cases hk0:k=0
       ·subst hk0;rw[H0.out,h1];rfl
       ·have hb:(k != 0)=true:=by simpa using hk0
        simp[nmc,hb,Bool.or_assoc]
      have hgo:(sml (s[k]).toNat||dig (s[k]).toNat||(s[k]).toNat==95)=true->∀ j (h:j<s.data.toList.length),j<k+1->nmc j s.data.toList[j]=true:=fun hx j h hj=>by
       by_cases e:j=k
       ·subst e;rw[hex,hcase];exact hx
       ·exact hin j h (by omega)
      have hno:(sml (s[k]).toNat||dig (s[k]).toNat||(s[k]).toNat==95)=false->nameB s.data.toList=false:=fun hx=>nameB_not k hkl (by rw[hex,hcase];exact hx);have HG:Hid (((sml (s[k]).toNat||dig (s[k]).toNat||(s[k]).toNat==95)=true->∀ j (h:j<s.data.toList.length),j<k+1->nmc j s.data.toList[j]=true)/\((sml (s[k]).toNat||dig (s[k]).toNat||(s[k]).toNat==95)=false->nameB s.data.toList=false)):=⟨hgo,hno⟩
      clear hex hcase hgo hno hin;cases h2:sml (s[k]'hlt).toNat
      ·cases h3:dig (s[k]'hlt).toNat
       ·by_cases h4:(s[k]'hlt).toNat=95
        ·have RL:=HG.out.1 (by simp[h4]);have H4:=Lib.hid h4;clear HG h4;go_wp2_with (first|(go_at_call 53;refine(sml_r _ _ hbk).mono ?_;rw[h2];rintro e w1 ⟨rfl,rfl⟩)|(go_at_call 54;refine(dig_r _ _ hbk).mono ?_;rw[h3];rintro e w1 ⟨rfl,rfl⟩;have h4:=H4.out;clear h2 h3 hbk));go_roundw
         case rel=>(try ((repeat apply Exists.intro);refine⟨?_,rfl⟩));exact⟨k+1,by go_num,by omega,RL,by trivial⟩
         case measure=>simp[intOf];omega
        ·have fin:nameB s.data.toList=false:=HG.out.2 (by simp[h2,h3,h4]);have h4I:¬((s[k]'hlt).toNat:Int)=95:=by omega
         have h4b:(((s[k]'hlt).toNat:Int)==95)=false:=by simpa using h4I
         clear HG h4;go_wp2_with (first|(go_at_call 53;refine(sml_r _ _ hbk).mono ?_;rw[h2];rintro e w1 ⟨rfl,rfl⟩)|(go_at_call 54;refine(dig_r _ _ hbk).mono ?_;rw[h3];rintro e w1 ⟨rfl,rfl⟩));go_ret;exact⟨by rw[fin];rfl,b0 _⟩
       ·have RL:=HG.out.1 (by simp[h3]);clear HG;go_wp2_with (first|(go_at_call 53;refine(sml_r _ _ hbk).mono ?_;rw[h2];rintro e w1 ⟨rfl,rfl⟩)|(go_at_call 54;refine(dig_r _ _ hbk).mono ?_;rw[h3];rintro e w1 ⟨rfl,rfl⟩));go_roundw
        case rel=>(try ((repeat apply Exists.intro);refine⟨?_,rfl⟩));exact⟨k+1,by go_num,by omega,RL,by trivial⟩
        case measure=>simp[intOf];omega
      ·have RL:=HG.out.1 (by simp[h2]);clear HG;go_wp2_with (go_at_call 53;refine(sml_r _ _ hbk).mono ?_;rw[h2];rintro e w1 ⟨rfl,rfl⟩);go_roundw
       case rel=>(try ((repeat apply Exists.intro);refine⟨?_,rfl⟩));exact⟨k+1,by go_num,by omega,RL,by trivial⟩
       case measure=>simp[intOf];omega
     ·obtain rfl:k=s.size:=by omega
      have fin:nameB s.data.toList=!wordB s.data.toList:=by
       have hl:=HL.out;cases hw:wordB s.data.toList
       ·exact(nameB_iff _).2 ⟨by omega,by omega,fun j h=>hin j h (by omega),hw⟩
       ·show _=false;rw[<-Bool.not_eq_true,nameB_iff];rintro ⟨_,_,_,h⟩;rw[hw] at h;cases h
      clear hin;go_wp2_with (go_at_call 55;refine(word_r s _ hs').mono ?_;rintro e w1 ⟨rfl,hbx⟩);go_ret;exact⟨by rw[fin];rfl,hbx⟩
theorem gTab : Tryd.prog.globalNamed "isthmus/pack.fields" = some 2 := by kernel_rfl
theorem gTabType:(Tryd.prog.globals[2]?).map (·.type)=some 101:=by kernel_rfl
theorem cellsTab:Tryd.prog.cellsOf 101=6:=by kernel_rfl
theorem cellsField:Tryd.prog.cellsOf 100=2:=by kernel_rfl
theorem cellsUint:Tryd.prog.cellsOf 96=1:=by kernel_rfl
theorem cellsUint64:Tryd.prog.cellsOf 33=1:=by kernel_rfl
def Tab (w:World):Prop :=
 w.cell? ⟨2,0,none⟩=some (.int .u64 56)/\w.cell? ⟨2,1,none⟩=some (.int .u64 255)/\w.cell? ⟨2,2,none⟩=some (.int .u64 28) /\
 w.cell? ⟨2,3,none⟩=some (.int .u64 268435455)/\w.cell? ⟨2,4,none⟩=some (.int .u64 0)/\w.cell? ⟨2,5,none⟩=some (.int .u64 268435455)/\2<w.heap.size
theorem Tab.below {w w':World}(h:Tab w)(hb:Below w.heap.size w w'):Tab w':=by
 obtain⟨h0,h1,h2,h3,h4,h5,hs⟩:=h;refine⟨?_,?_,?_,?_,?_,?_,Nat.lt_of_lt_of_le hs hb.size⟩
 ·exact(hb.cell (p:=⟨2,0,none⟩) hs).trans h0
 ·exact(hb.cell (p:=⟨2,1,none⟩) hs).trans h1
 ·exact(hb.cell (p:=⟨2,2,none⟩) hs).trans h2
 ·exact(hb.cell (p:=⟨2,3,none⟩) hs).trans h3
 ·exact(hb.cell (p:=⟨2,4,none⟩) hs).trans h4
 ·exact(hb.cell (p:=⟨2,5,none⟩) hs).trans h5
theorem below_drewN (w:World)(n:Nat):Below w.heap.size w (w.drewN n):=by
 have key:∀ (n:Nat) (v:World),Below w.heap.size w v->Below w.heap.size w (v.drewN n):=by
  intro n
  induction n with
  | zero=>intro v h;exact h
  | succ n ih=>intro v h;exact(ih v h).drew
 exact key n w (Below.refl _ _)
theorem bjoin {a b c:World}(h:Below a.heap.size a b)(k:Below b.heap.size b c):Below a.heap.size a c:=h.trans (k.mono h.size)
theorem bd_i64 {a:Int}(h:(Lit.int .i64 a).wf=true):-9223372036854775808<=a/\a<=9223372036854775807:=by
 simpa [Lit.wf,IntKind.min,IntKind.max,IntKind.signed,IntKind.bits] using h
theorem zig_any (n:Int)(w:World)(h1:-9223372036854775808<=n)(h2:n<=9223372036854775807) :
  Calls Tryd.prog 73 #[.int .i64 n] w fun e w'=>e=.returned (.int .u64 (zg n))/\w'=w:=by
 go_enter Tryd.func73,Tryd.ntmps73;go_wp2;go_ret;exact⟨ret_int (zig_eq n h1 h2),rfl⟩
theorem zag_any (u:Int)(w:World)(h1:0<=u)(h2:u<18446744073709551616) :
  Calls Tryd.prog 77 #[.int .u64 u] w fun e w'=>e=.returned (.int .i64 (zgb u))/\w'=w:=by
 go_enter Tryd.func77,Tryd.ntmps77;go_wp2;go_ret;exact⟨ret_int (zag_eq u h1 h2),rfl⟩
theorem mix_any (h n:Int)(w:World)(g1:0<=h)(g2:h<18446744073709551616)(h1:-9223372036854775808<=n)(h2:n<=9223372036854775807) :
  Calls Tryd.prog 49 #[.int .u64 h,.int .i64 n] w fun e w'=>e=.returned (.int .u64 (mx h (zg n)))/\w'=w:=by
 have b:=zg_bd n h1 h2;go_enter Tryd.func49,Tryd.ntmps49;go_wp2_with (go_at_call 73;refine(zig_any _ _ h1 h2).mono ?_;rintro e w' ⟨rfl,rfl⟩);go_ret;exact⟨ret_int (mx_eq h (zg n) g1 g2 b.1 b.2),rfl⟩
theorem part0 (u:Int)(w:World)(hT:Tab w)(h1:0<=u)(h2:u<18446744073709551616) :
  Calls Tryd.prog 78 #[.int .i64 0,.int .u64 u] w fun e w'=>e=.returned (.int .i64 (u / 72057594037927936))/\Below w.heap.size w w':=by
 have hc:=hT.1;have hd:=hT.2.1;go_enter Tryd.func78,Tryd.ntmps78;go_wp2
 go_quiet (fail)
 go_wp2;go_ret;exact⟨ret_int (part0_eq u h1 h2),below_drewN _ _⟩
theorem part1 (u:Int)(w:World)(hT:Tab w)(h1:0<=u)(h2:u<18446744073709551616) :
  Calls Tryd.prog 78 #[.int .i64 1,.int .u64 u] w fun e w'=>e=.returned (.int .i64 (u / 268435456 % 268435456))/\Below w.heap.size w w':=by
 have hc:=hT.2.2.1;have hd:=hT.2.2.2.1;go_enter Tryd.func78,Tryd.ntmps78;go_wp2
 go_quiet (fail)
 go_wp2;go_ret;exact⟨ret_int (part1_eq u h1 h2),below_drewN _ _⟩
theorem part2 (u:Int)(w:World)(hT:Tab w)(h1:0<=u)(h2:u<18446744073709551616) :
  Calls Tryd.prog 78 #[.int .i64 2,.int .u64 u] w fun e w'=>e=.returned (.int .i64 (u % 268435456))/\Below w.heap.size w w':=by
 have hc:=hT.2.2.2.2.1;have hd:=hT.2.2.2.2.2.1;go_enter Tryd.func78,Tryd.ntmps78;go_wp2
 go_quiet (fail)
 go_wp2;go_ret;exact⟨ret_int (by simpa using part2_eq u h1 h2),below_drewN _ _⟩
theorem parts_any (u:Int)(w:World)(hT:Tab w)(h1:0<=u)(h2:u<18446744073709551616) :
  Calls Tryd.prog 72 #[.int .u64 u] w fun e w' =>
   e=.returned (.tuple #[.int .i64 (u / 72057594037927936),.int .i64 (u / 268435456 % 268435456),.int .i64 (u % 268435456)])/\Below w.heap.size w w':=by
 go_enter Tryd.func72,Tryd.ntmps72;go_wp2_with fail;refine(part0 u w hT h1 h2).mono ?_;rintro e w1 ⟨rfl,hb1⟩;have hT1:=hT.below hb1;go_wp2_with fail;refine(part1 u w1 hT1 h1 h2).mono ?_;rintro e w2 ⟨rfl,hb2⟩;have hT2:=hT1.below hb2;go_wp2_with fail;refine(part2 u w2 hT2 h1 h2).mono ?_;rintro e w3 ⟨rfl,hb3⟩;go_wp2;go_ret3;exact⟨rfl,bjoin (bjoin hb1 hb2) hb3⟩
theorem field_cells {W:World}{m:Nat}{l:List Value}{a b:Int}{p:List MemPlace}
  (h:DataW.trod (fun _=>()) Tryd.prog W 0 (fun _=>true) false m 100 l=some (.agg [.lit (.int .u64 a),.lit (.int .u64 b)],p)):l=[.int .u64 a,.int .u64 b]:=by
 obtain⟨y0,y1,n,hx,hl,h0,h1⟩:=trod_struct2 Tryd.underlying100 h;simp only[Prod.mk.injEq,DataW.agg.injEq,List.cons.injEq,and_true] at hx;obtain⟨⟨e0,e1⟩,_⟩:=hx;obtain⟨z0,c0,r0,_⟩:=DataW.trod_int Tryd.underlying96 h0;obtain⟨z1,c1,r1,_⟩:=DataW.trod_int Tryd.underlying33 h1;subst r0 r1;simp only[DataW.lit.injEq,Lit.int.injEq,true_and] at e0 e1;subst e0 e1;rw[cellsField] at hl;simp only[cellsUint,cellsUint64] at c0 c1
 match l,hl with
 | [v0,v1],_ =>
  simp at c0 c1;rw[c0,c1]
def tkR (r:Nat × Nat × Nat):Value:=.tuple #[.int .u64 r.1,.int .i64 r.2.1,.int .i64 r.2.2]
theorem ret_take {a b:Int}{x y:Nat}(h:a=x)(g:b=y):Ending.returned (.tuple #[.int .u64 a,.int .i64 b,.int .i64 0])=.returned (tkR (x,y,0)):=by
 rw[h,g];rfl
theorem take_any (s:ByteArray)(w:World)(hs:s.size<=maxLen) :
  Calls Tryd.prog 76 #[.string s] w fun e w'=>e=.returned (tkR (tk s.data.toList 0 0))/\w'=w:=by
 unfold maxLen at hs;go_enter Tryd.func76,Tryd.ntmps76;go_wp2;go_loop [5,6] (fun u i=>∃k acc:Nat,k<=s.size/\k<=9/\i=.int .i64 k/\u=.int .u64 acc/\Hid (acc<128 ^ k)/\Hid (tk (s.data.toList.drop k) k acc=tk s.data.toList 0 0)) (fun _ i=>s.size-(intOf i).toNat)
 case atStart=>exact⟨0,0,Nat.zero_le _,by omega,rfl,rfl,show 0<128 ^ 0 by decide,rfl⟩
 case round =>
  obtain⟨k,acc,hk,hk9,rfl,rfl,HA,HR⟩:=hrel;by_cases hlt:k<s.size
  ·have HD:Hid (s.data.toList.drop k=s[k]::s.data.toList.drop (k+1)):=drop_cons s k hlt;have HB:Hid (s[k].toNat<256):=UInt8.toNat_lt _;go_wp2
   ·have HR':=HR.out;rw[HD.out,tkF _ _ _ _ (by omega) (by omega)] at HR';go_ret3;rw[<-HR'];exact⟨rfl,rfl⟩
   ·have HR':=HR.out;rw[HD.out,tkZ _ _ _ _ (by omega) (by omega)] at HR';go_ret3;rw[<-HR'];exact⟨rfl,rfl⟩
   ·have HR':=HR.out;have e9:k=9:=by omega
    rw[HD.out,tkE _ _ _ _ (by omega) (by omega) (by omega)] at HR';go_ret3;rw[<-HR'];have ha:=HA.out;have hm:s[k].toNat % 128=s[k].toNat:=by omega
    have hp:(128:Nat) ^ k=128 ^ 9:=by rw[e9]
    rw[hp] at ha;have hd:=digit_eq9 acc s[k].toNat ha (by omega);rw[hm,<-hp] at hd;exact⟨ret_take hd (by omega),rfl⟩
   ·have HR':=HR.out;rw[HD.out,tkM _ _ _ _ (by omega) (by omega)] at HR';have hd:=digit_eq k acc s[k].toNat hk9 HA.out HB.out (by omega);have ha:=digit_acc k acc s[k].toNat HA.out
    go_round
    case rel=>exact⟨k+1,acc+s[k].toNat % 128*128 ^ k,by omega,by omega,by go_num,by rw[hd],ha,HR'⟩
    case measure=>simp[intOf];omega
   ·have HR':=HR.out;rw[HD.out,tkZ _ _ _ _ (by omega) (by omega)] at HR';go_ret3;rw[<-HR'];exact⟨rfl,rfl⟩
   ·have HR':=HR.out;rw[HD.out,tkE _ _ _ _ (by omega) (by omega) (by omega)] at HR';go_ret3;rw[<-HR'];have hd:=digit_eq k acc 0 hk9 HA.out (by omega) (by omega);have hz:s[k].toNat=0:=by omega
    have e:acc+0 % 128*128 ^ k=acc+s[k].toNat*128 ^ k:=by rw[hz]
    rw[e] at hd;exact⟨ret_take hd (by omega),rfl⟩
   ·have HR':=HR.out;rw[HD.out,tkE _ _ _ _ (by omega) (by omega) (by omega)] at HR';go_ret3;rw[<-HR'];have hm:s[k].toNat % 128=s[k].toNat:=by omega
    have hd:=digit_eq k acc s[k].toNat hk9 HA.out HB.out (by omega);rw[hm] at hd;exact⟨ret_take hd (by omega),rfl⟩
  ·have HR':=HR.out;rw[List.drop_of_length_le (by simp;omega),tk] at HR';have HQ:Hid ((0,0,10)=tk s.data.toList 0 0):=HR';clear HR';go_wp2;go_ret3;rw[<-HQ.out];exact⟨rfl,rfl⟩
def bc (b:UInt8):Value:=.int .u8 (b.toNat:Int)
theorem info5:(Tryd.prog.info? 5).map (fun i=>(i.zero,i.size,i.bytes))=some (some (.int .u8 0),1,1):=by kernel_rfl
theorem one_new (w:World)(v:Value)(j:Nat)(u:Value)(h:[v][j]?=some u):(w.alloc (.cells #[v] 5)).cell? ((⟨w.heap.size,0,none⟩:Addr).add j)=some u:=by
 match j,h with
 | 0,h=>simp at h;subst h;simp[Addr.add]
theorem one_cell (k:IntKind)(n:Int):∀ u ∈ [Value.int k n],u.oneCell'=true:=by
 intro u hu;simp at hu;subst hu;rfl
theorem owned_at {w:World}{B:Nat}{v:Value}{n:Nat}{xs:List Value}(h:w.ownsRow B 5 1 v (n+1) xs):∃g cap,v=.slice (some ⟨g,0,none⟩) (n+1) cap/\v.ownBlock=some g:=by
 rcases h.2 with ⟨_,h⟩|⟨g,cap,cur,hv,_⟩
 ·omega
 ·exact⟨g,cap,hv,by rw[hv];rfl⟩
theorem owned_text {w:World}{B g cap:Nat}{l:List UInt8}(h:w.ownsRow B 5 1 (.slice (some ⟨g,0,none⟩) l.length cap) l.length (l.map bc)) :
  (convert 44 9 (.slice (some ⟨g,0,none⟩) l.length cap)).run Tryd.prog w=.ok (.string ⟨l.toArray⟩) w :=
 run_convert_bytes_back w 44 9 5 ⟨g,0,none⟩ cap l Tryd.underlying44 Tryd.underlying5 Tryd.underlying9
  (fun j hj=>h.cells rfl j _ (by simp[bc,hj]))
theorem put_any (u:Int)(w:World)(h1:0<=u)(h2:u<18446744073709551616) :
  Calls Tryd.prog 43 #[.int .u64 u] w fun e w'=>e=.returned (.string ⟨(sevs u).toArray⟩)/\Below w.heap.size w w':=by
 obtain⟨i0,hi,hz0,hz1,hz2⟩:=info_parts info5;go_enter Tryd.func43,Tryd.ntmps43;go_wp2;go_loopw [0,3] (fun u' v wr=>∃(r f:Nat) (l:List UInt8),u'=.int .u64 r/\l.length+f=9/\Hid (r<2*128 ^ f)/\r<18446744073709551616/\wr.ownsRow w.heap.size 5 1 v l.length (l.map bc)/\Below w.heap.size w wr/\Hid (l++sev f r=sevs u)) (fun u' _ _=>(intOf u').toNat)
 case atStart =>
  exact⟨u.toNat,9,[],by rw[Int.toNat_of_nonneg h1],rfl,show u.toNat<2*128 ^ 9 by omega,by omega,World.ownsRow_nil _ _ _ _,Below.refl _ _,rfl⟩
 case round =>
  obtain⟨r,f,l,rfl,hlf,HB,hr,hown,hbl,HS⟩:=hrel;have hsz:=hbl.size;by_cases hlt:r<128
  ·go_wp2_with (first
    | (at_builtin;refine wpList_append_own _ rfl _ _ 44 rfl w.heap.size 5 i0 (.int .u8 0) 1 1 Tryd.underlying44 hi hz0 hz1 hz2 rfl (by decide) _ _ _ rfl (hown.alloc _) ⟨wr.heap.size,0,none⟩ 1 1 [.int .u8 r] rfl rfl ?c1 ?c2 ?c3 ?c4 ?c5 ?_)
    | go_in)
   case c1=>exact one_new _ _
   case c2=>exact one_cell _ _
   case c3=>unfold maxLen;omega
   case c4=>omega
   case c5=>simp;omega
   ·intro v' w1 hown' hgrow _;have hown2:w1.ownsRow w.heap.size 5 1 v' (l++[UInt8.ofNat r]).length ((l++[UInt8.ofNat r]).map bc):=by
     have e:=byte_last r hlt;simp only[List.length_append,List.length_singleton,List.map_append,List.map_cons,List.map_nil,bc];rw[<-e];exact hown'
    have hbl2:Below w.heap.size w w1:=(hbl.alloc hsz _).grown hgrow (by simp;omega) (fun k hk=>(hown.lt k hk).1);have hfin:l++[UInt8.ofNat r]=sevs u:=by
     have h:=HS.out;rw[sev_last f r hlt] at h;exact h
    have HF:Hid (l++[UInt8.ofNat r]=sevs u):=hfin;have hlen:(l++[UInt8.ofNat r]).length=l.length+1:=by simp
    have hex:∃g cap,v'=.slice (some ⟨g,0,none⟩) (l.length+1) cap/\v'.ownBlock=some g:=owned_at (by rw[hlen] at hown2;exact hown2);obtain⟨g,cap,hv,_⟩:=hex;have hconv:=owned_text (l:=l++[UInt8.ofNat r]) (g:=g) (cap:=cap) (by rw[hlen] at hown2 ⊢;rw[<-hv];exact hown2);rw[hlen] at hconv;rw[hv];clear hown' hgrow hown hown2 hv hfin hlen;go_wp2;go_ret;rw[<-HF.out];exact⟨rfl,hbl2⟩
  ·go_wp2_with (first
    | (at_builtin;refine wpList_append_own _ rfl _ _ 44 rfl w.heap.size 5 i0 (.int .u8 0) 1 1 Tryd.underlying44 hi hz0 hz1 hz2 rfl (by decide) _ _ _ rfl (hown.alloc _) ⟨wr.heap.size,0,none⟩ 1 1 [.int .u8 (bits .or .u8 ((r:Int) % 256) 128)] rfl rfl ?c1 ?c2 ?c3 ?c4 ?c5 ?_)
    | go_in)
   case c1=>exact one_new _ _
   case c2=>exact one_cell _ _
   case c3=>unfold maxLen;omega
   case c4=>omega
   case c5=>simp;omega
   ·intro v' w1 hown' hgrow _;have hown2:w1.ownsRow w.heap.size 5 1 v' (l++[UInt8.ofNat (r % 128+128)]).length ((l++[UInt8.ofNat (r % 128+128)]).map bc):=by
     have e:=byte_more' r;simp only[List.length_append,List.length_singleton,List.map_append,List.map_cons,List.map_nil,bc];rw[<-e];exact hown'
    have hbl2:Below w.heap.size w w1:=(hbl.alloc hsz _).grown hgrow (by simp;omega) (fun k hk=>(hown.lt k hk).1);obtain⟨g,hfg,hg⟩:=put_step r f HB.out hlt;have HF:Hid (f=g+1):=hfg;have HG:Hid (r / 128<2*128 ^ g):=hg;clear hown' hgrow hown hfg hg;go_wp2;go_roundw
    case rel =>
     refine⟨r / 128,g,l++[UInt8.ofNat (r % 128+128)],by go_num,?_,HG,by omega,hown2,hbl2,?_⟩
     ·have:=HF.out
      simp;omega
     ·have h:=HS.out;rw[HF.out,sev_more g r hlt] at h;show l++[UInt8.ofNat (r % 128+128)]++sev g (r / 128)=sevs u;rw[List.append_assoc];exact h
    case measure=>simp[intOf];omega
def Lsv (w:World)(ao:Option Addr)(xs:List Value):Prop :=
 xs=[]\/∃b off,ao=some ⟨b,off,none⟩/\b<w.heap.size/\∀ j x,xs[j]?=some x->w.cell? ⟨b,off+j,none⟩=some x
theorem Lsv.below {w w':World}{ao:Option Addr}{xs:List Value}(h:Lsv w ao xs)(B:Below w.heap.size w w'):Lsv w' ao xs:=by
 rcases h with h|⟨b,off,rfl,hlt,hc⟩
 ·exact .inl h
 ·exact .inr ⟨b,off,rfl,Nat.lt_of_lt_of_le hlt B.size,fun j x hx=>(B.cell (p:=⟨b,off+j,none⟩) hlt).trans (hc j x hx)⟩
theorem Lsv.at {w:World}{ao:Option Addr}{xs:List Value}(h:Lsv w ao xs){j:Nat}{x:Value}(hx:xs[j]?=some x):∃b off,ao=some ⟨b,off,none⟩/\b<w.heap.size/\w.cell? ⟨b,off+j,none⟩=some x:=by
 rcases h with rfl|⟨b,off,rfl,hlt,hc⟩
 ·simp at hx
 ·exact⟨b,off,rfl,hlt,hc j x hx⟩
def wsV (l:List Int):List Value:=l.map (.int .u64 ·)
def isV (l:List Int):List Value:=l.map (.int .i64 ·)
def nsV (l:List ByteArray):List Value:=l.map (.string ·)
structure Pl where
 aw:Option Addr
 cw:Nat
 ac:Option Addr
 cc:Nat
 an:Option Addr
 cn:Nat
 ak:Option Addr
 ck:Nat
abbrev cdA (p:Pl)(c:Cd):Array Value:=#[.slice p.aw c.ws.length p.cw,.slice p.ac c.cs.length p.cc,.slice p.an c.ns.length p.cn,.slice p.ak c.ks.length p.ck]
abbrev cdV (p:Pl)(c:Cd):Value:=.agg (cdA p c)
structure CdW (w:World)(p:Pl)(c:Cd):Prop where
 ok:c.Ok
 ws:Lsv w p.aw (wsV c.ws)
 cs:Lsv w p.ac (isV c.cs)
 ns:Lsv w p.an (nsV c.ns)
 ks:Lsv w p.ak (isV c.ks)
 lw:c.ws.length<=9223372036854775807
 lc:c.cs.length<=9223372036854775807
 ln:c.ns.length<=9223372036854775807
 lk:c.ks.length<=9223372036854775807
theorem CdW.below {w w':World}{p:Pl}{c:Cd}(h:CdW w p c)(B:Below w.heap.size w w'):CdW w' p c :=
 ⟨h.ok,h.ws.below B,h.cs.below B,h.ns.below B,h.ks.below B,h.lw,h.lc,h.ln,h.lk⟩
theorem bd1 {w w':World}{o:Obj}(h:Below (w.alloc o).heap.size (w.alloc o) w'):Below w.heap.size w w':=(b1 w o).trans (h.mono (by simp))
theorem box4 (w:World)(a b c d:Value)(t:TypeId):(w.alloc (.cells #[a,b,c,d] t)).heap[w.heap.size]?=some (.cells #[a,b,c,d] t (0,0)):=heap_alloc_new _ _
theorem box4_cells {w:World}{g:Nat}{a b c d:Value}{t:TypeId}(h:w.heap[g]?=some (.cells #[a,b,c,d] t (0,0))):w.cell? ⟨g,0,none⟩=some a/\w.cell? ⟨g,1,none⟩=some b/\w.cell? ⟨g,2,none⟩=some c/\w.cell? ⟨g,3,none⟩=some d:=by
 refine⟨?_,?_,?_,?_⟩<;>simp[World.cell?,h]
theorem span_0 (p:Pl)(c:Cd)(w:World)(hl:c.cs.length<=9223372036854775807)(hn:c.ns.length<=9223372036854775807)(hk:c.ks.length<=9223372036854775807) :
  Calls Tryd.prog 71 #[.int .i64 0,cdV p c] w fun e w'=>e=.returned (.tuple #[.int .i64 (spn c 0).1,.int .i64 (spn c 0).2])/\Below w.heap.size w w':=by
 go_enter Tryd.func71,Tryd.ntmps71;go_wp2;go_ret2;exact⟨rfl,b1 _ _⟩
theorem span_1 (p:Pl)(c:Cd)(w:World)(hl:c.cs.length<=9223372036854775807)(hn:c.ns.length<=9223372036854775807)(hk:c.ks.length<=9223372036854775807) :
  Calls Tryd.prog 71 #[.int .i64 1,cdV p c] w fun e w'=>e=.returned (.tuple #[.int .i64 (spn c 1).1,.int .i64 (spn c 1).2])/\Below w.heap.size w w':=by
 go_enter Tryd.func71,Tryd.ntmps71;go_wp2;go_ret2;exact⟨rfl,b1 _ _⟩
theorem span_2 (p:Pl)(c:Cd)(w:World)(hl:c.cs.length<=9223372036854775807)(hn:c.ns.length<=9223372036854775807)(hk:c.ks.length<=9223372036854775807) :
  Calls Tryd.prog 71 #[.int .i64 2,cdV p c] w fun e w'=>e=.returned (.tuple #[.int .i64 (spn c 2).1,.int .i64 (spn c 2).2])/\Below w.heap.size w w':=by
 go_enter Tryd.func71,Tryd.ntmps71;go_wp2;go_ret2;exact⟨rfl,b1 _ _⟩
theorem span_3 (p:Pl)(c:Cd)(w:World)(hl:c.cs.length<=9223372036854775807)(hn:c.ns.length<=9223372036854775807)(hk:c.ks.length<=9223372036854775807) :
  Calls Tryd.prog 71 #[.int .i64 3,cdV p c] w fun e w'=>e=.returned (.tuple #[.int .i64 (spn c 3).1,.int .i64 (spn c 3).2])/\Below w.heap.size w w':=by
 go_enter Tryd.func71,Tryd.ntmps71;go_wp2;go_ret2;exact⟨rfl,b1 _ _⟩
theorem span_4 (p:Pl)(c:Cd)(w:World)(hl:c.cs.length<=9223372036854775807)(hn:c.ns.length<=9223372036854775807)(hk:c.ks.length<=9223372036854775807) :
  Calls Tryd.prog 71 #[.int .i64 4,cdV p c] w fun e w'=>e=.returned (.tuple #[.int .i64 (spn c 4).1,.int .i64 (spn c 4).2])/\Below w.heap.size w w':=by
 go_enter Tryd.func71,Tryd.ntmps71;go_wp2;go_ret2;exact⟨rfl,b1 _ _⟩
theorem span_5 (p:Pl)(c:Cd)(w:World)(hl:c.cs.length<=9223372036854775807)(hn:c.ns.length<=9223372036854775807)(hk:c.ks.length<=9223372036854775807) :
  Calls Tryd.prog 71 #[.int .i64 5,cdV p c] w fun e w'=>e=.returned (.tuple #[.int .i64 (spn c 5).1,.int .i64 (spn c 5).2])/\Below w.heap.size w w':=by
 go_enter Tryd.func71,Tryd.ntmps71;go_wp2;go_ret2;exact⟨rfl,b1 _ _⟩
theorem span_6 (p:Pl)(c:Cd)(w:World)(hl:c.cs.length<=9223372036854775807)(hn:c.ns.length<=9223372036854775807)(hk:c.ks.length<=9223372036854775807) :
  Calls Tryd.prog 71 #[.int .i64 6,cdV p c] w fun e w'=>e=.returned (.tuple #[.int .i64 (spn c 6).1,.int .i64 (spn c 6).2])/\Below w.heap.size w w':=by
 go_enter Tryd.func71,Tryd.ntmps71;go_wp2;go_ret2;exact⟨rfl,b1 _ _⟩
theorem span_7 (p:Pl)(c:Cd)(w:World)(hl:c.cs.length<=9223372036854775807)(hn:c.ns.length<=9223372036854775807)(hk:c.ks.length<=9223372036854775807) :
  Calls Tryd.prog 71 #[.int .i64 7,cdV p c] w fun e w'=>e=.returned (.tuple #[.int .i64 (spn c 7).1,.int .i64 (spn c 7).2])/\Below w.heap.size w w':=by
 go_enter Tryd.func71,Tryd.ntmps71;go_wp2;go_ret2;exact⟨rfl,b1 _ _⟩
theorem span_8 (p:Pl)(c:Cd)(w:World)(hl:c.cs.length<=9223372036854775807)(hn:c.ns.length<=9223372036854775807)(hk:c.ks.length<=9223372036854775807) :
  Calls Tryd.prog 71 #[.int .i64 8,cdV p c] w fun e w'=>e=.returned (.tuple #[.int .i64 (spn c 8).1,.int .i64 (spn c 8).2])/\Below w.heap.size w w':=by
 go_enter Tryd.func71,Tryd.ntmps71;go_wp2
 go_quiet (fail)
 go_wp2;go_ret2;refine⟨?_,(b1 _ _).trans ((below_drewN _ _).mono (by simp))⟩;simp[spn]
theorem span_9 (p:Pl)(c:Cd)(w:World)(hl:c.cs.length<=9223372036854775807)(hn:c.ns.length<=9223372036854775807)(hk:c.ks.length<=9223372036854775807) :
  Calls Tryd.prog 71 #[.int .i64 9,cdV p c] w fun e w'=>e=.returned (.tuple #[.int .i64 (spn c 9).1,.int .i64 (spn c 9).2])/\Below w.heap.size w w':=by
 go_enter Tryd.func71,Tryd.ntmps71;go_wp2
 go_quiet (fail)
 go_wp2;go_ret2;refine⟨?_,(b1 _ _).trans ((below_drewN _ _).mono (by simp))⟩;simp[spn]
theorem span_10 (p:Pl)(c:Cd)(w:World)(hl:c.cs.length<=9223372036854775807)(hn:c.ns.length<=9223372036854775807)(hk:c.ks.length<=9223372036854775807) :
  Calls Tryd.prog 71 #[.int .i64 10,cdV p c] w fun e w'=>e=.returned (.tuple #[.int .i64 (spn c 10).1,.int .i64 (spn c 10).2])/\Below w.heap.size w w':=by
 go_enter Tryd.func71,Tryd.ntmps71;go_wp2
 go_quiet (fail)
 go_wp2;go_ret2;refine⟨?_,(b1 _ _).trans ((below_drewN _ _).mono (by simp))⟩;simp[spn]
theorem span_c (t:Nat)(ht:t<=10)(p:Pl)(c:Cd)(w:World)(hl:c.cs.length<=9223372036854775807)(hn:c.ns.length<=9223372036854775807)(hk:c.ks.length<=9223372036854775807) :
  Calls Tryd.prog 71 #[.int .i64 (t:Nat),cdV p c] w fun e w'=>e=.returned (.tuple #[.int .i64 (spn c t).1,.int .i64 (spn c t).2])/\Below w.heap.size w w':=by
 match t,ht with
 | 0,_=>exact span_0 p c w hl hn hk
 | 1,_=>exact span_1 p c w hl hn hk
 | 2,_=>exact span_2 p c w hl hn hk
 | 3,_=>exact span_3 p c w hl hn hk
 | 4,_=>exact span_4 p c w hl hn hk
 | 5,_=>exact span_5 p c w hl hn hk
 | 6,_=>exact span_6 p c w hl hn hk
 | 7,_=>exact span_7 p c w hl hn hk
 | 8,_=>exact span_8 p c w hl hn hk
 | 9,_=>exact span_9 p c w hl hn hk
 | 10,_=>exact span_10 p c w hl hn hk
 | n+11,h=>omega
theorem may_c (t:Nat)(ht:t<=10)(n:Int)(p:Pl)(c:Cd)(w:World)(hl:c.cs.length<=9223372036854775807)(hn:c.ns.length<=9223372036854775807)(hk:c.ks.length<=9223372036854775807) :
  Calls Tryd.prog 40 #[.int .i64 (t:Nat),.int .i64 n,cdV p c] w fun e w'=>e=.returned (.bool (mayB c t n))/\Below w.heap.size w w':=by
 have hm:mayB c t n=(decide ((spn c t).1<=n)&&decide (n<=(spn c t).2)):=rfl;have HS:=fun w=>span_c t ht p c w hl hn hk;rw[hm];generalize (spn c t).1=lo at *;generalize (spn c t).2=hi at *;clear hm;by_cases h1:lo<=n
 ·go_enter Tryd.func40,Tryd.ntmps40;go_wp2_with (go_at_call 71;refine(HS _).mono ?_;rintro e w1 ⟨rfl,hb⟩);go_ret;exact⟨by simp[h1],bd1 hb⟩
 ·go_enter Tryd.func40,Tryd.ntmps40;go_wp2_with (go_at_call 71;refine(HS _).mono ?_;rintro e w1 ⟨rfl,hb⟩);go_ret;exact⟨by simp;intro;omega,bd1 hb⟩
end Go.Proofs.YtjjhcbmhdkobkaaDoor

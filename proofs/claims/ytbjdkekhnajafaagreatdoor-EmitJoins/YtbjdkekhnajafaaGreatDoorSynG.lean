import Derived.Test.YtbjdkekhnajafaaGreatDoorLexT
import Derived.Shelf.Strconv.ErrVarAll
import Derived.Ground.NamesProg
import Derived.Lib.OthersKept
import Derived.Deep.MidRow
import Derived.Deep.CutBlock
import Derived.Deep.DeepCutAuto
import Derived.Laws.ResultCell
import Derived.WalkLawsBesides
import Derived.Deep.RegionHeld3
set_option maxRecDepth 100000
set_option maxHeartbeats 8000000
namespace Go.Proofs.YtbjdkekhnajafaaGreatDoor
open Go.ChangeShapes Go.WideShapes Go.ChangeAt Go.RowKit
set_option linter.unusedVariables false
def wd (k:Nat):ByteArray:=⟨(wordsL.getD k []).toArray⟩
def wordsA:Array Value:=#[.string (wd 0),.string (wd 1),.string (wd 2),.string (wd 3),.string (wd 4),.string (wd 5),.string (wd 6),.string (wd 7),.string (wd 8),.string (wd 9),.string (wd 10),.string (wd 11),.string (wd 12),.string (wd 13),.string (wd 14),.string (wd 15),.string (wd 16),.string (wd 17),.string (wd 18),.string (wd 19),.string (wd 20),.string (wd 21),.string (wd 22),.string (wd 23),.string (wd 24),.string (wd 25),.string (wd 26)]
theorem wix0 (w:World):(Instr.index 270 (.agg wordsA) (.int .i64 0)).run Tryz.prog w=.ok (.string (wd 0)) w:=by kernel_rfl
theorem wix1 (w:World):(Instr.index 270 (.agg wordsA) (.int .i64 1)).run Tryz.prog w=.ok (.string (wd 1)) w:=by kernel_rfl
theorem wix2 (w:World):(Instr.index 270 (.agg wordsA) (.int .i64 2)).run Tryz.prog w=.ok (.string (wd 2)) w:=by kernel_rfl
theorem wix3 (w:World):(Instr.index 270 (.agg wordsA) (.int .i64 3)).run Tryz.prog w=.ok (.string (wd 3)) w:=by kernel_rfl
theorem wix4 (w:World):(Instr.index 270 (.agg wordsA) (.int .i64 4)).run Tryz.prog w=.ok (.string (wd 4)) w:=by kernel_rfl
theorem wix5 (w:World):(Instr.index 270 (.agg wordsA) (.int .i64 5)).run Tryz.prog w=.ok (.string (wd 5)) w:=by kernel_rfl
theorem wix6 (w:World):(Instr.index 270 (.agg wordsA) (.int .i64 6)).run Tryz.prog w=.ok (.string (wd 6)) w:=by kernel_rfl
theorem wix7 (w:World):(Instr.index 270 (.agg wordsA) (.int .i64 7)).run Tryz.prog w=.ok (.string (wd 7)) w:=by kernel_rfl
theorem wix8 (w:World):(Instr.index 270 (.agg wordsA) (.int .i64 8)).run Tryz.prog w=.ok (.string (wd 8)) w:=by kernel_rfl
theorem wix9 (w:World):(Instr.index 270 (.agg wordsA) (.int .i64 9)).run Tryz.prog w=.ok (.string (wd 9)) w:=by kernel_rfl
theorem wix10 (w:World):(Instr.index 270 (.agg wordsA) (.int .i64 10)).run Tryz.prog w=.ok (.string (wd 10)) w:=by kernel_rfl
theorem wix11 (w:World):(Instr.index 270 (.agg wordsA) (.int .i64 11)).run Tryz.prog w=.ok (.string (wd 11)) w:=by kernel_rfl
theorem wix12 (w:World):(Instr.index 270 (.agg wordsA) (.int .i64 12)).run Tryz.prog w=.ok (.string (wd 12)) w:=by kernel_rfl
theorem wix13 (w:World):(Instr.index 270 (.agg wordsA) (.int .i64 13)).run Tryz.prog w=.ok (.string (wd 13)) w:=by kernel_rfl
theorem wix14 (w:World):(Instr.index 270 (.agg wordsA) (.int .i64 14)).run Tryz.prog w=.ok (.string (wd 14)) w:=by kernel_rfl
theorem wix15 (w:World):(Instr.index 270 (.agg wordsA) (.int .i64 15)).run Tryz.prog w=.ok (.string (wd 15)) w:=by kernel_rfl
theorem wix16 (w:World):(Instr.index 270 (.agg wordsA) (.int .i64 16)).run Tryz.prog w=.ok (.string (wd 16)) w:=by kernel_rfl
theorem wix17 (w:World):(Instr.index 270 (.agg wordsA) (.int .i64 17)).run Tryz.prog w=.ok (.string (wd 17)) w:=by kernel_rfl
theorem wix18 (w:World):(Instr.index 270 (.agg wordsA) (.int .i64 18)).run Tryz.prog w=.ok (.string (wd 18)) w:=by kernel_rfl
theorem wix19 (w:World):(Instr.index 270 (.agg wordsA) (.int .i64 19)).run Tryz.prog w=.ok (.string (wd 19)) w:=by kernel_rfl
theorem wix20 (w:World):(Instr.index 270 (.agg wordsA) (.int .i64 20)).run Tryz.prog w=.ok (.string (wd 20)) w:=by kernel_rfl
theorem wix21 (w:World):(Instr.index 270 (.agg wordsA) (.int .i64 21)).run Tryz.prog w=.ok (.string (wd 21)) w:=by kernel_rfl
theorem wix22 (w:World):(Instr.index 270 (.agg wordsA) (.int .i64 22)).run Tryz.prog w=.ok (.string (wd 22)) w:=by kernel_rfl
theorem wix23 (w:World):(Instr.index 270 (.agg wordsA) (.int .i64 23)).run Tryz.prog w=.ok (.string (wd 23)) w:=by kernel_rfl
theorem wix24 (w:World):(Instr.index 270 (.agg wordsA) (.int .i64 24)).run Tryz.prog w=.ok (.string (wd 24)) w:=by kernel_rfl
theorem wix25 (w:World):(Instr.index 270 (.agg wordsA) (.int .i64 25)).run Tryz.prog w=.ok (.string (wd 25)) w:=by kernel_rfl
theorem wix26 (w:World):(Instr.index 270 (.agg wordsA) (.int .i64 26)).run Tryz.prog w=.ok (.string (wd 26)) w:=by kernel_rfl
theorem wordsA_at (k:Nat)(hk:k<27)(w:World):(Instr.index 270 (.agg wordsA) (.int .i64 (k:Nat))).run Tryz.prog w=.ok (.string (wd k)) w:=by
 match k,hk with
 | 0,_=>exact wix0 w
 | 1,_=>exact wix1 w
 | 2,_=>exact wix2 w
 | 3,_=>exact wix3 w
 | 4,_=>exact wix4 w
 | 5,_=>exact wix5 w
 | 6,_=>exact wix6 w
 | 7,_=>exact wix7 w
 | 8,_=>exact wix8 w
 | 9,_=>exact wix9 w
 | 10,_=>exact wix10 w
 | 11,_=>exact wix11 w
 | 12,_=>exact wix12 w
 | 13,_=>exact wix13 w
 | 14,_=>exact wix14 w
 | 15,_=>exact wix15 w
 | 16,_=>exact wix16 w
 | 17,_=>exact wix17 w
 | 18,_=>exact wix18 w
 | 19,_=>exact wix19 w
 | 20,_=>exact wix20 w
 | 21,_=>exact wix21 w
 | 22,_=>exact wix22 w
 | 23,_=>exact wix23 w
 | 24,_=>exact wix24 w
 | 25,_=>exact wix25 w
 | 26,_=>exact wix26 w
 | n+27,h=>omega
def Wd (w:World):Prop:=∃t fr,w.heap[3]?=some (.cells wordsA t fr)
theorem Wd.lt {w:World}(h:Wd w):3<w.heap.size:=by
 obtain⟨t,fr,h⟩:=h;exact lt_of_block h
theorem Wd.below {w w':World}(h:Wd w)(b:Below w.heap.size w w'):Wd w':=by
 have hl:=h.lt;obtain⟨t,fr,h⟩:=h;exact⟨t,fr,(b.block _ hl).trans h⟩
theorem wordB_yes {t:List UInt8}(k:Nat)(hk:k<27)(h:t=wordsL.getD k []):wordB t=true:=by
 subst h;have hl:wordsL.length=27:=rfl;unfold wordB;rw[List.contains_iff_mem];simp only[List.getD,List.getElem?_eq_getElem (by omega:k<wordsL.length),Option.getD_some];exact List.getElem_mem _
theorem wordB_no {t:List UInt8}(h:∀ k,k<27->¬t=wordsL.getD k []):wordB t=false:=by
 rw[<-Bool.not_eq_true];unfold wordB;rw[List.contains_iff_mem,List.mem_iff_getElem];rintro ⟨k,hk,e⟩;have hl:wordsL.length=27:=rfl;refine h k (by omega) ?_;simp only[List.getD,List.getElem?_eq_getElem hk,Option.getD_some];exact e.symm
theorem wordsInfo:(Tryz.prog.info? 270).map (·.size)=some wordsA.size:=by kernel_rfl
theorem word_c (s:ByteArray)(w:World)(hW:Wd w)(hs:s.size<=maxLen) :
  Calls Tryz.prog 167 #[.string s] w fun e w'=>e=.returned (.bool (wordB s.data.toList))/\w'=w:=by
 obtain⟨tt,fr,hg⟩:=hW;have IX:Hid (∀ k:Nat,k<27->(Instr.index 270 (.agg wordsA) (.int .i64 (k:Nat))).run Tryz.prog w=.ok (.string (wd k)) w):=fun k hk=>wordsA_at k hk w;have hsz:=wordsInfo;generalize wordsA=cs at *;go_enter Tryz.func167,Tryz.ntmps167;go_wp2_with (refine wpList_load_row rfl 270 _ rfl 3 rfl tt _ fr _ hg Tryz.underlying270 rfl hsz ?_);go_loopw [6] (fun v wr=>∃k:Nat,k<=27/\v=.int .i64 (k:Nat)/\(∀ j,j<k->s≠wd j)/\wr=w) (fun v _=>27-(intOf v).toNat)
 case atStart=>exact⟨0,by omega,by go_num,fun j hj=>by omega,rfl⟩
 case round =>
  obtain⟨k,hk,rfl,hin,rfl⟩:=hrel;by_cases hlt:k<27
  ·have ix:=IX.out k hlt;have hkI:(k:Int)<27:=by omega
   by_cases he:s=wd k
   ·have fin:wordB s.data.toList=true:=wordB_yes k hlt (by rw[he];rfl);rw[<-he] at ix;clear he IX;go_wp2;go_ret;exact⟨by rw[fin];rfl,rfl⟩
   ·have hin':∀ j,j<k+1->s≠wd j:=fun j hj=>by
     by_cases e:j=k
     ·subst e;exact he
     ·exact hin j (by omega)
    have heb:=str_ne he;generalize wd k=t at ix he heb;clear IX hin;go_wp2;go_roundw
    case rel=>(try ((repeat apply Exists.intro);refine⟨?_,rfl⟩));exact⟨k+1,by omega,by go_num,hin',by trivial⟩
    case measure=>simp[intOf];omega
  ·obtain rfl:k=27:=by omega
   clear IX;have fin:wordB s.data.toList=false:=wordB_no fun j hj e=>hin j hj (bytes_eq.1 (by rw[e];rfl));go_wp2;go_ret;exact⟨by rw[fin];rfl,rfl⟩
def nmc (j:Nat)(c:UInt8):Bool:=sml c.toNat||(j != 0&&(dig c.toNat||c.toNat==95))
theorem nameB_iff (l:List UInt8):nameB l=true ↔ 0<l.length/\l.length<=12/\(∀ j (h:j<l.length),nmc j l[j]=true)/\wordB l=false:=by
 cases l with
 | nil=>simp[nameB]
 | cons c r =>
  simp only[nameB,Bool.and_eq_true,decide_eq_true_eq,List.all_eq_true,Bool.not_eq_true',List.length_cons];constructor
  ·rintro ⟨⟨⟨h1,h2⟩,h3⟩,h4⟩;refine⟨by omega,by omega,fun j h=>?_,h4⟩;cases j with
   | zero=>simp[nmc,h2]
   | succ j =>
    have:=h3 (r[j]'(by omega)) (List.getElem_mem _)
    simp only[inn] at this;simp[nmc];simpa [Bool.or_eq_true,or_assoc] using this
  ·rintro ⟨h1,h2,h3,h4⟩;refine⟨⟨⟨by omega,?_⟩,fun x hx=>?_⟩,h4⟩
   ·have:=h3 0 (by omega)
    simpa [nmc] using this
   ·obtain⟨j,hj,rfl⟩:=List.mem_iff_getElem.1 hx
    have:=h3 (j+1) (by omega)
    simp only[nmc,List.getElem_cons_succ] at this;simp only[inn];simpa [Bool.or_eq_true,or_assoc] using this
theorem nameB_not {l:List UInt8}(j:Nat)(h:j<l.length)(hn:nmc j l[j]=false):nameB l=false:=by
 rw[<-Bool.not_eq_true,nameB_iff];rintro ⟨_,_,h3,_⟩
 have:=h3 j h
 rw[hn] at this;cases this
theorem nmc_high (j:Nat)(c:UInt8)(h:128<=c.toNat):nmc j c=false:=by
 simp[nmc,sml,dig];omega
theorem data_get (s:ByteArray)(j:Nat)(h:j<s.size)(h':j<s.data.toList.length):s.data.toList[j]=s[j]:=by
 rw[Array.getElem_toList];rfl
theorem data_len (s:ByteArray):s.data.toList.length=s.size:=Array.length_toList
theorem name_c (s:ByteArray)(w:World)(hW:Wd w)(hs:s.size<=maxLen) :
  Calls Tryz.prog 101 #[.string s] w fun e w'=>e=.returned (.bool (nameB s.data.toList))/\Below w.heap.size w w':=by
 have hs':=hs;unfold maxLen at hs;have hln:=data_len s;by_cases h0:s.size=0
 ·have e0:s=⟨#[]⟩:=by
   apply ByteArray.ext;exact Array.eq_empty_of_size_eq_zero h0
  subst e0;have fin:nameB (⟨#[]⟩:ByteArray).data.toList=false:=rfl;rw[fin];clear fin h0 hln;go_enter Tryz.func101,Tryz.ntmps101;go_wp2;go_ret;exact⟨rfl,b0 _⟩
 ·by_cases h12:12<s.size
  ·have fin:nameB s.data.toList=false:=by rw[<-Bool.not_eq_true,nameB_iff];rintro ⟨_,h,_⟩;omega
   rw[fin];clear fin hln;have hne:=str_full h0;have h12I:(12:Int)<(s.size:Int):=by omega
   go_enter Tryz.func101,Tryz.ntmps101;go_wp2;go_ret;exact⟨by simp,b0 _⟩
  ·have hne:=str_full h0;have h12I:¬(12:Int)<(s.size:Int):=by omega
   have HL:Hid (s.data.toList.length=s.size):=hln;clear hln;go_enter Tryz.func101,Tryz.ntmps101;go_wp2;go_loopw [3] (fun _ wr=>∃pos:Nat,wr.heap[w.heap.size]?=some (.stringIter s pos)/\pos<=s.size/\(∀ j (h:j<s.data.toList.length),j<pos->nmc j s.data.toList[j]=true)/\Below w.heap.size w wr) (fun _ wr=>s.size-wr.iterPos w.heap.size)
   case atStart=>exact⟨0,World.iter_heap w s 0,by omega,fun j _ h=>by omega,b1 _ _⟩
   case round =>
    obtain⟨pos,hit,hps,hin,hbw⟩:=hrel;by_cases hp:pos<s.size
    ·have hpl:pos<s.data.toList.length:=by have:=HL.out;omega
     by_cases ha:(s[pos]'hp).toNat<128
     ·have hnx:∀ ty,(Instr.next (.pointer (some ⟨w.heap.size,0,none⟩)) true ty).run Tryz.prog wr=_:=fun ty=>Lib.run_next_ascii_at wr w.heap.size s pos ty hit hp ha;have hit2:=Lib.iterAt_heap wr w.heap.size s pos (pos+1) hit;have hbw2:=Lib.below_iterAt hbw (k:=w.heap.size) (by omega) s (pos+1);have hex:nmc pos s.data.toList[pos]=nmc pos s[pos]:=by rw[data_get s pos hp hpl]
      have hgo:nmc pos s[pos]=true->∀ j (h:j<s.data.toList.length),j<pos+1->nmc j s.data.toList[j]=true:=fun hx j h hj=>by
       by_cases e:j=pos
       ·subst e;rw[hex];exact hx
       ·exact hin j h (by omega)
      have hno:nmc pos s[pos]=false->nameB s.data.toList=false:=fun hx=>nameB_not pos hpl (by rw[hex];exact hx);have hme:s.size-(wr.iterAt w.heap.size s (pos+1)).iterPos w.heap.size<s.size-wr.iterPos w.heap.size:=by
       simp only[World.iterPos,hit2,hit];omega
      clear hit hbw hin hex;have hwz:w.heap.size=w.heap.size:=rfl;generalize wr.iterAt w.heap.size s (pos+1)=w2 at *;have hnm:nmc pos s[pos]=(sml (s[pos]).toNat||(pos != 0&&(dig (s[pos]).toNat||(s[pos]).toNat==95))):=rfl;rw[hnm] at hgo hno;clear hnm;generalize hrn:(s[pos]'hp).toNat=r at *;have hr:r<=2147483647:=by omega
      clear hrn;have HG:Hid (((sml r||(pos != 0&&(dig r||r==95)))=true->∀ j (h:j<s.data.toList.length),j<pos+1->nmc j s.data.toList[j]=true)/\((sml r||(pos != 0&&(dig r||r==95)))=false->nameB s.data.toList=false)):=⟨hgo,hno⟩
      clear hgo hno;cases h1:sml r
      ·by_cases hz:pos=0
       ·have fin:nameB s.data.toList=false:=HG.out.2 (by simp[h1,hz]);subst hz;clear HG hme;go_wp2_with (go_at_call 165;refine(sml_c r _ hr).mono ?_;rw[h1];rintro e w1 ⟨rfl,rfl⟩);go_ret;exact⟨by rw[fin];rfl,hbw2⟩
       ·have hz':¬(pos:Int)=0:=by omega
        cases h2:dig r
        ·by_cases h3:r=95
         ·have RL:=HG.out.1 (by simp[h3,hz]);clear HG;subst h3;go_wp2_with (first|(go_at_call 165;refine(sml_c 95 _ hr).mono ?_;rw[h1];rintro e w1 ⟨rfl,rfl⟩)|(go_at_call 166;refine(dig_c 95 _ hr).mono ?_;rw[h2];rintro e w1 ⟨rfl,rfl⟩));go_roundw
          case rel=>(try ((repeat apply Exists.intro);refine⟨?_,rfl⟩));exact⟨pos+1,hit2,by omega,RL,hbw2⟩
          case measure=>exact hme
         ·have fin:nameB s.data.toList=false:=HG.out.2 (by simp[h1,h2,h3]);have h3':¬(r:Int)=95:=by omega
          have h3b:((r:Int) != 95)=true:=by simpa using h3'
          clear HG hme;go_wp2_with (first|(go_at_call 165;refine(sml_c r _ hr).mono ?_;rw[h1];rintro e w1 ⟨rfl,rfl⟩)|(go_at_call 166;refine(dig_c r _ hr).mono ?_;rw[h2];rintro e w1 ⟨rfl,rfl⟩));go_ret;exact⟨by rw[fin];rfl,hbw2⟩
        ·have RL:=HG.out.1 (by simp[h2,hz]);clear HG;go_wp2_with (first|(go_at_call 165;refine(sml_c r _ hr).mono ?_;rw[h1];rintro e w1 ⟨rfl,rfl⟩)|(go_at_call 166;refine(dig_c r _ hr).mono ?_;rw[h2];rintro e w1 ⟨rfl,rfl⟩));go_roundw
         case rel=>(try ((repeat apply Exists.intro);refine⟨?_,rfl⟩));exact⟨pos+1,hit2,by omega,RL,hbw2⟩
         case measure=>exact hme
      ·have RL:=HG.out.1 (by simp[h1]);clear HG;go_wp2_with (go_at_call 165;refine(sml_c r _ hr).mono ?_;rw[h1];rintro e w1 ⟨rfl,rfl⟩);go_roundw
       case rel=>(try ((repeat apply Exists.intro);refine⟨?_,rfl⟩));exact⟨pos+1,hit2,by omega,RL,hbw2⟩
       case measure=>exact hme
     ·have fin:nameB s.data.toList=false:=nameB_not pos hpl (by rw[data_get s pos hp hpl];exact nmc_high _ _ (by omega));have hnx:∀ ty,(Instr.next (.pointer (some ⟨w.heap.size,0,none⟩)) true ty).run Tryz.prog wr=_:=fun ty=>Lib.run_next_any_at wr w.heap.size s pos ty hit hp;have hbw2:=Lib.below_iterAt hbw (k:=w.heap.size) (by omega) s (pos+(Utf8.decode s pos).2);have hr:=decode_le s pos;have hr2:=(decode_high s pos hp (by omega)).1;generalize wr.iterAt w.heap.size s (pos+(Utf8.decode s pos).2)=w2 at *;generalize (Utf8.decode s pos).1=r at *;have h1:sml r=false:=by simp[sml];omega
      have h2:dig r=false:=by simp[dig];omega
      have h3':¬(r:Int)=95:=by omega
      have h3b:((r:Int) != 95)=true:=by simpa using h3'
      clear hit hbw hin ha;by_cases hz:pos=0
      ·subst hz;go_wp2_with (go_at_call 165;refine(sml_c r _ hr).mono ?_;rw[h1];rintro e w1 ⟨rfl,rfl⟩);go_ret;exact⟨by rw[fin];rfl,hbw2⟩
      ·have hz':¬(pos:Int)=0:=by omega
       go_wp2_with (first|(go_at_call 165;refine(sml_c r _ hr).mono ?_;rw[h1];rintro e w1 ⟨rfl,rfl⟩)|(go_at_call 166;refine(dig_c r _ hr).mono ?_;rw[h2];rintro e w1 ⟨rfl,rfl⟩));go_ret;exact⟨by rw[fin];rfl,hbw2⟩
    ·have hnx:∀ ty,(Instr.next (.pointer (some ⟨w.heap.size,0,none⟩)) true ty).run Tryz.prog wr=_:=fun ty=>Lib.run_next_end_at wr w.heap.size s pos ty hit hp;have hW2:=hW.below hbw;have fin:nameB s.data.toList=!wordB s.data.toList:=by
      have hl:=HL.out;cases hw:wordB s.data.toList
      ·exact(nameB_iff _).2 ⟨by omega,by omega,fun j h=>hin j h (by omega),hw⟩
      ·show _=false;rw[<-Bool.not_eq_true,nameB_iff];rintro ⟨_,_,_,h⟩;rw[hw] at h;cases h
     clear hin hit;go_wp2_with (go_at_call 167;refine(word_c s _ hW2 hs').mono ?_;rintro e w1 ⟨rfl,rfl⟩);go_ret;exact⟨by rw[fin];rfl,hbw⟩
abbrev tka (x:Tk):Array Value:=#[.int .i64 (x.k:Nat),.int .i64 x.n,.string ⟨x.t.toArray⟩,.int .i64 (x.a:Nat)]
theorem back_text (t:ByteArray):(⟨t.data.toList.toArray⟩:ByteArray)=t:=by cases t;simp
theorem set4 {w:World}{b:Nat}{a0 a1 a2 a3:Value}{t:TypeId}(v0 v1 v2 v3:Value)(h:w.heap[b]?=some (.cells #[a0,a1,a2,a3] t (0,0))) :
  ((((w.setCell ⟨b,0,none⟩ v0).setCell ⟨b,1,none⟩ v1).setCell ⟨b,2,none⟩ v2).setCell ⟨b,3,none⟩ v3).heap[b]?=some (.cells #[v0,v1,v2,v3] t (0,0)):=by
 have h0:=heap_setCell_same w b 0 _ t v0 h;have h1:=heap_setCell_same _ b 1 _ t v1 h0;have h2:=heap_setCell_same _ b 2 _ t v2 h1;have h3:=heap_setCell_same _ b 3 _ t v3 h2;simpa using h3
theorem b2 (w:World)(A B:Obj):Below w.heap.size w ((w.alloc A).alloc B):=(b1 _ _).trans ((b1 _ _).mono (by simp))
theorem bset4 {w w1:World}{b:Nat}(v0 v1 v2 v3:Value)(h:Below w.heap.size w w1)(hb:w.heap.size<=b) :
  Below w.heap.size w ((((w1.setCell ⟨b,0,none⟩ v0).setCell ⟨b,1,none⟩ v1).setCell ⟨b,2,none⟩ v2).setCell ⟨b,3,none⟩ v3) :=
 ((((h.setCell (p:=⟨b,0,none⟩) hb v0).setCell (p:=⟨b,1,none⟩) hb v1).setCell (p:=⟨b,2,none⟩) hb v2).setCell (p:=⟨b,3,none⟩) hb v3)
theorem head_at (t:ByteArray)(h:0<t.size):t.data.toList.head?=some t[0]:=by
 have hl:0<t.data.toList.length:=by rw[data_len];exact h
 rw[List.head?_eq_getElem?,List.getElem?_eq_getElem hl,data_get t 0 h hl]
theorem Blk.set {w:World}{o:Nat->Nat}{i b:Nat}{cs:Array Value}{t:TypeId}(h:Blk w o i b (.cells cs t (0,0)))(j:Nat)(u:Value):Blk (w.setCell ⟨b,j,none⟩ u) o i b (.cells (cs.setIfInBounds j u) t (0,0)) :=
 ⟨heap_setCell_same w b j cs t u h.1,h.2⟩
theorem setStep (I:Nat->Prop)(w:World)(o:Nat->Nat)(p:Addr)(u:Value)(hp:I (o p.block)):Step I w o (w.setCell p u) o:=(Step.refl I w o).setCell p u hp
theorem allocStep (I:Nat->Prop)(w:World)(o:Nat->Nat)(ob:Obj):Step I w o (w.alloc ob) o:=(Step.refl I w o).alloc ob
theorem infoInt:(Tryz.prog.info? 3).map (fun i=>(i.zero,i.size,i.bytes))=some (some (.int .i64 0),1,8):=by kernel_rfl
theorem Blk.cells4 {w:World}{o:Nat->Nat}{i b:Nat}{a0 a1 a2 a3:Value}{t:TypeId}(h:Blk w o i b (.cells #[a0,a1,a2,a3] t (0,0))) :
  w.cell? ⟨b,0,none⟩=some a0/\w.cell? ⟨b,1,none⟩=some a1/\w.cell? ⟨b,2,none⟩=some a2/\w.cell? ⟨b,3,none⟩=some a3/\∀ j,w.frozen? ⟨b,j,none⟩=false:=by
 refine⟨?_,?_,?_,?_,fun j=>frozen_of_row w b j _ t h.1⟩<;>simp[cell_of_row w b _ _ t (0,0) h.1]
theorem ext_list (s:ByteArray)(a b:Nat):(s.extract a b).data.toList=(s.data.toList.drop a).take (b-a):=by
 rw[ByteArray.data_extract,Array.toList_extract,List.extract_eq_take_drop]
theorem ext_eq (s:ByteArray)(a b:Nat):s.extract a b=⟨((s.data.toList.drop a).take (b-a)).toArray⟩:=by
 rw[<-ext_list,back_text]
theorem drop_at (l:List UInt8)(pos:Nat)(h:pos<l.length):l.drop pos=l[pos]::l.drop (pos+1):=List.drop_eq_getElem_cons h
theorem Step.ofBelow {I:Nat->Prop}{w w':World}(o:Nat->Nat)(h:Below w.heap.size w w'):Step I w o w' o:=⟨h.os,h.tape,h.output,h.size,fun _ _=>rfl,fun k hk _=>h.block k hk⟩
theorem info_parts {P:Program}{t:TypeId}{z:Option Value}{s b:Nat}(h:(P.info? t).map (fun i=>(i.zero,i.size,i.bytes))=some (z,s,b)):∃i,P.info? t=some i/\i.zero=z/\i.size=s/\i.bytes=b:=by
 cases hi:P.info? t with
 | none=>rw[hi] at h;cases h
 | some i =>
  rw[hi] at h;injection h with h
  exact⟨i,rfl,(congrArg (·.1) h),(congrArg (·.2.1) h),(congrArg (·.2.2) h)⟩
theorem new_four_at {w:World}{s:Nat}(hs:w.heap.size=s)(x y z q:Value)(t:TypeId):∀ j u,[x,y,z,q][j]?=some u->(w.alloc (.cells #[x,y,z,q] t)).cell? ((⟨s,0,none⟩:Addr).add j)=some u:=by
 subst hs;intro j u hj
 match j,hj with
 | 0,hj=>simp at hj;subst hj;simp[Addr.add]
 | 1,hj=>simp at hj;subst hj;simp[Addr.add]
 | 2,hj=>simp at hj;subst hj;simp[Addr.add]
 | 3,hj=>simp at hj;subst hj;simp[Addr.add]
theorem infoToken:(Tryz.prog.info? 73).map (fun i=>(i.zero,i.size,i.bytes))=some (some (.agg #[.int .i64 0,.int .i64 0,.string ⟨#[]⟩,.int .i64 0]),4,40):=by kernel_rfl
def tcells (ts:List Tk):List Value:=ts.flatMap fun x=>[.int .i64 (x.k:Nat),.int .i64 x.n,.string ⟨x.t.toArray⟩,.int .i64 (x.a:Nat)]
theorem tcells_more (ts:List Tk)(x:Tk):tcells (ts++[x])=tcells ts++[.int .i64 (x.k:Nat),.int .i64 x.n,.string ⟨x.t.toArray⟩,.int .i64 (x.a:Nat)]:=by
 simp[tcells]
def preR:List Tk->Res->Res
 | [],X=>X
 | x::r,X=>consR x (preR r X)
theorem preR_more (ts:List Tk)(x:Tk)(X:Res):preR (ts++[x]) X=preR ts (consR x X):=by
 induction ts with
 | nil=>rfl
 | cons y r ih=>simp only[List.cons_append,preR,ih]
theorem preR_inl (ts:List Tk)(e:Nat × Nat):preR ts (.inl e)=.inl e:=by
 induction ts with
 | nil=>rfl
 | cons y r ih=>simp only[preR,ih];rfl
theorem preR_inr (ts us:List Tk):preR ts (.inr us)=.inr (ts++us):=by
 induction ts with
 | nil=>rfl
 | cons y r ih=>simp only[preR,ih];rfl
theorem ptok_err {k:Nat}{t:List UInt8}{a e:Nat}(h:ptok k t a=.inl e):e=110\/e=111\/e=112:=by
 unfold ptok at h;split at h
 ·unfold wrdT at h
  repeat' split at h
  all_goals first|(injection h with h;omega)|cases h
 ·unfold numT at h
  repeat' split at h
  all_goals first|(injection h with h;omega)|cases h
 ·unfold sgnT at h;split at h
  all_goals first|(injection h with h;omega)|cases h
 ·injection h with h
  omega
def ScanOut (w w':World)(v:Value)(er at0:Int)(R:Res):Prop :=
 (∃e p,R=.inl (e,p)/\v=.slice none 0 0/\er=(e:Nat)/\at0=(p:Nat))\/(∃ts,R=.inr ts/\er=0/\at0=0/\w'.ownsRow w.heap.size 73 4 v ts.length (tcells ts))
theorem Row.fresh {I:Nat->Prop}{w w':World}{o':Nat->Nat}{i:Nat}{e:TypeId}{size:Nat}{v:Value}{n:Nat}{xs:List Value}(r:Row w' o' (i+1) e size v n xs)(s:Step I w (fun _=>0) w' o'):w'.ownsRow w.heap.size e size v n xs:=by
 refine⟨r.1.1,?_⟩;rcases r.1.2 with h|⟨g,cap,cur,rfl,hb,rest⟩
 ·exact .inl h
 ·refine .inr ⟨g,cap,cur,rfl,?_,rest⟩;by_cases hg:g<w.heap.size
  ·have h1:=s.lab g hg;have h2:=r.2 g rfl;omega
  ·omega
theorem bdr {B:Nat}{w w':World}(h:Below B w w')(n:Nat):Below B w (w'.drewN n):=⟨h.os,h.tape,h.output,h.size,h.block⟩
structure Keep (rb:Nat)(w w':World):Prop where
 os:w'.os=w.os
 tape:w'.tape=w.tape
 output:w'.output=w.output
 size:w.heap.size<=w'.heap.size
 block:∀ k,k<w.heap.size->k≠rb->w'.heap[k]?=w.heap[k]?
theorem Keep.refl (rb:Nat)(w:World):Keep rb w w:=⟨rfl,rfl,rfl,Nat.le_refl _,fun _ _ _=>rfl⟩
theorem Keep.trans {rb:Nat}{a b c:World}(h:Keep rb a b)(k:Keep rb b c):Keep rb a c :=
 ⟨k.os.trans h.os,k.tape.trans h.tape,k.output.trans h.output,Nat.le_trans h.size k.size,fun i hi hn=>(k.block i (Nat.lt_of_lt_of_le hi h.size) hn).trans (h.block i hi hn)⟩
theorem Keep.ofBelow {rb:Nat}{w w':World}(h:Below w.heap.size w w'):Keep rb w w':=⟨h.os,h.tape,h.output,h.size,fun k hk _=>h.block k hk⟩
theorem Keep.alloc {rb:Nat}{a w:World}(h:Keep rb a w)(ob:Obj):Keep rb a (w.alloc ob) :=
 h.trans ⟨rfl,rfl,rfl,by simp,fun k hk _=>Below.heap_alloc w ob k hk⟩
theorem Keep.drew {rb:Nat}{a w:World}(h:Keep rb a w):Keep rb a w.drew:=⟨h.os,h.tape,h.output,h.size,h.block⟩
theorem Keep.set {rb:Nat}{a w:World}(h:Keep rb a w)(p:Addr)(u:Value)(hp:a.heap.size<=p.block\/p.block=rb):Keep rb a (w.setCell p u) :=
 ⟨h.os,h.tape,h.output,by simpa using h.size,fun k hk hn=>(heap_setCell_other w p k u (fun e=>by
  rcases hp with hp|hp
  ·omega
  ·exact hn (e.trans hp))).trans (h.block k hk hn)⟩
theorem Keep.below {rb n:Nat}{w w':World}(h:Keep rb w w')(hn:n<=rb)(hs:rb<w.heap.size):Below n w w':=⟨h.os,h.tape,h.output,h.size,fun k hk=>h.block k (by omega) (by omega)⟩
theorem Keep.cell {rb:Nat}{w w':World}(h:Keep rb w w'){b:Nat}(hb:b<w.heap.size)(hn:b≠rb)(j:Nat):w'.cell? ⟨b,j,none⟩=w.cell? ⟨b,j,none⟩:=World.cell?_of_block (a:=⟨b,j,none⟩) (h.block b hb hn)
abbrev stv (t:List UInt8):Value:=.string ⟨t.toArray⟩
def Fc (w:World)(P:Nat->Prop):Fs->List Value->Prop
 | ⟨none⟩,xs=>xs=[]
 | ⟨some ⟨k,n,nm,a,ks,r⟩⟩,xs=>∃ao cap ys,xs=.int .i64 k::.int .i64 n::stv nm::.slice ao ks.len cap::.int .i64 a::ys /\
   (ks=.nil\/∃b off zs,ao=some ⟨b,off,none⟩/\P b/\b<w.heap.size/\(∀ j u,zs[j]?=some u->w.cell? ⟨b,off+j,none⟩=some u)/\Fc w P ks zs)/\Fc w P r ys
def Sl (w:World)(P:Nat->Prop)(ks:Fs)(ao:Option Addr):Prop :=
 ks=.nil\/∃b off zs,ao=some ⟨b,off,none⟩/\P b/\b<w.heap.size/\(∀ j u,zs[j]?=some u->w.cell? ⟨b,off+j,none⟩=some u)/\Fc w P ks zs
def exV (e:Ex)(ao:Option Addr)(cap:Nat):Value:=.agg #[.int .i64 e.k,.int .i64 e.n,stv e.nm,.slice ao e.kids.len cap,.int .i64 e.a]
theorem Fc.len {w:World}{P:Nat->Prop}:∀ {f:Fs}{xs:List Value},Fc w P f xs->xs.length=f.len*5
 | ⟨none⟩,xs,h=>by
  have h:xs=[]:=h;subst h;rfl
 | ⟨some ⟨k,n,nm,a,ks,r⟩⟩,xs,h=>by
  obtain⟨ao,cap,ys,rfl,_,h2⟩:=h
  have:=Fc.len h2
  simp only[List.length_cons,Fs.len];omega
theorem Fc.mono {w w':World}{P Q:Nat->Prop}(hb:∀ k,P k->k<w.heap.size->w'.heap[k]?=w.heap[k]?)(hs:w.heap.size<=w'.heap.size)(hq:∀ k,P k->k<w.heap.size->Q k):∀ {f:Fs}{xs:List Value},Fc w P f xs->Fc w' Q f xs
 | ⟨none⟩,xs,h=>h
 | ⟨some ⟨k,n,nm,a,ks,r⟩⟩,xs,h=>by
  obtain⟨ao,cap,ys,rfl,h1,h2⟩:=h;refine⟨ao,cap,ys,rfl,?_,Fc.mono hb hs hq h2⟩;rcases h1 with h1|⟨b,off,zs,rfl,hp,hlt,hc,h3⟩
  ·exact .inl h1
  ·exact .inr ⟨b,off,zs,rfl,hq b hp hlt,Nat.lt_of_lt_of_le hlt hs,fun j u hu=>(World.cell?_of_block (a:=⟨b,off+j,none⟩) (hb b hp hlt)).trans (hc j u hu),Fc.mono hb hs hq h3⟩
theorem Sl.mono {w w':World}{P Q:Nat->Prop}{f:Fs}{ao:Option Addr}(hb:∀ k,P k->k<w.heap.size->w'.heap[k]?=w.heap[k]?)(hs:w.heap.size<=w'.heap.size)(hq:∀ k,P k->k<w.heap.size->Q k)(h:Sl w P f ao):Sl w' Q f ao:=by
 rcases h with h|⟨b,off,zs,rfl,hp,hlt,hc,h3⟩
 ·exact .inl h
 ·exact .inr ⟨b,off,zs,rfl,hq b hp hlt,Nat.lt_of_lt_of_le hlt hs,fun j u hu=>(World.cell?_of_block (a:=⟨b,off+j,none⟩) (hb b hp hlt)).trans (hc j u hu),h3.mono hb hs hq⟩
theorem Fc.app {w:World}{P:Nat->Prop}:∀ {f g:Fs}{xs ys:List Value},Fc w P f xs->Fc w P g ys->Fc w P (f.app g) (xs++ys)
 | ⟨none⟩,g,xs,ys,h,k=>by
  have h:xs=[]:=h;subst h;exact k
 | ⟨some ⟨i,n,nm,a,ks,r⟩⟩,g,xs,ys,h,k=>by
  obtain⟨ao,cap,zs,rfl,h1,h2⟩:=h;exact⟨ao,cap,zs++ys,rfl,h1,Fc.app h2 k⟩
theorem Fc.one {w:World}{P:Nat->Prop}{e:Ex}{ao:Option Addr}(cap:Nat)(h:Sl w P e.kids ao):Fc w P (one e) [.int .i64 e.k,.int .i64 e.n,stv e.nm,.slice ao e.kids.len cap,.int .i64 e.a]:=⟨ao,cap,[],rfl,h,rfl⟩
theorem Sl.of {w:World}{P:Nat->Prop}{f:Fs}{b:Nat}{xs:List Value}(hp:P b)(hlt:b<w.heap.size)(hc:∀ j u,xs[j]?=some u->w.cell? ⟨b,0+j,none⟩=some u)(h:Fc w P f xs):Sl w P f (some ⟨b,0,none⟩):=.inr ⟨b,0,xs,rfl,hp,hlt,hc,h⟩
theorem Sl.nil (w:World)(P:Nat->Prop)(ao:Option Addr):Sl w P .nil ao:=.inl rfl
theorem tkcells_at:∀ (l:List Tk) (i:Nat) (x:Tk),l[i]?=some x->(tcells l)[i*4]?=some (.int .i64 (x.k:Nat))/\(tcells l)[i*4+1]?=some (.int .i64 x.n)/\(tcells l)[i*4+2]?=some (stv x.t)/\(tcells l)[i*4+3]?=some (.int .i64 (x.a:Nat))
 | [],i,x,h=>by simp at h
 | p::r,0,x,h=>by
  simp at h;subst h;exact⟨rfl,rfl,rfl,rfl⟩
 | p::r,i+1,x,h=>by
  have e:tcells (p::r)=.int .i64 (p.k:Nat)::.int .i64 p.n::stv p.t::.int .i64 (p.a:Nat)::tcells r:=rfl;have e1:(i+1)*4=i*4+1+1+1+1:=by omega
  have ih:=tkcells_at r i x (by simpa using h);rw[e,e1];exact ih
abbrev Nw (n:Nat):Nat->Prop:=fun b=>n<=b
theorem Sl.keepN {rb n:Nat}{w w':World}{f:Fs}{ao:Option Addr}(h:Sl w (Nw n) f ao)(k:Keep rb w w')(hn:rb<n):Sl w' (Nw n) f ao:=h.mono (fun i hp hl=>k.block i hl (by have hp:n<=i:=hp;omega)) k.size (fun _ h _=>h)
theorem Sl.setN {n:Nat}{w:World}{f:Fs}{ao:Option Addr}(h:Sl w (Nw n) f ao)(p:Addr)(v:Value)(hp:p.block<n):Sl (w.setCell p v) (Nw n) f ao:=h.mono (fun i hp hl=>heap_setCell_other w p i v (by have hp:n<=i:=hp;omega)) (by simp) (fun _ h _=>h)
theorem Sl.allocN {n:Nat}{w:World}{f:Fs}{ao:Option Addr}(h:Sl w (Nw n) f ao)(ob:Obj):Sl (w.alloc ob) (Nw n) f ao:=h.mono (fun i hp hl=>Below.heap_alloc w ob i hl) (by simp) (fun _ h _=>h)
theorem Sl.low {n m:Nat}{w:World}{f:Fs}{ao:Option Addr}(h:Sl w (Nw n) f ao)(hm:m<=n):Sl w (Nw m) f ao:=h.mono (fun i hp hl=>rfl) (Nat.le_refl _) (fun i h _=>Nat.le_trans hm h)
theorem Fc.allocN {n:Nat}{w:World}{f:Fs}{xs:List Value}(h:Fc w (Nw n) f xs)(ob:Obj):Fc (w.alloc ob) (Nw n) f xs:=h.mono (fun i hp hl=>Below.heap_alloc w ob i hl) (by simp) (fun _ h _=>h)
theorem Blk.cells5 {w:World}{o:Nat->Nat}{i b:Nat}{a0 a1 a2 a3 a4:Value}{t:TypeId}(h:Blk w o i b (.cells #[a0,a1,a2,a3,a4] t (0,0))) :
  w.cell? ⟨b,0,none⟩=some a0/\w.cell? ⟨b,1,none⟩=some a1/\w.cell? ⟨b,2,none⟩=some a2/\w.cell? ⟨b,3,none⟩=some a3/\w.cell? ⟨b,4,none⟩=some a4/\∀ j,w.frozen? ⟨b,j,none⟩=false:=by
 refine⟨?_,?_,?_,?_,?_,fun j=>frozen_of_row w b j _ t h.1⟩<;>simp[cell_of_row w b _ _ t (0,0) h.1]
theorem Blk.cells2 {w:World}{o:Nat->Nat}{i b:Nat}{a0 a1:Value}{t:TypeId}(h:Blk w o i b (.cells #[a0,a1] t (0,0))) :
  w.cell? ⟨b,0,none⟩=some a0/\w.cell? ⟨b,1,none⟩=some a1/\∀ j,w.frozen? ⟨b,j,none⟩=false:=by
 refine⟨?_,?_,fun j=>frozen_of_row w b j _ t h.1⟩<;>simp[cell_of_row w b _ _ t (0,0) h.1]
def opOf (t:Int):Option (List UInt8 × Nat × Nat × Nat × Nat):=opsL.find? fun x=>(x.2.1:Int)==t
def callOf (t:Int):Option (List UInt8 × Nat × Nat):=callsL.find? fun x=>(x.2.1:Int)==t
def quantOf (t:Int):Option (List UInt8 × Nat):=quantsL.find? fun x=>(x.2:Int)==t
set_option linter.unusedSimpArgs false
def isSetK (k:Int):Bool:=k==22||k==23||k==24||k==25
def rowOf (k:Int):Nat:=if k==19||k==21 then 0 else if k==7 then 3 else if k==6 then 7 else match opOf k with|some x=>x.2.2.1|none=>8
def numB (k n:Int):Bool:=if k==1||k==3 then decide (0<=n) else if k==2 then n==0||n==1 else if k==20 then (callOf n).isSome else if k==21 then (quantOf n).isSome else n==0
def namB (k:Int)(nm:List UInt8):Bool:=if k==4||k==23||k==21 then nameB nm else nm==[]
def kidB (k n:Int)(m:Nat):Bool:=if k==1||k==2||k==3||k==4||k==22||k==23 then (m:Int)==0 else if k==6||k==7||k==24 then (m:Int)==1 else if k==21 then (m:Int)==2 else if k==19 then (m:Int)==3 else if k==20 then (match callOf n with|some x=>(m:Int)==(x.2.2:Nat)|none=>(m:Int)==0) else if k==25 then true else (opOf k).isSome&&(m:Int)==2
theorem bne {k:Int}{c:Int}(h:k≠c):(k==c)=false:=by rw[beq_eq_false_iff_ne];exact h
theorem set4k {w:World}{b:Nat}{a0 a1 a2 a3 b0 b1 b2 b3:Value}{t:TypeId}(h:w.heap[b]?=some (.cells #[a0,a1,a2,a3] t (0,0))):((((w.setCell ⟨b,0,none⟩ b0).setCell ⟨b,1,none⟩ b1).setCell ⟨b,2,none⟩ b2).setCell ⟨b,3,none⟩ b3).heap[b]?=some (.cells #[b0,b1,b2,b3] t (0,0)):=by
 have h0:Blk w (fun _=>0) 0 b (.cells #[a0,a1,a2,a3] t (0,0)):=⟨h,rfl⟩
 exact((((h0.set 0 b0).set 1 b1).set 2 b2).set 3 b3).1
abbrev exZ:Obj:=.cells #[.int .i64 0,.int .i64 0,.string ⟨#[]⟩,.slice none 0 0,.int .i64 0] 25
theorem set5k {w:World}{b:Nat}{a0 a1 a2 a3 a4:Value}(b0 b1 b2 b3 b4:Value){t:TypeId}(h:w.heap[b]?=some (.cells #[a0,a1,a2,a3,a4] t (0,0))):(((((w.setCell ⟨b,0,none⟩ b0).setCell ⟨b,1,none⟩ b1).setCell ⟨b,2,none⟩ b2).setCell ⟨b,3,none⟩ b3).setCell ⟨b,4,none⟩ b4).heap[b]?=some (.cells #[b0,b1,b2,b3,b4] t (0,0)):=by
 have h0:Blk w (fun _=>0) 0 b (.cells #[a0,a1,a2,a3,a4] t (0,0)):=⟨h,rfl⟩
 exact(((((h0.set 0 b0).set 1 b1).set 2 b2).set 3 b3).set 4 b4).1
theorem Keep.set5 {rb:Nat}{a w:World}(h:Keep rb a w){b:Nat}(hb:a.heap.size<=b)(b0 b1 b2 b3 b4:Value):Keep rb a (((((w.setCell ⟨b,0,none⟩ b0).setCell ⟨b,1,none⟩ b1).setCell ⟨b,2,none⟩ b2).setCell ⟨b,3,none⟩ b3).setCell ⟨b,4,none⟩ b4):=((((h.set ⟨b,0,none⟩ b0 (.inl hb)).set ⟨b,1,none⟩ b1 (.inl hb)).set ⟨b,2,none⟩ b2 (.inl hb)).set ⟨b,3,none⟩ b3 (.inl hb)).set ⟨b,4,none⟩ b4 (.inl hb)
theorem Sl.set5 {n:Nat}{w:World}{f:Fs}{ao:Option Addr}(h:Sl w (Nw n) f ao){b:Nat}(hb:b<n)(b0 b1 b2 b3 b4:Value):Sl (((((w.setCell ⟨b,0,none⟩ b0).setCell ⟨b,1,none⟩ b1).setCell ⟨b,2,none⟩ b2).setCell ⟨b,3,none⟩ b3).setCell ⟨b,4,none⟩ b4) (Nw n) f ao:=((((h.setN ⟨b,0,none⟩ b0 hb).setN ⟨b,1,none⟩ b1 hb).setN ⟨b,2,none⟩ b2 hb).setN ⟨b,3,none⟩ b3 hb).setN ⟨b,4,none⟩ b4 hb
theorem box5 {w:World}{b:Nat}{a0 a1 a2 a3 a4:Value}{t:TypeId}(h:w.heap[b]?=some (.cells #[a0,a1,a2,a3,a4] t (0,0))) :
  w.cell? ⟨b,0,none⟩=some a0/\w.cell? ⟨b,1,none⟩=some a1/\w.cell? ⟨b,2,none⟩=some a2/\w.cell? ⟨b,3,none⟩=some a3/\w.cell? ⟨b,4,none⟩=some a4/\∀ j,w.frozen? ⟨b,j,none⟩=false:=Blk.cells5 (o:=fun _=>0) (i:=0) ⟨h,rfl⟩
theorem Keep.blk {rb:Nat}{w w':World}(k:Keep rb w w'){b:Nat}{ob:Obj}(h:w.heap[b]?=some ob)(hb:b≠rb):w'.heap[b]?=some ob:=(k.block b (lt_of_block h) hb).trans h
theorem Sl.fresh {w:World}{n:Nat}{f:Fs}(xs:List Value)(t:TypeId)(h:Fc w (Nw n) f xs)(hn:n<=w.heap.size):Sl (w.alloc (.cells xs.toArray t)) (Nw n) f (some ⟨w.heap.size,0,none⟩):=by
 refine Sl.of hn (by simp) (fun j u hu=>?_) (h.allocN _);rw[Nat.zero_add];rw[cell_of_row _ w.heap.size j _ t (0,0) (heap_alloc_new w _)];simpa using hu
theorem exV_out (e:Ex)(ao:Option Addr)(cap:Nat):exV e ao cap=.agg #[.int .i64 e.k,.int .i64 e.n,stv e.nm,.slice ao e.kids.len cap,.int .i64 e.a]:=rfl
def AccG (w:World)(n0:Nat)(acc:Fs)(g cap:Nat)(xs:List Value):Prop :=
 n0<=g/\w.ownsRow 0 25 5 (.slice (some ⟨g,0,none⟩) acc.len cap) acc.len xs/\Fc w (fun b=>n0<=b/\b≠g) acc xs
def Acc (w:World)(n0:Nat)(acc:Fs)(v:Value):Prop:=∃g cap xs,v=.slice (some ⟨g,0,none⟩) acc.len cap/\AccG w n0 acc g cap xs
def lab1 (g:Nat):Nat->Nat:=fun b=>if b=g then 1 else 0
theorem AccG.row {w:World}{n0:Nat}{acc:Fs}{g cap:Nat}{xs:List Value}(h:AccG w n0 acc g cap xs):Row w (lab1 g) 1 25 5 (.slice (some ⟨g,0,none⟩) acc.len cap) acc.len xs :=
 ⟨h.2.1,fun k hk=>by simp[Value.ownBlock] at hk;subst hk;simp[lab1]⟩
theorem Acc.one {w:World}{n0:Nat}{e:Ex}{ao:Option Addr}(cap:Nat)(h:Sl w (Nw n0) e.kids ao)(hn:n0<=w.heap.size) :
  Acc (w.alloc (.cells #[.int .i64 e.k,.int .i64 e.n,stv e.nm,.slice ao e.kids.len cap,.int .i64 e.a] 25)) n0 (one e) (.slice (some ⟨w.heap.size,0,none⟩) 1 1):=by
 refine⟨w.heap.size,1,_,rfl,hn,World.ownsRow_lit w _ 1 (Nat.zero_le _) (by unfold maxLen;omega) (by simp),?_⟩;exact(Fc.one cap h).mono (fun i hp hl=>Below.heap_alloc w _ i hl) (by simp) (fun i hp hl=>⟨hp,Nat.ne_of_lt hl⟩)
theorem Acc.keep {rb n0:Nat}{w w':World}{acc:Fs}{v:Value}(h:Acc w n0 acc v)(k:Keep rb w w')(hn:rb<n0):Acc w' n0 acc v:=by
 obtain⟨g,cap,xs,rfl,hg,ho,hf⟩:=h;have r:Row w (fun b=>if b=rb then 7 else 1) 1 25 5 (.slice (some ⟨g,0,none⟩) acc.len cap) acc.len xs:=⟨ho,fun j hj=>by simp[Value.ownBlock] at hj;subst hj;show (if g=rb then 7 else 1)=1;rw[if_neg (by omega)]⟩
 have s:Step (fun x=>x=7) w (fun b=>if b=rb then 7 else 1) w' (fun b=>if b=rb then 7 else 1):=⟨k.os,k.tape,k.output,k.size,fun _ _=>rfl,fun j hj hn=>k.block j hj (fun e=>hn (by simp[e]))⟩
 exact⟨g,cap,xs,rfl,hg,(r.step s (by decide)).1,hf.mono (fun i hp hl=>k.block i hl (by have:=hp.1;omega)) k.size (fun _ h _=>h)⟩
theorem Acc.sl {w:World}{n0:Nat}{acc:Fs}{v:Value}(h:Acc w n0 acc v):∃ao cap,v=.slice ao acc.len cap/\Sl w (Nw n0) acc ao:=by
 obtain⟨g,cap,xs,rfl,h⟩:=h;refine⟨_,cap,rfl,?_⟩;by_cases h0:0<acc.len
 ·obtain⟨g',cap',hv,_,_,_,hlt,hc,_⟩:=h.row.pos h0;simp only[Value.slice.injEq,Option.some.injEq,Addr.mk.injEq,true_and,and_true] at hv;obtain⟨rfl,rfl⟩:=hv;have hl:=h.row.len;refine Sl.of h.1 hlt (fun j u hu=>?_) (h.2.2.mono (fun _ _ _=>rfl) (Nat.le_refl _) (fun _ hp _=>hp.1));rw[Nat.zero_add,hc j ?_]
  ·exact hu
  ·rw[<-hl];by_cases hj:j<xs.length
   ·exact hj
   ·rw[List.getElem?_eq_none (by omega)] at hu;cases hu
 ·refine .inl ?_;cases acc using Fs.on with
  | nil=>rfl
  | cons k n nm a ks r=>simp[Fs.len] at h0
theorem Keep.step1 {rb g:Nat}{a w w2:World}{o2:Nat->Nat}(K:Keep rb a w)(s:Step (fun x=>x=1) w (lab1 g) w2 o2)(hg:a.heap.size<=g):Keep rb a w2 :=
 ⟨s.os.trans K.os,s.tape.trans K.tape,s.output.trans K.output,Nat.le_trans K.size s.size,fun k hk hn=>(s.block k (Nat.lt_of_lt_of_le hk K.size) (by unfold lab1;rw[if_neg (by omega)];decide)).trans (K.block k hk hn)⟩
theorem Acc.push {w w2:World}{o2:Nat->Nat}{n0 n1 g cap g2 c2:Nat}{acc:Fs}{xs:List Value}{e:Ex}{ao:Option Addr}{ce:Nat}(h:AccG w n0 acc g cap xs)(S:Sl w (Nw n1) e.kids ao)(hn1:g<n1)(hw:n0<=w.heap.size)
  (s:Step (fun x=>x=1) w (lab1 g) w2 o2) (r:Row w2 o2 1 25 5 (.slice (some ⟨g2,0,none⟩) (acc.len+1) c2) (acc.len+1) (xs++[.int .i64 e.k,.int .i64 e.n,stv e.nm,.slice ao e.kids.len ce,.int .i64 e.a])) :
  Acc w2 n0 (acc.snoc e) (.slice (some ⟨g2,0,none⟩) (acc.len+1) c2):=by
 have hl:(acc.snoc e).len=acc.len+1:=Fs.len_snoc acc e;have h2:o2 g2=1:=r.2 g2 rfl;have hlt2:g2<w2.heap.size:=r.lt rfl;have hg2:n0<=g2:=by
  by_cases hlt:g2<w.heap.size
  ·have:=(s.lab g2 hlt).symm.trans h2
   unfold lab1 at this;by_cases e:g2=g
   ·rw[e];exact h.1
   ·rw[if_neg e] at this;cases this
  ·omega
 have hb:∀ k,(n0<=k/\k≠g)->k<w.heap.size->w2.heap[k]?=w.heap[k]?:=fun k hk hl=>s.block k hl (by unfold lab1;rw[if_neg hk.2];decide);have hq:∀ k,(n0<=k/\k≠g)->k<w.heap.size->(n0<=k/\k≠g2):=fun k hk hl=>⟨hk.1,fun e=>by
  have:=(s.lab k hl).symm.trans (e ▸ h2)
  unfold lab1 at this;rw[if_neg hk.2] at this;cases this⟩
 refine⟨g2,c2,xs++[.int .i64 e.k,.int .i64 e.n,stv e.nm,.slice ao e.kids.len ce,.int .i64 e.a],by rw[hl],hg2,by rw[hl];exact r.1,?_⟩;have F1:=h.2.2.mono hb s.size hq;have S1:Sl w2 (fun b=>n0<=b/\b≠g2) e.kids ao:=S.mono (fun k hk hl=>hb k ⟨by have hk:n1<=k:=hk;have:=h.1;omega,by have hk:n1<=k:=hk;omega⟩ hl) s.size (fun k hk hl=>hq k ⟨by have hk:n1<=k:=hk;have:=h.1;omega,by have hk:n1<=k:=hk;omega⟩ hl);exact F1.app (Fc.one ce S1)
theorem infoExpr:(Tryz.prog.info? 25).map (fun i=>(i.zero,i.size,i.bytes))=some (some (.agg #[.int .i64 0,.int .i64 0,.string ⟨#[]⟩,.slice none 0 0,.int .i64 0]),5,64):=by kernel_rfl
end Go.Proofs.YtbjdkekhnajafaaGreatDoor

import Derived.Test.YtpdfdhkdfkhfkaaDoorGdW
set_option maxRecDepth 100000
set_option maxHeartbeats 8000000
namespace Go.Proofs.YtpdfdhkdfkhfkaaDoor
open Go.ChangeShapes Go.WideShapes Go.ChangeAt Go.RowKit
set_option linter.unusedVariables false
def wd (k:Nat):ByteArray:=⟨(wordsL.getD k []).toArray⟩
def wordsA:Array Value:=#[.string (wd 0),.string (wd 1),.string (wd 2),.string (wd 3),.string (wd 4),.string (wd 5),.string (wd 6),.string (wd 7),.string (wd 8),.string (wd 9),.string (wd 10),.string (wd 11),.string (wd 12),.string (wd 13),.string (wd 14),.string (wd 15),.string (wd 16),.string (wd 17),.string (wd 18),.string (wd 19),.string (wd 20),.string (wd 21),.string (wd 22),.string (wd 23),.string (wd 24),.string (wd 25),.string (wd 26)]
theorem wix0 (w:World):(Instr.index 114 (.agg wordsA) (.int .i64 0)).run Tryd.prog w=.ok (.string (wd 0)) w:=by kernel_rfl
theorem wix1 (w:World):(Instr.index 114 (.agg wordsA) (.int .i64 1)).run Tryd.prog w=.ok (.string (wd 1)) w:=by kernel_rfl
theorem wix2 (w:World):(Instr.index 114 (.agg wordsA) (.int .i64 2)).run Tryd.prog w=.ok (.string (wd 2)) w:=by kernel_rfl
theorem wix3 (w:World):(Instr.index 114 (.agg wordsA) (.int .i64 3)).run Tryd.prog w=.ok (.string (wd 3)) w:=by kernel_rfl
theorem wix4 (w:World):(Instr.index 114 (.agg wordsA) (.int .i64 4)).run Tryd.prog w=.ok (.string (wd 4)) w:=by kernel_rfl
theorem wix5 (w:World):(Instr.index 114 (.agg wordsA) (.int .i64 5)).run Tryd.prog w=.ok (.string (wd 5)) w:=by kernel_rfl
theorem wix6 (w:World):(Instr.index 114 (.agg wordsA) (.int .i64 6)).run Tryd.prog w=.ok (.string (wd 6)) w:=by kernel_rfl
theorem wix7 (w:World):(Instr.index 114 (.agg wordsA) (.int .i64 7)).run Tryd.prog w=.ok (.string (wd 7)) w:=by kernel_rfl
theorem wix8 (w:World):(Instr.index 114 (.agg wordsA) (.int .i64 8)).run Tryd.prog w=.ok (.string (wd 8)) w:=by kernel_rfl
theorem wix9 (w:World):(Instr.index 114 (.agg wordsA) (.int .i64 9)).run Tryd.prog w=.ok (.string (wd 9)) w:=by kernel_rfl
theorem wix10 (w:World):(Instr.index 114 (.agg wordsA) (.int .i64 10)).run Tryd.prog w=.ok (.string (wd 10)) w:=by kernel_rfl
theorem wix11 (w:World):(Instr.index 114 (.agg wordsA) (.int .i64 11)).run Tryd.prog w=.ok (.string (wd 11)) w:=by kernel_rfl
theorem wix12 (w:World):(Instr.index 114 (.agg wordsA) (.int .i64 12)).run Tryd.prog w=.ok (.string (wd 12)) w:=by kernel_rfl
theorem wix13 (w:World):(Instr.index 114 (.agg wordsA) (.int .i64 13)).run Tryd.prog w=.ok (.string (wd 13)) w:=by kernel_rfl
theorem wix14 (w:World):(Instr.index 114 (.agg wordsA) (.int .i64 14)).run Tryd.prog w=.ok (.string (wd 14)) w:=by kernel_rfl
theorem wix15 (w:World):(Instr.index 114 (.agg wordsA) (.int .i64 15)).run Tryd.prog w=.ok (.string (wd 15)) w:=by kernel_rfl
theorem wix16 (w:World):(Instr.index 114 (.agg wordsA) (.int .i64 16)).run Tryd.prog w=.ok (.string (wd 16)) w:=by kernel_rfl
theorem wix17 (w:World):(Instr.index 114 (.agg wordsA) (.int .i64 17)).run Tryd.prog w=.ok (.string (wd 17)) w:=by kernel_rfl
theorem wix18 (w:World):(Instr.index 114 (.agg wordsA) (.int .i64 18)).run Tryd.prog w=.ok (.string (wd 18)) w:=by kernel_rfl
theorem wix19 (w:World):(Instr.index 114 (.agg wordsA) (.int .i64 19)).run Tryd.prog w=.ok (.string (wd 19)) w:=by kernel_rfl
theorem wix20 (w:World):(Instr.index 114 (.agg wordsA) (.int .i64 20)).run Tryd.prog w=.ok (.string (wd 20)) w:=by kernel_rfl
theorem wix21 (w:World):(Instr.index 114 (.agg wordsA) (.int .i64 21)).run Tryd.prog w=.ok (.string (wd 21)) w:=by kernel_rfl
theorem wix22 (w:World):(Instr.index 114 (.agg wordsA) (.int .i64 22)).run Tryd.prog w=.ok (.string (wd 22)) w:=by kernel_rfl
theorem wix23 (w:World):(Instr.index 114 (.agg wordsA) (.int .i64 23)).run Tryd.prog w=.ok (.string (wd 23)) w:=by kernel_rfl
theorem wix24 (w:World):(Instr.index 114 (.agg wordsA) (.int .i64 24)).run Tryd.prog w=.ok (.string (wd 24)) w:=by kernel_rfl
theorem wix25 (w:World):(Instr.index 114 (.agg wordsA) (.int .i64 25)).run Tryd.prog w=.ok (.string (wd 25)) w:=by kernel_rfl
theorem wix26 (w:World):(Instr.index 114 (.agg wordsA) (.int .i64 26)).run Tryd.prog w=.ok (.string (wd 26)) w:=by kernel_rfl
theorem wordsA_at (k:Nat)(hk:k<27)(w:World):(Instr.index 114 (.agg wordsA) (.int .i64 (k:Nat))).run Tryd.prog w=.ok (.string (wd k)) w:=by
 match k,hk with
 | 0,_=>exact wix0 w
 | 1,_=>exact wix1 w
 | 2,_=>exact wix2 w
 | 3,_=>exact wix3 w
 | 4,_=>exact wix4 w
 | 5,_=>exact wix5 w
 | 6,_=>exact wix6 w
 | 7,_=>exact wix7 w
 | 8,_=>exact wix8 w
 | 9,_=>exact wix9 w
 | 10,_=>exact wix10 w
 | 11,_=>exact wix11 w
 | 12,_=>exact wix12 w
 | 13,_=>exact wix13 w
 | 14,_=>exact wix14 w
 | 15,_=>exact wix15 w
 | 16,_=>exact wix16 w
 | 17,_=>exact wix17 w
 | 18,_=>exact wix18 w
 | 19,_=>exact wix19 w
 | 20,_=>exact wix20 w
 | 21,_=>exact wix21 w
 | 22,_=>exact wix22 w
 | 23,_=>exact wix23 w
 | 24,_=>exact wix24 w
 | 25,_=>exact wix25 w
 | 26,_=>exact wix26 w
 | n+27,h=>omega
def Wd (w:World):Prop:=∃t fr,w.heap[2]?=some (.cells wordsA t fr)
theorem Wd.lt {w:World}(h:Wd w):2<w.heap.size:=by
 obtain⟨t,fr,h⟩:=h;exact lt_of_block h
theorem Wd.below {w w':World}(h:Wd w)(b:Below w.heap.size w w'):Wd w':=by
 have hl:=h.lt;obtain⟨t,fr,h⟩:=h;exact⟨t,fr,(b.block _ hl).trans h⟩
theorem wordB_yes {t:List UInt8}(k:Nat)(hk:k<27)(h:t=wordsL.getD k []):wordB t=true:=by
 subst h;have hl:wordsL.length=27:=rfl;unfold wordB;rw[List.contains_iff_mem];simp only[List.getD,List.getElem?_eq_getElem (by omega:k<wordsL.length),Option.getD_some];exact List.getElem_mem _
theorem wordB_no {t:List UInt8}(h:∀ k,k<27->¬t=wordsL.getD k []):wordB t=false:=by
 rw[<-Bool.not_eq_true];unfold wordB;rw[List.contains_iff_mem,List.mem_iff_getElem];rintro ⟨k,hk,e⟩;have hl:wordsL.length=27:=rfl;refine h k (by omega) ?_;simp only[List.getD,List.getElem?_eq_getElem hk,Option.getD_some];exact e.symm
theorem wordsInfo:(Tryd.prog.info? 114).map (·.size)=some wordsA.size:=by kernel_rfl
theorem word_c (s:ByteArray)(w:World)(hW:Wd w)(hs:s.size<=maxLen) :
  Calls Tryd.prog 64 #[.string s] w fun e w'=>e=.returned (.bool (wordB s.data.toList))/\w'=w:=by
 obtain⟨tt,fr,hg⟩:=hW;have IX:Hid (∀ k:Nat,k<27->(Instr.index 114 (.agg wordsA) (.int .i64 (k:Nat))).run Tryd.prog w=.ok (.string (wd k)) w):=fun k hk=>wordsA_at k hk w;have hsz:=wordsInfo;generalize wordsA=cs at *;go_enter Tryd.func64,Tryd.ntmps64;go_wp2_with (refine wpList_load_row rfl 114 _ rfl 2 rfl tt _ fr _ hg Tryd.underlying114 rfl hsz ?_);go_loopw [6] (fun v wr=>∃k:Nat,k<=27/\v=.int .i64 (k:Nat)/\(∀ j,j<k->s≠wd j)/\wr=w) (fun v _=>27-(intOf v).toNat)
 case atStart=>exact⟨0,by omega,by go_num,fun j hj=>by omega,rfl⟩
 case round =>
  obtain⟨k,hk,rfl,hin,rfl⟩:=hrel;by_cases hlt:k<27
  ·have ix:=IX.out k hlt;have hkI:(k:Int)<27:=by omega
   by_cases he:s=wd k
   ·have fin:wordB s.data.toList=true:=wordB_yes k hlt (by rw[he];rfl);rw[<-he] at ix;clear he IX;go_wp2;go_ret;exact⟨by rw[fin];rfl,rfl⟩
   ·have hin':∀ j,j<k+1->s≠wd j:=fun j hj=>by
     by_cases e:j=k
     ·subst e;exact he
     ·exact hin j (by omega)
    have heb:=str_ne he;generalize wd k=t at ix he heb;clear IX hin;go_wp2;go_roundw
    case rel=>(try ((repeat apply Exists.intro);refine⟨?_,rfl⟩));exact⟨k+1,by omega,by go_num,hin',by trivial⟩
    case measure=>simp[intOf];omega
  ·obtain rfl:k=27:=by omega
   clear IX;have fin:wordB s.data.toList=false:=wordB_no fun j hj e=>hin j hj (bytes_eq.1 (by rw[e];rfl));go_wp2;go_ret;exact⟨by rw[fin];rfl,rfl⟩
def nmc (j:Nat)(c:UInt8):Bool:=sml c.toNat||(j != 0&&(dig c.toNat||c.toNat==95))
theorem nameB_iff (l:List UInt8):nameB l=true ↔ 0<l.length/\l.length<=12/\(∀ j (h:j<l.length),nmc j l[j]=true)/\wordB l=false:=by
 cases l with
 | nil=>simp[nameB]
 | cons c r =>
  simp only[nameB,Bool.and_eq_true,decide_eq_true_eq,List.all_eq_true,Bool.not_eq_true',List.length_cons];constructor
  ·rintro ⟨⟨⟨h1,h2⟩,h3⟩,h4⟩;refine⟨by omega,by omega,fun j h=>?_,h4⟩;cases j with
   | zero=>simp[nmc,h2]
   | succ j =>
    have:=h3 (r[j]'(by omega)) (List.getElem_mem _)
    simp only[inn] at this;simp[nmc];simpa [Bool.or_eq_true,or_assoc] using this
  ·rintro ⟨h1,h2,h3,h4⟩;refine⟨⟨⟨by omega,?_⟩,fun x hx=>?_⟩,h4⟩
   ·have:=h3 0 (by omega)
    simpa [nmc] using this
   ·obtain⟨j,hj,rfl⟩:=List.mem_iff_getElem.1 hx
    have:=h3 (j+1) (by omega)
    simp only[nmc,List.getElem_cons_succ] at this;simp only[inn];simpa [Bool.or_eq_true,or_assoc] using this
theorem nameB_not {l:List UInt8}(j:Nat)(h:j<l.length)(hn:nmc j l[j]=false):nameB l=false:=by
 rw[<-Bool.not_eq_true,nameB_iff];rintro ⟨_,_,h3,_⟩
 have:=h3 j h
 rw[hn] at this;cases this
theorem nmc_high (j:Nat)(c:UInt8)(h:128<=c.toNat):nmc j c=false:=by
 simp[nmc,sml,dig];omega
theorem data_get (s:ByteArray)(j:Nat)(h:j<s.size)(h':j<s.data.toList.length):s.data.toList[j]=s[j]:=by
 rw[Array.getElem_toList];rfl
theorem data_len (s:ByteArray):s.data.toList.length=s.size:=Array.length_toList
theorem name_c (s:ByteArray)(w:World)(hW:Wd w)(hs:s.size<=maxLen) :
  Calls Tryd.prog 50 #[.string s] w fun e w'=>e=.returned (.bool (nameB s.data.toList))/\Below w.heap.size w w':=by
 have hs':=hs;unfold maxLen at hs;have hln:=data_len s;by_cases h0:s.size=0
 ·have e0:s=⟨#[]⟩:=by
   apply ByteArray.ext;exact Array.eq_empty_of_size_eq_zero h0
  subst e0;have fin:nameB (⟨#[]⟩:ByteArray).data.toList=false:=rfl;rw[fin];clear fin h0 hln;go_enter Tryd.func50,Tryd.ntmps50;go_wp2;go_ret;exact⟨rfl,b0 _⟩
 ·by_cases h12:12<s.size
  ·have fin:nameB s.data.toList=false:=by rw[<-Bool.not_eq_true,nameB_iff];rintro ⟨_,h,_⟩;omega
   rw[fin];clear fin hln;have hne:=str_full h0;have h12I:(12:Int)<(s.size:Int):=by omega
   go_enter Tryd.func50,Tryd.ntmps50;go_wp2;go_ret;exact⟨by simp,b0 _⟩
  ·have hne:=str_full h0;have h12I:¬(12:Int)<(s.size:Int):=by omega
   have HL:Hid (s.data.toList.length=s.size):=hln;clear hln;go_enter Tryd.func50,Tryd.ntmps50;go_wp2;go_loopw [3] (fun _ wr=>∃pos:Nat,wr.heap[w.heap.size]?=some (.stringIter s pos)/\pos<=s.size/\(∀ j (h:j<s.data.toList.length),j<pos->nmc j s.data.toList[j]=true)/\Below w.heap.size w wr) (fun _ wr=>s.size-wr.iterPos w.heap.size)
   case atStart=>exact⟨0,World.iter_heap w s 0,by omega,fun j _ h=>by omega,b1 _ _⟩
   case round =>
    obtain⟨pos,hit,hps,hin,hbw⟩:=hrel;by_cases hp:pos<s.size
    ·have hpl:pos<s.data.toList.length:=by have:=HL.out;omega
     by_cases ha:(s[pos]'hp).toNat<128
     ·have hnx:∀ ty,(Instr.next (.pointer (some ⟨w.heap.size,0,none⟩)) true ty).run Tryd.prog wr=_:=fun ty=>Lib.run_next_ascii_at wr w.heap.size s pos ty hit hp ha;have hit2:=Lib.iterAt_heap wr w.heap.size s pos (pos+1) hit;have hbw2:=Lib.below_iterAt hbw (k:=w.heap.size) (by omega) s (pos+1);have hex:nmc pos s.data.toList[pos]=nmc pos s[pos]:=by rw[data_get s pos hp hpl]
      have hgo:nmc pos s[pos]=true->∀ j (h:j<s.data.toList.length),j<pos+1->nmc j s.data.toList[j]=true:=fun hx j h hj=>by
       by_cases e:j=pos
       ·subst e;rw[hex];exact hx
       ·exact hin j h (by omega)
      have hno:nmc pos s[pos]=false->nameB s.data.toList=false:=fun hx=>nameB_not pos hpl (by rw[hex];exact hx);have hme:s.size-(wr.iterAt w.heap.size s (pos+1)).iterPos w.heap.size<s.size-wr.iterPos w.heap.size:=by
       simp only[World.iterPos,hit2,hit];omega
      clear hit hbw hin hex;have hwz:w.heap.size=w.heap.size:=rfl;generalize wr.iterAt w.heap.size s (pos+1)=w2 at *;have hnm:nmc pos s[pos]=(sml (s[pos]).toNat||(pos != 0&&(dig (s[pos]).toNat||(s[pos]).toNat==95))):=rfl;rw[hnm] at hgo hno;clear hnm;generalize hrn:(s[pos]'hp).toNat=r at *;have hr:r<=2147483647:=by omega
      clear hrn;have HG:Hid (((sml r||(pos != 0&&(dig r||r==95)))=true->∀ j (h:j<s.data.toList.length),j<pos+1->nmc j s.data.toList[j]=true)/\((sml r||(pos != 0&&(dig r||r==95)))=false->nameB s.data.toList=false)):=⟨hgo,hno⟩
      clear hgo hno;cases h1:sml r
      ·by_cases hz:pos=0
       ·have fin:nameB s.data.toList=false:=HG.out.2 (by simp[h1,hz]);subst hz;clear HG hme;go_wp2_with (go_at_call 62;refine(sml_c r _ hr).mono ?_;rw[h1];rintro e w1 ⟨rfl,rfl⟩);go_ret;exact⟨by rw[fin];rfl,hbw2⟩
       ·have hz':¬(pos:Int)=0:=by omega
        cases h2:dig r
        ·by_cases h3:r=95
         ·have RL:=HG.out.1 (by simp[h3,hz]);clear HG;subst h3;go_wp2_with (first|(go_at_call 62;refine(sml_c 95 _ hr).mono ?_;rw[h1];rintro e w1 ⟨rfl,rfl⟩)|(go_at_call 63;refine(dig_c 95 _ hr).mono ?_;rw[h2];rintro e w1 ⟨rfl,rfl⟩));go_roundw
          case rel=>(try ((repeat apply Exists.intro);refine⟨?_,rfl⟩));exact⟨pos+1,hit2,by omega,RL,hbw2⟩
          case measure=>exact hme
         ·have fin:nameB s.data.toList=false:=HG.out.2 (by simp[h1,h2,h3]);have h3':¬(r:Int)=95:=by omega
          have h3b:((r:Int) != 95)=true:=by simpa using h3'
          clear HG hme;go_wp2_with (first|(go_at_call 62;refine(sml_c r _ hr).mono ?_;rw[h1];rintro e w1 ⟨rfl,rfl⟩)|(go_at_call 63;refine(dig_c r _ hr).mono ?_;rw[h2];rintro e w1 ⟨rfl,rfl⟩));go_ret;exact⟨by rw[fin];rfl,hbw2⟩
        ·have RL:=HG.out.1 (by simp[h2,hz]);clear HG;go_wp2_with (first|(go_at_call 62;refine(sml_c r _ hr).mono ?_;rw[h1];rintro e w1 ⟨rfl,rfl⟩)|(go_at_call 63;refine(dig_c r _ hr).mono ?_;rw[h2];rintro e w1 ⟨rfl,rfl⟩));go_roundw
         case rel=>(try ((repeat apply Exists.intro);refine⟨?_,rfl⟩));exact⟨pos+1,hit2,by omega,RL,hbw2⟩
         case measure=>exact hme
      ·have RL:=HG.out.1 (by simp[h1]);clear HG;go_wp2_with (go_at_call 62;refine(sml_c r _ hr).mono ?_;rw[h1];rintro e w1 ⟨rfl,rfl⟩);go_roundw
       case rel=>(try ((repeat apply Exists.intro);refine⟨?_,rfl⟩));exact⟨pos+1,hit2,by omega,RL,hbw2⟩
       case measure=>exact hme
     ·have fin:nameB s.data.toList=false:=nameB_not pos hpl (by rw[data_get s pos hp hpl];exact nmc_high _ _ (by omega));have hnx:∀ ty,(Instr.next (.pointer (some ⟨w.heap.size,0,none⟩)) true ty).run Tryd.prog wr=_:=fun ty=>Lib.run_next_any_at wr w.heap.size s pos ty hit hp;have hbw2:=Lib.below_iterAt hbw (k:=w.heap.size) (by omega) s (pos+(Utf8.decode s pos).2);have hr:=decode_le s pos;have hr2:=(decode_high s pos hp (by omega)).1;generalize wr.iterAt w.heap.size s (pos+(Utf8.decode s pos).2)=w2 at *;generalize (Utf8.decode s pos).1=r at *;have h1:sml r=false:=by simp[sml];omega
      have h2:dig r=false:=by simp[dig];omega
      have h3':¬(r:Int)=95:=by omega
      have h3b:((r:Int) != 95)=true:=by simpa using h3'
      clear hit hbw hin ha;by_cases hz:pos=0
      ·subst hz;go_wp2_with (go_at_call 62;refine(sml_c r _ hr).mono ?_;rw[h1];rintro e w1 ⟨rfl,rfl⟩);go_ret;exact⟨by rw[fin];rfl,hbw2⟩
      ·have hz':¬(pos:Int)=0:=by omega
       go_wp2_with (first|(go_at_call 62;refine(sml_c r _ hr).mono ?_;rw[h1];rintro e w1 ⟨rfl,rfl⟩)|(go_at_call 63;refine(dig_c r _ hr).mono ?_;rw[h2];rintro e w1 ⟨rfl,rfl⟩));go_ret;exact⟨by rw[fin];rfl,hbw2⟩
    ·have hnx:∀ ty,(Instr.next (.pointer (some ⟨w.heap.size,0,none⟩)) true ty).run Tryd.prog wr=_:=fun ty=>Lib.run_next_end_at wr w.heap.size s pos ty hit hp;have hW2:=hW.below hbw;have fin:nameB s.data.toList=!wordB s.data.toList:=by
      have hl:=HL.out;cases hw:wordB s.data.toList
      ·exact(nameB_iff _).2 ⟨by omega,by omega,fun j h=>hin j h (by omega),hw⟩
      ·show _=false;rw[<-Bool.not_eq_true,nameB_iff];rintro ⟨_,_,_,h⟩;rw[hw] at h;cases h
     clear hin hit;go_wp2_with (go_at_call 64;refine(word_c s _ hW2 hs').mono ?_;rintro e w1 ⟨rfl,rfl⟩);go_ret;exact⟨by rw[fin];rfl,hbw⟩
end Go.Proofs.YtpdfdhkdfkhfkaaDoor

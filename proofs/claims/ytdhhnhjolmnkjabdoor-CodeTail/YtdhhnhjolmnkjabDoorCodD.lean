import Derived.Test.YtdhhnhjolmnkjabDoorAppF
set_option maxRecDepth 100000
set_option maxHeartbeats 8000000
namespace Go.Proofs.YtdhhnhjolmnkjabDoor
open Go.ChangeShapes Go.WideShapes Go.ChangeAt Go.RowKit
set_option linter.unusedVariables false
set_option linter.unusedSimpArgs false
theorem number_c (n:Int)(w:World)(h1:0<=n)(h2:n<9223372036854775808) :
  Calls Tryd.prog 26 #[.int .i64 n] w fun e w'=>e=.returned (.string ⟨(sevs n).toArray⟩)/\Below w.heap.size w w':=by
 have HP:=put_any n w h1 (by omega);go_enter Tryd.func26,Tryd.ntmps26;go_wp2_with (go_at_call 21;refine HP.mono ?_;rintro e w1 ⟨rfl,B1⟩);go_ret;exact⟨rfl,B1⟩
theorem constant_c (n:Int)(w:World)(h1:-9223372036854775808<=n)(h2:n<=9223372036854775807) :
  Calls Tryd.prog 23 #[.int .i64 n] w fun e w'=>e=.returned (.string ⟨(conB n).toArray⟩)/\Below w.heap.size w w':=by
 have b:=zg_bd n h1 h2;have HP:=put_any (zg n) w b.1 b.2;go_enter Tryd.func23,Tryd.ntmps23;go_wp2_with (first|(go_at_call 40;refine(zig_any _ _ h1 h2).mono ?_;rintro e w0 ⟨rfl,rfl⟩)|(go_at_call 21;refine HP.mono ?_;rintro e w1 ⟨rfl,B1⟩));go_ret;exact⟨rfl,B1⟩
theorem str_join (l:List UInt8)(s:ByteArray):(⟨l.toArray⟩:ByteArray)++s=⟨(l++s.data.toList).toArray⟩:=by
 apply ByteArray.ext;simp[ByteArray.data_append]
theorem named_c (s:ByteArray)(w:World)(h2:s.size<=1000) :
  Calls Tryd.prog 25 #[.string s] w fun e w'=>e=.returned (.string ⟨(namB s).toArray⟩)/\Below w.heap.size w w':=by
 have HP:=number_c (s.size:Int) w (by omega) (by omega);have hl:=sevs_len (s.size:Int);have HE:Hid ((⟨(sevs (s.size:Int)).toArray⟩:ByteArray)++s=⟨(namB s).toArray⟩):=str_join _ _;have hz:(⟨(sevs (s.size:Int)).toArray⟩:ByteArray).size=(sevs (s.size:Int)).length:=size_mk _;have hs:¬maxLen<(⟨(sevs (s.size:Int)).toArray⟩:ByteArray).size+s.size:=by unfold maxLen;omega
 go_enter Tryd.func25,Tryd.ntmps25;generalize sevs (s.size:Int)=L at *;go_wp2_with (go_at_call 26;refine HP.mono ?_;rintro e w1 ⟨rfl,B1⟩);go_ret;exact⟨by first|rfl|(rw[<-HE.out];rfl),B1⟩
theorem lst_next {α:Type}(f:α->List UInt8)(t:List UInt8)(l:List α)(k:Nat)(h:k<l.length)(n:Int):t++(sevs n++((l.take (k+1)).map f).flatten)=(t++(sevs n++((l.take k).map f).flatten))++f l[k]:=by
 rw[List.take_succ_eq_append_getElem h];simp only[List.map_append,List.flatten_append,List.map_cons,List.map_nil,List.flatten_cons,List.flatten_nil,List.append_nil,List.append_assoc]
theorem lst_all {α:Type}(f:α->List UInt8)(l:List α)(k:Nat)(h:¬k<l.length):sevs (l.length:Int)++((l.take k).map f).flatten=lst f l:=by
 rw[List.take_of_length_le (by omega)];rfl
theorem flat_len {α:Type}(f:α->List UInt8)(l:List α)(h:∀ x ∈ l,(f x).length<=30)(k:Nat):((l.take k).map f).flatten.length<=30*k:=by
 induction l generalizing k with
 | nil=>simp
 | cons x t ih =>
  cases k with
  | zero=>simp
  | succ k =>
   have h1:=h x (List.mem_cons_self ..);have h2:=ih (fun y hy=>h y (List.mem_cons_of_mem _ hy)) k;simp only[List.take_succ_cons,List.map_cons,List.flatten_cons,List.length_append];omega
theorem lay_w (w:World)(o:Nat->Nat)(v:Value)(t:List UInt8)(ao:Option Addr)(cap:Nat)(xs:List Int)(hrow:SrB w o v t)(hl:Lsv w ao (wsV xs))(hlab:∀ b off,xs≠[]->ao=some ⟨b,off,none⟩->o b≠1)
  (hn:xs.length<=32768) (ht:t.length<=10000000) (hok:∀ x ∈ xs,0<=x/\x<18446744073709551616) (hlen:∀ x ∈ xs,(sevs x).length<=30) :
  Calls Tryd.prog 20 #[v,.slice ao xs.length cap,.func (.func 21) #[] #[]] w fun e w'=>∃v',e=.returned v'/\∃o',RwB w' o' v' (t++lst sevs xs)/\Step (fun k=>k=1) w o w' o':=by
 obtain⟨ii,hii,hz0,hz1,hz2⟩:=info_parts infoU8;have HF:=flat_len sevs xs hlen;have hsl:=sevs_len (xs.length:Int);have HP:=number_c (xs.length:Int) w (by omega) (by omega);obtain⟨L,hL⟩:∃L,L=sevs (xs.length:Int):=⟨_,rfl⟩
 rw[<-hL] at HP hsl;have HL:=Lib.hid hL;have hz:(⟨L.toArray⟩:ByteArray).size=L.length:=size_mk _;clear hL;go_enter Tryd.func20,Tryd.ntmps20;go_wp2_with (first|(go_at_call 26;refine HP.mono ?_;rintro e w1 ⟨rfl,B1⟩)|(at_builtin;refine wpList_append_src rfl (.tmp 9) (.tmp 12) rfl o v t rfl (hrow.below B1) L rfl hsl.1 ?c1 ?c2 ?_)|go_in)
 case c1=>unfold maxLen;omega
 case c2=>omega
 intro v1 w2 o2 R2 S2;have SW:=(Step.ofBelow (I:=fun k=>k=1) o B1).trans S2;clear S2 B1 HP;have R2':Row w2 o2 1 5 1 v1 (t++(L++((xs.take 0).map sevs).flatten)).length (byL (t++(L++((xs.take 0).map sevs).flatten))):=by
  simpa [RwB] using R2
 clear R2;have hnI:xs.length<=32768:=hn;go_wp2_with fail;go_loopw [0,16] (fun vb vi wr=>∃(k:Nat) (o3:Nat->Nat),vi=.int .i64 (k:Nat)/\k<=xs.length/\Row wr o3 1 5 1 vb (t++(L++((xs.take k).map sevs).flatten)).length (byL (t++(L++((xs.take k).map sevs).flatten)))/\Step (fun k=>k=1) w o wr o3) (fun _ vi _=>xs.length-(intOf vi).toNat)
 case atStart=>exact⟨0,o2,by go_num,by omega,R2',SW⟩
 case round =>
  obtain⟨k,o3,rfl,hk,R3,S3⟩:=hrel;clear R2' SW;by_cases hlt:k<xs.length
  ·have hkI:(k:Int)<(xs.length:Int):=by omega
   have hox:=hok _ (List.getElem_mem hlt);have hlx:=hlen _ (List.getElem_mem hlt);have HK:=HF k;have hc0:=hl.at (wsV_at hlt);obtain⟨b,off,rfl,hbl,hc⟩:=hc0;have hc2:wr.cell? ⟨b,off+k,none⟩=some (.int .u64 xs[k]):=(World.cell?_of_block (a:=⟨b,off+k,none⟩) (S3.block b hbl (hlab b off (fun h=>by subst h;simp at hlt) rfl))).trans hc;have HX:=lst_next sevs t xs k hlt (xs.length:Int);rw[<-HL.out] at HX;have HXX:=Lib.hid HX;obtain⟨tk,htk⟩:∃tk,tk=t++(L++((xs.take k).map sevs).flatten):=⟨_,rfl⟩
   have htl:tk.length<=11000000:=by rw[htk];simp only[List.length_append];omega
   rw[<-htk] at R3 ;have HTK:=Lib.hid htk;clear htk HX hc HK;obtain⟨fx,hfx⟩:∃fx,fx=sevs xs[k]:=⟨_,rfl⟩
   rw[<-hfx] at HXX hlx;have CT:=fun wz=>put_any xs[k] wz hox.1 hox.2;rw[<-hfx] at CT;clear hfx;generalize xs[k]=x at *;go_wp2_with (first|(go_at_call 21;refine(CT _).mono ?_;rintro e w4 ⟨rfl,B4⟩;have R4:=R3.step (Step.ofBelow (I:=fun _=>False) o3 B4) (fun h=>h))|(at_builtin;refine wpList_append_str rfl (.tmp 20) (.tmp 23) 40 9 rfl 5 ii Tryd.underlying40 Tryd.underlying9 hii hz0 hz1 hz2 o3 1 u0 tk.length (byL tk) rfl R4 ⟨fx.toArray⟩ rfl ?d1 ?d2 ?_)|go_in)
   case d1=>(try rw[size_mk]);unfold maxLen;omega
   case d2=>(try rw[size_mk]);omega
   intro v5 w5 o5 R5 S5;try rw[size_mk] at R5
   rw[byL_app] at R5;have S6:=(S3.trans (Step.ofBelow o3 B4)).trans S5;have R6:Row w5 o5 1 5 1 v5 (t++(L++((xs.take (k+1)).map sevs).flatten)).length (byL (t++(L++((xs.take (k+1)).map sevs).flatten))):=by
    rw[HXX.out,<-HTK.out];simpa using R5
   clear R5 S5 R4 R3 S3 B4;go_wp2;go_roundw
   case rel=>(try ((repeat apply Exists.intro);refine⟨?_,rfl⟩));exact⟨k+1,o5,by go_num,by omega,R6,S6⟩
   case measure=>simp[intOf];omega
  ·have hkI:¬(k:Int)<(xs.length:Int):=by omega
   have e:=lst_all sevs xs k hlt;rw[<-HL.out] at e;rw[e] at R3;clear e HF;go_wp2;go_ret;exact⟨_,rfl,o3,R3,S3⟩
theorem lay_c (w:World)(o:Nat->Nat)(v:Value)(t:List UInt8)(ao:Option Addr)(cap:Nat)(xs:List Int)(hrow:SrB w o v t)(hl:Lsv w ao (isV xs))(hlab:∀ b off,xs≠[]->ao=some ⟨b,off,none⟩->o b≠1)
  (hn:xs.length<=32768) (ht:t.length<=10000000) (hok:∀ x ∈ xs,-9223372036854775808<=x/\x<=9223372036854775807) (hlen:∀ x ∈ xs,(conB x).length<=30) :
  Calls Tryd.prog 22 #[v,.slice ao xs.length cap,.func (.func 23) #[] #[]] w fun e w'=>∃v',e=.returned v'/\∃o',RwB w' o' v' (t++lst conB xs)/\Step (fun k=>k=1) w o w' o':=by
 obtain⟨ii,hii,hz0,hz1,hz2⟩:=info_parts infoU8;have HF:=flat_len conB xs hlen;have hsl:=sevs_len (xs.length:Int);have HP:=number_c (xs.length:Int) w (by omega) (by omega);obtain⟨L,hL⟩:∃L,L=sevs (xs.length:Int):=⟨_,rfl⟩
 rw[<-hL] at HP hsl;have HL:=Lib.hid hL;have hz:(⟨L.toArray⟩:ByteArray).size=L.length:=size_mk _;clear hL;go_enter Tryd.func22,Tryd.ntmps22;go_wp2_with (first|(go_at_call 26;refine HP.mono ?_;rintro e w1 ⟨rfl,B1⟩)|(at_builtin;refine wpList_append_src rfl (.tmp 9) (.tmp 12) rfl o v t rfl (hrow.below B1) L rfl hsl.1 ?c1 ?c2 ?_)|go_in)
 case c1=>unfold maxLen;omega
 case c2=>omega
 intro v1 w2 o2 R2 S2;have SW:=(Step.ofBelow (I:=fun k=>k=1) o B1).trans S2;clear S2 B1 HP;have R2':Row w2 o2 1 5 1 v1 (t++(L++((xs.take 0).map conB).flatten)).length (byL (t++(L++((xs.take 0).map conB).flatten))):=by
  simpa [RwB] using R2
 clear R2;have hnI:xs.length<=32768:=hn;go_wp2_with fail;go_loopw [0,16] (fun vb vi wr=>∃(k:Nat) (o3:Nat->Nat),vi=.int .i64 (k:Nat)/\k<=xs.length/\Row wr o3 1 5 1 vb (t++(L++((xs.take k).map conB).flatten)).length (byL (t++(L++((xs.take k).map conB).flatten)))/\Step (fun k=>k=1) w o wr o3) (fun _ vi _=>xs.length-(intOf vi).toNat)
 case atStart=>exact⟨0,o2,by go_num,by omega,R2',SW⟩
 case round =>
  obtain⟨k,o3,rfl,hk,R3,S3⟩:=hrel;clear R2' SW;by_cases hlt:k<xs.length
  ·have hkI:(k:Int)<(xs.length:Int):=by omega
   have hox:=hok _ (List.getElem_mem hlt);have hlx:=hlen _ (List.getElem_mem hlt);have HK:=HF k;have hc0:=hl.at (isV_get hlt);obtain⟨b,off,rfl,hbl,hc⟩:=hc0;have hc2:wr.cell? ⟨b,off+k,none⟩=some (.int .i64 xs[k]):=(World.cell?_of_block (a:=⟨b,off+k,none⟩) (S3.block b hbl (hlab b off (fun h=>by subst h;simp at hlt) rfl))).trans hc;have HX:=lst_next conB t xs k hlt (xs.length:Int);rw[<-HL.out] at HX;have HXX:=Lib.hid HX;obtain⟨tk,htk⟩:∃tk,tk=t++(L++((xs.take k).map conB).flatten):=⟨_,rfl⟩
   have htl:tk.length<=11000000:=by rw[htk];simp only[List.length_append];omega
   rw[<-htk] at R3 ;have HTK:=Lib.hid htk;clear htk HX hc HK;obtain⟨fx,hfx⟩:∃fx,fx=conB xs[k]:=⟨_,rfl⟩
   rw[<-hfx] at HXX hlx;have CT:=fun wz=>constant_c xs[k] wz hox.1 hox.2;rw[<-hfx] at CT;clear hfx;generalize xs[k]=x at *;go_wp2_with (first|(go_at_call 23;refine(CT _).mono ?_;rintro e w4 ⟨rfl,B4⟩;have R4:=R3.step (Step.ofBelow (I:=fun _=>False) o3 B4) (fun h=>h))|(at_builtin;refine wpList_append_str rfl (.tmp 20) (.tmp 23) 40 9 rfl 5 ii Tryd.underlying40 Tryd.underlying9 hii hz0 hz1 hz2 o3 1 u0 tk.length (byL tk) rfl R4 ⟨fx.toArray⟩ rfl ?d1 ?d2 ?_)|go_in)
   case d1=>(try rw[size_mk]);unfold maxLen;omega
   case d2=>(try rw[size_mk]);omega
   intro v5 w5 o5 R5 S5;try rw[size_mk] at R5
   rw[byL_app] at R5;have S6:=(S3.trans (Step.ofBelow o3 B4)).trans S5;have R6:Row w5 o5 1 5 1 v5 (t++(L++((xs.take (k+1)).map conB).flatten)).length (byL (t++(L++((xs.take (k+1)).map conB).flatten))):=by
    rw[HXX.out,<-HTK.out];simpa using R5
   clear R5 S5 R4 R3 S3 B4;go_wp2;go_roundw
   case rel=>(try ((repeat apply Exists.intro);refine⟨?_,rfl⟩));exact⟨k+1,o5,by go_num,by omega,R6,S6⟩
   case measure=>simp[intOf];omega
  ·have hkI:¬(k:Int)<(xs.length:Int):=by omega
   have e:=lst_all conB xs k hlt;rw[<-HL.out] at e;rw[e] at R3;clear e HF;go_wp2;go_ret;exact⟨_,rfl,o3,R3,S3⟩
theorem lay_n (w:World)(o:Nat->Nat)(v:Value)(t:List UInt8)(ao:Option Addr)(cap:Nat)(xs:List ByteArray)(hrow:SrB w o v t)(hl:Lsv w ao (nsV xs))(hlab:∀ b off,xs≠[]->ao=some ⟨b,off,none⟩->o b≠1)
  (hn:xs.length<=32768) (ht:t.length<=10000000) (hok:∀ x ∈ xs,x.size<=1000) (hlen:∀ x ∈ xs,(namB x).length<=30) :
  Calls Tryd.prog 24 #[v,.slice ao xs.length cap,.func (.func 25) #[] #[]] w fun e w'=>∃v',e=.returned v'/\∃o',RwB w' o' v' (t++lst namB xs)/\Step (fun k=>k=1) w o w' o':=by
 obtain⟨ii,hii,hz0,hz1,hz2⟩:=info_parts infoU8;have HF:=flat_len namB xs hlen;have hsl:=sevs_len (xs.length:Int);have HP:=number_c (xs.length:Int) w (by omega) (by omega);obtain⟨L,hL⟩:∃L,L=sevs (xs.length:Int):=⟨_,rfl⟩
 rw[<-hL] at HP hsl;have HL:=Lib.hid hL;have hz:(⟨L.toArray⟩:ByteArray).size=L.length:=size_mk _;clear hL;go_enter Tryd.func24,Tryd.ntmps24;go_wp2_with (first|(go_at_call 26;refine HP.mono ?_;rintro e w1 ⟨rfl,B1⟩)|(at_builtin;refine wpList_append_src rfl (.tmp 9) (.tmp 12) rfl o v t rfl (hrow.below B1) L rfl hsl.1 ?c1 ?c2 ?_)|go_in)
 case c1=>unfold maxLen;omega
 case c2=>omega
 intro v1 w2 o2 R2 S2;have SW:=(Step.ofBelow (I:=fun k=>k=1) o B1).trans S2;clear S2 B1 HP;have R2':Row w2 o2 1 5 1 v1 (t++(L++((xs.take 0).map namB).flatten)).length (byL (t++(L++((xs.take 0).map namB).flatten))):=by
  simpa [RwB] using R2
 clear R2;have hnI:xs.length<=32768:=hn;go_wp2_with fail;go_loopw [0,16] (fun vb vi wr=>∃(k:Nat) (o3:Nat->Nat),vi=.int .i64 (k:Nat)/\k<=xs.length/\Row wr o3 1 5 1 vb (t++(L++((xs.take k).map namB).flatten)).length (byL (t++(L++((xs.take k).map namB).flatten)))/\Step (fun k=>k=1) w o wr o3) (fun _ vi _=>xs.length-(intOf vi).toNat)
 case atStart=>exact⟨0,o2,by go_num,by omega,R2',SW⟩
 case round =>
  obtain⟨k,o3,rfl,hk,R3,S3⟩:=hrel;clear R2' SW;by_cases hlt:k<xs.length
  ·have hkI:(k:Int)<(xs.length:Int):=by omega
   have hox:=hok _ (List.getElem_mem hlt);have hlx:=hlen _ (List.getElem_mem hlt);have HK:=HF k;have hc0:=hl.at (nsV_at hlt);obtain⟨b,off,rfl,hbl,hc⟩:=hc0;have hc2:wr.cell? ⟨b,off+k,none⟩=some (.string xs[k]):=(World.cell?_of_block (a:=⟨b,off+k,none⟩) (S3.block b hbl (hlab b off (fun h=>by subst h;simp at hlt) rfl))).trans hc;have HX:=lst_next namB t xs k hlt (xs.length:Int);rw[<-HL.out] at HX;have HXX:=Lib.hid HX;obtain⟨tk,htk⟩:∃tk,tk=t++(L++((xs.take k).map namB).flatten):=⟨_,rfl⟩
   have htl:tk.length<=11000000:=by rw[htk];simp only[List.length_append];omega
   rw[<-htk] at R3 ;have HTK:=Lib.hid htk;clear htk HX hc HK;obtain⟨fx,hfx⟩:∃fx,fx=namB xs[k]:=⟨_,rfl⟩
   rw[<-hfx] at HXX hlx;have CT:=fun wz=>named_c xs[k] wz hox;rw[<-hfx] at CT;clear hfx;generalize xs[k]=x at *;go_wp2_with (first|(go_at_call 25;refine(CT _).mono ?_;rintro e w4 ⟨rfl,B4⟩;have R4:=R3.step (Step.ofBelow (I:=fun _=>False) o3 B4) (fun h=>h))|(at_builtin;refine wpList_append_str rfl (.tmp 20) (.tmp 23) 40 9 rfl 5 ii Tryd.underlying40 Tryd.underlying9 hii hz0 hz1 hz2 o3 1 u0 tk.length (byL tk) rfl R4 ⟨fx.toArray⟩ rfl ?d1 ?d2 ?_)|go_in)
   case d1=>(try rw[size_mk]);unfold maxLen;omega
   case d2=>(try rw[size_mk]);omega
   intro v5 w5 o5 R5 S5;try rw[size_mk] at R5
   rw[byL_app] at R5;have S6:=(S3.trans (Step.ofBelow o3 B4)).trans S5;have R6:Row w5 o5 1 5 1 v5 (t++(L++((xs.take (k+1)).map namB).flatten)).length (byL (t++(L++((xs.take (k+1)).map namB).flatten))):=by
    rw[HXX.out,<-HTK.out];simpa using R5
   clear R5 S5 R4 R3 S3 B4;go_wp2;go_roundw
   case rel=>(try ((repeat apply Exists.intro);refine⟨?_,rfl⟩));exact⟨k+1,o5,by go_num,by omega,R6,S6⟩
   case measure=>simp[intOf];omega
  ·have hkI:¬(k:Int)<(xs.length:Int):=by omega
   have e:=lst_all namB xs k hlt;rw[<-HL.out] at e;rw[e] at R3;clear e HF;go_wp2;go_ret;exact⟨_,rfl,o3,R3,S3⟩
theorem lay_k (w:World)(o:Nat->Nat)(v:Value)(t:List UInt8)(ao:Option Addr)(cap:Nat)(xs:List Int)(hrow:SrB w o v t)(hl:Lsv w ao (isV xs))(hlab:∀ b off,xs≠[]->ao=some ⟨b,off,none⟩->o b≠1)
  (hn:xs.length<=32768) (ht:t.length<=10000000) (hok:∀ x ∈ xs,0<=x/\x<9223372036854775808) (hlen:∀ x ∈ xs,(sevs x).length<=30) :
  Calls Tryd.prog 22 #[v,.slice ao xs.length cap,.func (.func 26) #[] #[]] w fun e w'=>∃v',e=.returned v'/\∃o',RwB w' o' v' (t++lst sevs xs)/\Step (fun k=>k=1) w o w' o':=by
 obtain⟨ii,hii,hz0,hz1,hz2⟩:=info_parts infoU8;have HF:=flat_len sevs xs hlen;have hsl:=sevs_len (xs.length:Int);have HP:=number_c (xs.length:Int) w (by omega) (by omega);obtain⟨L,hL⟩:∃L,L=sevs (xs.length:Int):=⟨_,rfl⟩
 rw[<-hL] at HP hsl;have HL:=Lib.hid hL;have hz:(⟨L.toArray⟩:ByteArray).size=L.length:=size_mk _;clear hL;go_enter Tryd.func22,Tryd.ntmps22;go_wp2_with (first|(go_at_call 26;refine HP.mono ?_;rintro e w1 ⟨rfl,B1⟩)|(at_builtin;refine wpList_append_src rfl (.tmp 9) (.tmp 12) rfl o v t rfl (hrow.below B1) L rfl hsl.1 ?c1 ?c2 ?_)|go_in)
 case c1=>unfold maxLen;omega
 case c2=>omega
 intro v1 w2 o2 R2 S2;have SW:=(Step.ofBelow (I:=fun k=>k=1) o B1).trans S2;clear S2 B1 HP;have R2':Row w2 o2 1 5 1 v1 (t++(L++((xs.take 0).map sevs).flatten)).length (byL (t++(L++((xs.take 0).map sevs).flatten))):=by
  simpa [RwB] using R2
 clear R2;have hnI:xs.length<=32768:=hn;go_wp2_with fail;go_loopw [0,16] (fun vb vi wr=>∃(k:Nat) (o3:Nat->Nat),vi=.int .i64 (k:Nat)/\k<=xs.length/\Row wr o3 1 5 1 vb (t++(L++((xs.take k).map sevs).flatten)).length (byL (t++(L++((xs.take k).map sevs).flatten)))/\Step (fun k=>k=1) w o wr o3) (fun _ vi _=>xs.length-(intOf vi).toNat)
 case atStart=>exact⟨0,o2,by go_num,by omega,R2',SW⟩
 case round =>
  obtain⟨k,o3,rfl,hk,R3,S3⟩:=hrel;clear R2' SW;by_cases hlt:k<xs.length
  ·have hkI:(k:Int)<(xs.length:Int):=by omega
   have hox:=hok _ (List.getElem_mem hlt);have hlx:=hlen _ (List.getElem_mem hlt);have HK:=HF k;have hc0:=hl.at (isV_get hlt);obtain⟨b,off,rfl,hbl,hc⟩:=hc0;have hc2:wr.cell? ⟨b,off+k,none⟩=some (.int .i64 xs[k]):=(World.cell?_of_block (a:=⟨b,off+k,none⟩) (S3.block b hbl (hlab b off (fun h=>by subst h;simp at hlt) rfl))).trans hc;have HX:=lst_next sevs t xs k hlt (xs.length:Int);rw[<-HL.out] at HX;have HXX:=Lib.hid HX;obtain⟨tk,htk⟩:∃tk,tk=t++(L++((xs.take k).map sevs).flatten):=⟨_,rfl⟩
   have htl:tk.length<=11000000:=by rw[htk];simp only[List.length_append];omega
   rw[<-htk] at R3 ;have HTK:=Lib.hid htk;clear htk HX hc HK;obtain⟨fx,hfx⟩:∃fx,fx=sevs xs[k]:=⟨_,rfl⟩
   rw[<-hfx] at HXX hlx;have CT:=fun wz=>number_c xs[k] wz hox.1 hox.2;rw[<-hfx] at CT;clear hfx;generalize xs[k]=x at *;go_wp2_with (first|(go_at_call 26;refine(CT _).mono ?_;rintro e w4 ⟨rfl,B4⟩;have R4:=R3.step (Step.ofBelow (I:=fun _=>False) o3 B4) (fun h=>h))|(at_builtin;refine wpList_append_str rfl (.tmp 20) (.tmp 23) 40 9 rfl 5 ii Tryd.underlying40 Tryd.underlying9 hii hz0 hz1 hz2 o3 1 u0 tk.length (byL tk) rfl R4 ⟨fx.toArray⟩ rfl ?d1 ?d2 ?_)|go_in)
   case d1=>(try rw[size_mk]);unfold maxLen;omega
   case d2=>(try rw[size_mk]);omega
   intro v5 w5 o5 R5 S5;try rw[size_mk] at R5
   rw[byL_app] at R5;have S6:=(S3.trans (Step.ofBelow o3 B4)).trans S5;have R6:Row w5 o5 1 5 1 v5 (t++(L++((xs.take (k+1)).map sevs).flatten)).length (byL (t++(L++((xs.take (k+1)).map sevs).flatten))):=by
    rw[HXX.out,<-HTK.out];simpa using R5
   clear R5 S5 R4 R3 S3 B4;go_wp2;go_roundw
   case rel=>(try ((repeat apply Exists.intro);refine⟨?_,rfl⟩));exact⟨k+1,o5,by go_num,by omega,R6,S6⟩
   case measure=>simp[intOf];omega
  ·have hkI:¬(k:Int)<(xs.length:Int):=by omega
   have e:=lst_all sevs xs k hlt;rw[<-HL.out] at e;rw[e] at R3;clear e HF;go_wp2;go_ret;exact⟨_,rfl,o3,R3,S3⟩
end Go.Proofs.YtdhhnhjolmnkjabDoor

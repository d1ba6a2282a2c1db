import Derived.Test.YtjjhcbmhdkobkaaDoorAppS
import Derived.Lib.SlBytesConst
set_option maxRecDepth 100000
set_option maxHeartbeats 8000000
namespace Go.Proofs.YtjjhcbmhdkobkaaDoor
open Go.ChangeShapes Go.WideShapes Go.ChangeAt Go.RowKit
set_option linter.unusedVariables false
set_option linter.unusedSimpArgs false
theorem run_append_full_str {P:Program}(w:World)(t u ty e:TypeId)(i:TypeInfo)(ht:P.underlying t=some (.slice e))(hu:P.underlying u=some .string)(hi:P.info? e=some i)(hz:i.zero=some (.int .u8 0))
  (hsize:i.size=1) (hby:i.bytes=1) (g n:Nat) (xs:List Value) (hxl:xs.length=n) (holds:∀ j v,xs[j]?=some v->w.cell? ⟨g,j,none⟩=some v) (s:ByteArray) (h0:0<s.size) (h63:n+s.size<=maxLen) (hbytes:n+s.size<=140737488355328) :
  ∃v' w',(Builtin.append_ #[t,u] ty #[.slice (some ⟨g,0,none⟩) n n,.string s]).run P w=.ok v' w'/\w'.ownsRow 0 e 1 v' (n+s.size) (xs++Go.Lib.strCells s)/\w.grownBy w' none /\
   ∃k,v'.ownBlock=some k/\w.heap.size<=k:=by
 have hsmall:n+s.size<=9223372036854775807:=by simp only[maxLen] at h63;omega
 have hlen:(xs++Go.Lib.strCells s).length=(n+s.size)*1:=by rw[List.length_append,hxl,Go.Lib.strCells_length,Nat.mul_one]
 have hr:=Go.Lib.run_append_grow_string (P:=P) w t u ty e i (.int .u8 0) ht hu hi hz ⟨g,0,none⟩ n n xs (by rw[hsize];simpa using hxl) (fun j v hj=>by rw[Addr.add_mid,Nat.zero_add];exact holds j v hj) s (by omega) (by omega) (by rw[hby];exact growslice_fits (by omega) (by omega));have hge:=grownCap_ge w (n+s.size) n e;have hcm:grownCap w (n+s.size) n e<=maxLen:=grownCap_le_maxLen w (n+s.size) n e h63;refine⟨_,_,hr,⟨hlen,.inr ⟨w.heap.size,_,_,rfl,Nat.zero_le _,heap_alloc_new w.drew _,hge,hcm,?_,?_⟩⟩,⟨rfl,rfl,rfl,by simp,fun k hk _=>Below.heap_alloc w.drew _ k hk⟩,_,rfl,Nat.le_refl _⟩
 ·have hz1:(Value.int IntKind.u8 0).cells.size=1:=rfl;simp only[Array.size_append,List.size_toArray,size_zeroCells,hz1,hxl,Go.Lib.strCells_length];omega
 ·simp only[Array.toList_append,List.append_assoc];rw[<-List.append_assoc,<-hlen];exact List.take_left
def RwB (w:World)(o:Nat->Nat)(v:Value)(t:List UInt8):Prop:=Row w o 1 5 1 v t.length (byL t)
def SrB (w:World)(o:Nat->Nat)(v:Value)(t:List UInt8):Prop :=
 RwB w o v t\/∃g,v=.slice (some ⟨g,0,none⟩) t.length t.length/\g<w.heap.size/\∀ j u,(byL t)[j]?=some u->w.cell? ⟨g,j,none⟩=some u
theorem SrB.below {w w':World}{o:Nat->Nat}{v:Value}{t:List UInt8}(h:SrB w o v t)(B:Below w.heap.size w w'):SrB w' o v t:=by
 rcases h with h|⟨g,h1,h2,h3⟩
 ·exact .inl (Row.step h (Step.ofBelow (I:=fun _=>False) o B) (fun h=>h))
 ·exact .inr ⟨g,h1,Nat.lt_of_lt_of_le h2 B.size,fun j u hj=>(B.cell (p:=⟨g,j,none⟩) h2).trans (h3 j u hj)⟩
theorem wpList_append_src {w:World}{ops:Array Oper}{rest:List Oper}{op:Oper}{a:Act}{Q:Exit->Act->World->Prop}(hgd:op.guard=none)(sl x:Operand)
  (ho:op.op=.call { callee:=.builtin .append,args:=#[sl,x],argTypes:=#[44,9] })
  (o:Nat->Nat) (v:Value) (t:List UInt8) (hs:a.eval sl=v) (hrow:SrB w o v t) (s:List UInt8) (hx:a.eval x=.string ⟨s.toArray⟩) (h0:0<s.length) (h63:t.length+s.length<=maxLen) (hbytes:t.length+s.length<=140737488355328)
  (h:∀ v' w' o',RwB w' o' v' (t++s)->Step (fun k=>k=1) w o w' o'->wpList Tryd.prog ops Q rest (a.put op.dst v') w'):wpList Tryd.prog ops Q (op::rest) a w:=by
 obtain⟨i,hi,hz,hsize,hby⟩:=info_parts infoU8;have hz':(⟨s.toArray⟩:ByteArray).size=s.length:=size_mk _;refine wpList_plain hgd fun _ hK=>?_;have key:∃v' w' row,(Builtin.append_ #[44,9] op.type #[v,.string ⟨s.toArray⟩]).run Tryd.prog w=.ok v' w'/\w'.ownsRow 0 5 1 v' (t.length+s.length) (byL t++Go.Lib.strCells ⟨s.toArray⟩)/\w.grownBy w' row /\
   (∀ k,row=some k->o k=1)/\(∀ k,v'.ownBlock=some k->(k<w.heap.size/\o k=1)\/w.heap.size<=k):=by
  rcases hrow with hR|⟨g,rfl,hg,hc⟩
  ·have:=run_append_where_str (P:=Tryd.prog) w 44 9 op.type 5 i Tryd.underlying44 Tryd.underlying9 hi hz hsize hby v t.length (byL t) hR.1 ⟨s.toArray⟩ (by rw[hz'];exact h63) (by rw[hz'];exact hbytes)
   rw[hz'] at this;obtain⟨v',w',h1,h2,h3,h4⟩:=this;refine⟨v',w',_,h1,h2,h3,hR.2,fun k hk=>?_⟩;rcases h4 with h4|⟨k',h4,h5⟩
   ·rw[h4] at hk;exact .inl ⟨Row.lt hR hk,hR.2 k hk⟩
   ·rw[h4] at hk;injection hk with hk
    subst hk;exact .inr h5
  ·have:=run_append_full_str (P:=Tryd.prog) w 44 9 op.type 5 i Tryd.underlying44 Tryd.underlying9 hi hz hsize hby g t.length (byL t) (by simp[byL]) hc ⟨s.toArray⟩ (by rw[hz'];exact h0) (by rw[hz'];exact h63) (by rw[hz'];exact hbytes)
   rw[hz'] at this;obtain⟨v',w',h1,h2,h3,k',h4,h5⟩:=this;refine⟨v',w',_,h1,h2,h3,fun k hk=>by (cases hk),fun k hk=>?_⟩;rw[h4] at hk;injection hk with hk
   subst hk;exact .inr h5
 obtain⟨v',w',row,hr,h2,h3,h4,h5⟩:=key;unfold Oper.wp execOp;simp only[ho,resolve,invoke,builtin,Sem.run_bind,Sem.run_pure,Result.andThen_ok,List.map_toArray,List.map_cons,List.map_nil,hs,hx,hr];have hst:Step (fun k=>k=1) w o w' (newLab w o 1):=Step.appended h3 rfl h4;have hrow':RwB w' (newLab w o 1) v' (t++s):=by
  unfold RwB;rw[<-byL_app,List.length_append];refine⟨h2,fun k hk=>?_⟩;rcases h5 k hk with ⟨g1,g2⟩|g1
  ·rw[newLab_old g1];exact g2
  ·exact newLab_new g1
 exact hK _ _ (h v' w' _ hrow' hst)
theorem number_c (n:Int)(w:World)(h1:0<=n)(h2:n<9223372036854775808) :
  Calls Tryd.prog 48 #[.int .i64 n] w fun e w'=>e=.returned (.string ⟨(sevs n).toArray⟩)/\Below w.heap.size w w':=by
 have HP:=put_any n w h1 (by omega);go_enter Tryd.func48,Tryd.ntmps48;go_wp2_with (go_at_call 43;refine HP.mono ?_;rintro e w1 ⟨rfl,B1⟩);go_ret;exact⟨rfl,B1⟩
theorem constant_c (n:Int)(w:World)(h1:-9223372036854775808<=n)(h2:n<=9223372036854775807) :
  Calls Tryd.prog 45 #[.int .i64 n] w fun e w'=>e=.returned (.string ⟨(conB n).toArray⟩)/\Below w.heap.size w w':=by
 have b:=zg_bd n h1 h2;have HP:=put_any (zg n) w b.1 b.2;go_enter Tryd.func45,Tryd.ntmps45;go_wp2_with (first|(go_at_call 73;refine(zig_any _ _ h1 h2).mono ?_;rintro e w0 ⟨rfl,rfl⟩)|(go_at_call 43;refine HP.mono ?_;rintro e w1 ⟨rfl,B1⟩));go_ret;exact⟨rfl,B1⟩
theorem str_join (l:List UInt8)(s:ByteArray):(⟨l.toArray⟩:ByteArray)++s=⟨(l++s.data.toList).toArray⟩:=by
 apply ByteArray.ext;simp[ByteArray.data_append]
theorem named_c (s:ByteArray)(w:World)(h2:s.size<=1000) :
  Calls Tryd.prog 47 #[.string s] w fun e w'=>e=.returned (.string ⟨(namB s).toArray⟩)/\Below w.heap.size w w':=by
 have HP:=number_c (s.size:Int) w (by omega) (by omega);have hl:=sevs_len (s.size:Int);have HE:Hid ((⟨(sevs (s.size:Int)).toArray⟩:ByteArray)++s=⟨(namB s).toArray⟩):=str_join _ _;have hz:(⟨(sevs (s.size:Int)).toArray⟩:ByteArray).size=(sevs (s.size:Int)).length:=size_mk _;have hs:¬maxLen<(⟨(sevs (s.size:Int)).toArray⟩:ByteArray).size+s.size:=by unfold maxLen;omega
 go_enter Tryd.func47,Tryd.ntmps47;generalize sevs (s.size:Int)=L at *;go_wp2_with (go_at_call 48;refine HP.mono ?_;rintro e w1 ⟨rfl,B1⟩);go_ret;exact⟨by first|rfl|(rw[<-HE.out];rfl),B1⟩
theorem lst_next {α:Type}(f:α->List UInt8)(t:List UInt8)(l:List α)(k:Nat)(h:k<l.length)(n:Int):t++(sevs n++((l.take (k+1)).map f).flatten)=(t++(sevs n++((l.take k).map f).flatten))++f l[k]:=by
 rw[List.take_succ_eq_append_getElem h];simp only[List.map_append,List.flatten_append,List.map_cons,List.map_nil,List.flatten_cons,List.flatten_nil,List.append_nil,List.append_assoc]
theorem lst_all {α:Type}(f:α->List UInt8)(l:List α)(k:Nat)(h:¬k<l.length):sevs (l.length:Int)++((l.take k).map f).flatten=lst f l:=by
 rw[List.take_of_length_le (by omega)];rfl
theorem flat_len {α:Type}(f:α->List UInt8)(l:List α)(h:∀ x ∈ l,(f x).length<=30)(k:Nat):((l.take k).map f).flatten.length<=30*k:=by
 induction l generalizing k with
 | nil=>simp
 | cons x t ih =>
  cases k with
  | zero=>simp
  | succ k =>
   have h1:=h x (List.mem_cons_self ..);have h2:=ih (fun y hy=>h y (List.mem_cons_of_mem _ hy)) k;simp only[List.take_succ_cons,List.map_cons,List.flatten_cons,List.length_append];omega
theorem lay_w (w:World)(o:Nat->Nat)(v:Value)(t:List UInt8)(ao:Option Addr)(cap:Nat)(xs:List Int)(hrow:SrB w o v t)(hl:Lsv w ao (wsV xs))(hlab:∀ b off,xs≠[]->ao=some ⟨b,off,none⟩->o b≠1)
  (hn:xs.length<=32768) (ht:t.length<=10000000) (hok:∀ x ∈ xs,0<=x/\x<18446744073709551616) (hlen:∀ x ∈ xs,(sevs x).length<=30) :
  Calls Tryd.prog 42 #[v,.slice ao xs.length cap,.func (.func 43) #[] #[]] w fun e w'=>∃v',e=.returned v'/\∃o',RwB w' o' v' (t++lst sevs xs)/\Step (fun k=>k=1) w o w' o':=by
 obtain⟨ii,hii,hz0,hz1,hz2⟩:=info_parts infoU8;have HF:=flat_len sevs xs hlen;have hsl:=sevs_len (xs.length:Int);have HP:=number_c (xs.length:Int) w (by omega) (by omega);obtain⟨L,hL⟩:∃L,L=sevs (xs.length:Int):=⟨_,rfl⟩
 rw[<-hL] at HP hsl;have HL:=Lib.hid hL;have hz:(⟨L.toArray⟩:ByteArray).size=L.length:=size_mk _;clear hL;go_enter Tryd.func42,Tryd.ntmps42;go_wp2_with (first|(go_at_call 48;refine HP.mono ?_;rintro e w1 ⟨rfl,B1⟩)|(at_builtin;refine wpList_append_src rfl (.tmp 9) (.tmp 12) rfl o v t rfl (hrow.below B1) L rfl hsl.1 ?c1 ?c2 ?_)|go_in)
 case c1=>unfold maxLen;omega
 case c2=>omega
 intro v1 w2 o2 R2 S2;have SW:=(Step.ofBelow (I:=fun k=>k=1) o B1).trans S2;clear S2 B1 HP;have R2':Row w2 o2 1 5 1 v1 (t++(L++((xs.take 0).map sevs).flatten)).length (byL (t++(L++((xs.take 0).map sevs).flatten))):=by
  simpa [RwB] using R2
 clear R2;have hnI:xs.length<=32768:=hn;go_wp2_with fail;go_loopw [0,16] (fun vb vi wr=>∃(k:Nat) (o3:Nat->Nat),vi=.int .i64 (k:Nat)/\k<=xs.length/\Row wr o3 1 5 1 vb (t++(L++((xs.take k).map sevs).flatten)).length (byL (t++(L++((xs.take k).map sevs).flatten)))/\Step (fun k=>k=1) w o wr o3) (fun _ vi _=>xs.length-(intOf vi).toNat)
 case atStart=>exact⟨0,o2,by go_num,by omega,R2',SW⟩
 case round =>
  obtain⟨k,o3,rfl,hk,R3,S3⟩:=hrel;clear R2' SW;by_cases hlt:k<xs.length
  ·have hkI:(k:Int)<(xs.length:Int):=by omega
   have hox:=hok _ (List.getElem_mem hlt);have hlx:=hlen _ (List.getElem_mem hlt);have HK:=HF k;have hc0:=hl.at (wsV_at hlt);obtain⟨b,off,rfl,hbl,hc⟩:=hc0;have hc2:wr.cell? ⟨b,off+k,none⟩=some (.int .u64 xs[k]):=(World.cell?_of_block (a:=⟨b,off+k,none⟩) (S3.block b hbl (hlab b off (fun h=>by subst h;simp at hlt) rfl))).trans hc;have HX:=lst_next sevs t xs k hlt (xs.length:Int);rw[<-HL.out] at HX;have HXX:=Lib.hid HX;obtain⟨tk,htk⟩:∃tk,tk=t++(L++((xs.take k).map sevs).flatten):=⟨_,rfl⟩
   have htl:tk.length<=11000000:=by rw[htk];simp only[List.length_append];omega
   rw[<-htk] at R3 ;have HTK:=Lib.hid htk;clear htk HX hc HK;obtain⟨fx,hfx⟩:∃fx,fx=sevs xs[k]:=⟨_,rfl⟩
   rw[<-hfx] at HXX hlx;have CT:=fun wz=>put_any xs[k] wz hox.1 hox.2;rw[<-hfx] at CT;clear hfx;generalize xs[k]=x at *;go_wp2_with (first|(go_at_call 43;refine(CT _).mono ?_;rintro e w4 ⟨rfl,B4⟩;have R4:=R3.step (Step.ofBelow (I:=fun _=>False) o3 B4) (fun h=>h))|(at_builtin;refine wpList_append_str rfl (.tmp 20) (.tmp 23) 44 9 rfl 5 ii Tryd.underlying44 Tryd.underlying9 hii hz0 hz1 hz2 o3 1 u0 tk.length (byL tk) rfl R4 ⟨fx.toArray⟩ rfl ?d1 ?d2 ?_)|go_in)
   case d1=>(try rw[size_mk]);unfold maxLen;omega
   case d2=>(try rw[size_mk]);omega
   intro v5 w5 o5 R5 S5;try rw[size_mk] at R5
   rw[byL_app] at R5;have S6:=(S3.trans (Step.ofBelow o3 B4)).trans S5;have R6:Row w5 o5 1 5 1 v5 (t++(L++((xs.take (k+1)).map sevs).flatten)).length (byL (t++(L++((xs.take (k+1)).map sevs).flatten))):=by
    rw[HXX.out,<-HTK.out];simpa using R5
   clear R5 S5 R4 R3 S3 B4;go_wp2;go_roundw
   case rel=>(try ((repeat apply Exists.intro);refine⟨?_,rfl⟩));exact⟨k+1,o5,by go_num,by omega,R6,S6⟩
   case measure=>simp[intOf];omega
  ·have hkI:¬(k:Int)<(xs.length:Int):=by omega
   have e:=lst_all sevs xs k hlt;rw[<-HL.out] at e;rw[e] at R3;clear e HF;go_wp2;go_ret;exact⟨_,rfl,o3,R3,S3⟩
theorem lay_c (w:World)(o:Nat->Nat)(v:Value)(t:List UInt8)(ao:Option Addr)(cap:Nat)(xs:List Int)(hrow:SrB w o v t)(hl:Lsv w ao (isV xs))(hlab:∀ b off,xs≠[]->ao=some ⟨b,off,none⟩->o b≠1)
  (hn:xs.length<=32768) (ht:t.length<=10000000) (hok:∀ x ∈ xs,-9223372036854775808<=x/\x<=9223372036854775807) (hlen:∀ x ∈ xs,(conB x).length<=30) :
  Calls Tryd.prog 44 #[v,.slice ao xs.length cap,.func (.func 45) #[] #[]] w fun e w'=>∃v',e=.returned v'/\∃o',RwB w' o' v' (t++lst conB xs)/\Step (fun k=>k=1) w o w' o':=by
 obtain⟨ii,hii,hz0,hz1,hz2⟩:=info_parts infoU8;have HF:=flat_len conB xs hlen;have hsl:=sevs_len (xs.length:Int);have HP:=number_c (xs.length:Int) w (by omega) (by omega);obtain⟨L,hL⟩:∃L,L=sevs (xs.length:Int):=⟨_,rfl⟩
 rw[<-hL] at HP hsl;have HL:=Lib.hid hL;have hz:(⟨L.toArray⟩:ByteArray).size=L.length:=size_mk _;clear hL;go_enter Tryd.func44,Tryd.ntmps44;go_wp2_with (first|(go_at_call 48;refine HP.mono ?_;rintro e w1 ⟨rfl,B1⟩)|(at_builtin;refine wpList_append_src rfl (.tmp 9) (.tmp 12) rfl o v t rfl (hrow.below B1) L rfl hsl.1 ?c1 ?c2 ?_)|go_in)
 case c1=>unfold maxLen;omega
 case c2=>omega
 intro v1 w2 o2 R2 S2;have SW:=(Step.ofBelow (I:=fun k=>k=1) o B1).trans S2;clear S2 B1 HP;have R2':Row w2 o2 1 5 1 v1 (t++(L++((xs.take 0).map conB).flatten)).length (byL (t++(L++((xs.take 0).map conB).flatten))):=by
  simpa [RwB] using R2
 clear R2;have hnI:xs.length<=32768:=hn;go_wp2_with fail;go_loopw [0,16] (fun vb vi wr=>∃(k:Nat) (o3:Nat->Nat),vi=.int .i64 (k:Nat)/\k<=xs.length/\Row wr o3 1 5 1 vb (t++(L++((xs.take k).map conB).flatten)).length (byL (t++(L++((xs.take k).map conB).flatten)))/\Step (fun k=>k=1) w o wr o3) (fun _ vi _=>xs.length-(intOf vi).toNat)
 case atStart=>exact⟨0,o2,by go_num,by omega,R2',SW⟩
 case round =>
  obtain⟨k,o3,rfl,hk,R3,S3⟩:=hrel;clear R2' SW;by_cases hlt:k<xs.length
  ·have hkI:(k:Int)<(xs.length:Int):=by omega
   have hox:=hok _ (List.getElem_mem hlt);have hlx:=hlen _ (List.getElem_mem hlt);have HK:=HF k;have hc0:=hl.at (isV_get hlt);obtain⟨b,off,rfl,hbl,hc⟩:=hc0;have hc2:wr.cell? ⟨b,off+k,none⟩=some (.int .i64 xs[k]):=(World.cell?_of_block (a:=⟨b,off+k,none⟩) (S3.block b hbl (hlab b off (fun h=>by subst h;simp at hlt) rfl))).trans hc;have HX:=lst_next conB t xs k hlt (xs.length:Int);rw[<-HL.out] at HX;have HXX:=Lib.hid HX;obtain⟨tk,htk⟩:∃tk,tk=t++(L++((xs.take k).map conB).flatten):=⟨_,rfl⟩
   have htl:tk.length<=11000000:=by rw[htk];simp only[List.length_append];omega
   rw[<-htk] at R3 ;have HTK:=Lib.hid htk;clear htk HX hc HK;obtain⟨fx,hfx⟩:∃fx,fx=conB xs[k]:=⟨_,rfl⟩
   rw[<-hfx] at HXX hlx;have CT:=fun wz=>constant_c xs[k] wz hox.1 hox.2;rw[<-hfx] at CT;clear hfx;generalize xs[k]=x at *;go_wp2_with (first|(go_at_call 45;refine(CT _).mono ?_;rintro e w4 ⟨rfl,B4⟩;have R4:=R3.step (Step.ofBelow (I:=fun _=>False) o3 B4) (fun h=>h))|(at_builtin;refine wpList_append_str rfl (.tmp 20) (.tmp 23) 44 9 rfl 5 ii Tryd.underlying44 Tryd.underlying9 hii hz0 hz1 hz2 o3 1 u0 tk.length (byL tk) rfl R4 ⟨fx.toArray⟩ rfl ?d1 ?d2 ?_)|go_in)
   case d1=>(try rw[size_mk]);unfold maxLen;omega
   case d2=>(try rw[size_mk]);omega
   intro v5 w5 o5 R5 S5;try rw[size_mk] at R5
   rw[byL_app] at R5;have S6:=(S3.trans (Step.ofBelow o3 B4)).trans S5;have R6:Row w5 o5 1 5 1 v5 (t++(L++((xs.take (k+1)).map conB).flatten)).length (byL (t++(L++((xs.take (k+1)).map conB).flatten))):=by
    rw[HXX.out,<-HTK.out];simpa using R5
   clear R5 S5 R4 R3 S3 B4;go_wp2;go_roundw
   case rel=>(try ((repeat apply Exists.intro);refine⟨?_,rfl⟩));exact⟨k+1,o5,by go_num,by omega,R6,S6⟩
   case measure=>simp[intOf];omega
  ·have hkI:¬(k:Int)<(xs.length:Int):=by omega
   have e:=lst_all conB xs k hlt;rw[<-HL.out] at e;rw[e] at R3;clear e HF;go_wp2;go_ret;exact⟨_,rfl,o3,R3,S3⟩
theorem lay_n (w:World)(o:Nat->Nat)(v:Value)(t:List UInt8)(ao:Option Addr)(cap:Nat)(xs:List ByteArray)(hrow:SrB w o v t)(hl:Lsv w ao (nsV xs))(hlab:∀ b off,xs≠[]->ao=some ⟨b,off,none⟩->o b≠1)
  (hn:xs.length<=32768) (ht:t.length<=10000000) (hok:∀ x ∈ xs,x.size<=1000) (hlen:∀ x ∈ xs,(namB x).length<=30) :
  Calls Tryd.prog 46 #[v,.slice ao xs.length cap,.func (.func 47) #[] #[]] w fun e w'=>∃v',e=.returned v'/\∃o',RwB w' o' v' (t++lst namB xs)/\Step (fun k=>k=1) w o w' o':=by
 obtain⟨ii,hii,hz0,hz1,hz2⟩:=info_parts infoU8;have HF:=flat_len namB xs hlen;have hsl:=sevs_len (xs.length:Int);have HP:=number_c (xs.length:Int) w (by omega) (by omega);obtain⟨L,hL⟩:∃L,L=sevs (xs.length:Int):=⟨_,rfl⟩
 rw[<-hL] at HP hsl;have HL:=Lib.hid hL;have hz:(⟨L.toArray⟩:ByteArray).size=L.length:=size_mk _;clear hL;go_enter Tryd.func46,Tryd.ntmps46;go_wp2_with (first|(go_at_call 48;refine HP.mono ?_;rintro e w1 ⟨rfl,B1⟩)|(at_builtin;refine wpList_append_src rfl (.tmp 9) (.tmp 12) rfl o v t rfl (hrow.below B1) L rfl hsl.1 ?c1 ?c2 ?_)|go_in)
 case c1=>unfold maxLen;omega
 case c2=>omega
 intro v1 w2 o2 R2 S2;have SW:=(Step.ofBelow (I:=fun k=>k=1) o B1).trans S2;clear S2 B1 HP;have R2':Row w2 o2 1 5 1 v1 (t++(L++((xs.take 0).map namB).flatten)).length (byL (t++(L++((xs.take 0).map namB).flatten))):=by
  simpa [RwB] using R2
 clear R2;have hnI:xs.length<=32768:=hn;go_wp2_with fail;go_loopw [0,16] (fun vb vi wr=>∃(k:Nat) (o3:Nat->Nat),vi=.int .i64 (k:Nat)/\k<=xs.length/\Row wr o3 1 5 1 vb (t++(L++((xs.take k).map namB).flatten)).length (byL (t++(L++((xs.take k).map namB).flatten)))/\Step (fun k=>k=1) w o wr o3) (fun _ vi _=>xs.length-(intOf vi).toNat)
 case atStart=>exact⟨0,o2,by go_num,by omega,R2',SW⟩
 case round =>
  obtain⟨k,o3,rfl,hk,R3,S3⟩:=hrel;clear R2' SW;by_cases hlt:k<xs.length
  ·have hkI:(k:Int)<(xs.length:Int):=by omega
   have hox:=hok _ (List.getElem_mem hlt);have hlx:=hlen _ (List.getElem_mem hlt);have HK:=HF k;have hc0:=hl.at (nsV_at hlt);obtain⟨b,off,rfl,hbl,hc⟩:=hc0;have hc2:wr.cell? ⟨b,off+k,none⟩=some (.string xs[k]):=(World.cell?_of_block (a:=⟨b,off+k,none⟩) (S3.block b hbl (hlab b off (fun h=>by subst h;simp at hlt) rfl))).trans hc;have HX:=lst_next namB t xs k hlt (xs.length:Int);rw[<-HL.out] at HX;have HXX:=Lib.hid HX;obtain⟨tk,htk⟩:∃tk,tk=t++(L++((xs.take k).map namB).flatten):=⟨_,rfl⟩
   have htl:tk.length<=11000000:=by rw[htk];simp only[List.length_append];omega
   rw[<-htk] at R3 ;have HTK:=Lib.hid htk;clear htk HX hc HK;obtain⟨fx,hfx⟩:∃fx,fx=namB xs[k]:=⟨_,rfl⟩
   rw[<-hfx] at HXX hlx;have CT:=fun wz=>named_c xs[k] wz hox;rw[<-hfx] at CT;clear hfx;generalize xs[k]=x at *;go_wp2_with (first|(go_at_call 47;refine(CT _).mono ?_;rintro e w4 ⟨rfl,B4⟩;have R4:=R3.step (Step.ofBelow (I:=fun _=>False) o3 B4) (fun h=>h))|(at_builtin;refine wpList_append_str rfl (.tmp 20) (.tmp 23) 44 9 rfl 5 ii Tryd.underlying44 Tryd.underlying9 hii hz0 hz1 hz2 o3 1 u0 tk.length (byL tk) rfl R4 ⟨fx.toArray⟩ rfl ?d1 ?d2 ?_)|go_in)
   case d1=>(try rw[size_mk]);unfold maxLen;omega
   case d2=>(try rw[size_mk]);omega
   intro v5 w5 o5 R5 S5;try rw[size_mk] at R5
   rw[byL_app] at R5;have S6:=(S3.trans (Step.ofBelow o3 B4)).trans S5;have R6:Row w5 o5 1 5 1 v5 (t++(L++((xs.take (k+1)).map namB).flatten)).length (byL (t++(L++((xs.take (k+1)).map namB).flatten))):=by
    rw[HXX.out,<-HTK.out];simpa using R5
   clear R5 S5 R4 R3 S3 B4;go_wp2;go_roundw
   case rel=>(try ((repeat apply Exists.intro);refine⟨?_,rfl⟩));exact⟨k+1,o5,by go_num,by omega,R6,S6⟩
   case measure=>simp[intOf];omega
  ·have hkI:¬(k:Int)<(xs.length:Int):=by omega
   have e:=lst_all namB xs k hlt;rw[<-HL.out] at e;rw[e] at R3;clear e HF;go_wp2;go_ret;exact⟨_,rfl,o3,R3,S3⟩
theorem lay_k (w:World)(o:Nat->Nat)(v:Value)(t:List UInt8)(ao:Option Addr)(cap:Nat)(xs:List Int)(hrow:SrB w o v t)(hl:Lsv w ao (isV xs))(hlab:∀ b off,xs≠[]->ao=some ⟨b,off,none⟩->o b≠1)
  (hn:xs.length<=32768) (ht:t.length<=10000000) (hok:∀ x ∈ xs,0<=x/\x<9223372036854775808) (hlen:∀ x ∈ xs,(sevs x).length<=30) :
  Calls Tryd.prog 44 #[v,.slice ao xs.length cap,.func (.func 48) #[] #[]] w fun e w'=>∃v',e=.returned v'/\∃o',RwB w' o' v' (t++lst sevs xs)/\Step (fun k=>k=1) w o w' o':=by
 obtain⟨ii,hii,hz0,hz1,hz2⟩:=info_parts infoU8;have HF:=flat_len sevs xs hlen;have hsl:=sevs_len (xs.length:Int);have HP:=number_c (xs.length:Int) w (by omega) (by omega);obtain⟨L,hL⟩:∃L,L=sevs (xs.length:Int):=⟨_,rfl⟩
 rw[<-hL] at HP hsl;have HL:=Lib.hid hL;have hz:(⟨L.toArray⟩:ByteArray).size=L.length:=size_mk _;clear hL;go_enter Tryd.func44,Tryd.ntmps44;go_wp2_with (first|(go_at_call 48;refine HP.mono ?_;rintro e w1 ⟨rfl,B1⟩)|(at_builtin;refine wpList_append_src rfl (.tmp 9) (.tmp 12) rfl o v t rfl (hrow.below B1) L rfl hsl.1 ?c1 ?c2 ?_)|go_in)
 case c1=>unfold maxLen;omega
 case c2=>omega
 intro v1 w2 o2 R2 S2;have SW:=(Step.ofBelow (I:=fun k=>k=1) o B1).trans S2;clear S2 B1 HP;have R2':Row w2 o2 1 5 1 v1 (t++(L++((xs.take 0).map sevs).flatten)).length (byL (t++(L++((xs.take 0).map sevs).flatten))):=by
  simpa [RwB] using R2
 clear R2;have hnI:xs.length<=32768:=hn;go_wp2_with fail;go_loopw [0,16] (fun vb vi wr=>∃(k:Nat) (o3:Nat->Nat),vi=.int .i64 (k:Nat)/\k<=xs.length/\Row wr o3 1 5 1 vb (t++(L++((xs.take k).map sevs).flatten)).length (byL (t++(L++((xs.take k).map sevs).flatten)))/\Step (fun k=>k=1) w o wr o3) (fun _ vi _=>xs.length-(intOf vi).toNat)
 case atStart=>exact⟨0,o2,by go_num,by omega,R2',SW⟩
 case round =>
  obtain⟨k,o3,rfl,hk,R3,S3⟩:=hrel;clear R2' SW;by_cases hlt:k<xs.length
  ·have hkI:(k:Int)<(xs.length:Int):=by omega
   have hox:=hok _ (List.getElem_mem hlt);have hlx:=hlen _ (List.getElem_mem hlt);have HK:=HF k;have hc0:=hl.at (isV_get hlt);obtain⟨b,off,rfl,hbl,hc⟩:=hc0;have hc2:wr.cell? ⟨b,off+k,none⟩=some (.int .i64 xs[k]):=(World.cell?_of_block (a:=⟨b,off+k,none⟩) (S3.block b hbl (hlab b off (fun h=>by subst h;simp at hlt) rfl))).trans hc;have HX:=lst_next sevs t xs k hlt (xs.length:Int);rw[<-HL.out] at HX;have HXX:=Lib.hid HX;obtain⟨tk,htk⟩:∃tk,tk=t++(L++((xs.take k).map sevs).flatten):=⟨_,rfl⟩
   have htl:tk.length<=11000000:=by rw[htk];simp only[List.length_append];omega
   rw[<-htk] at R3 ;have HTK:=Lib.hid htk;clear htk HX hc HK;obtain⟨fx,hfx⟩:∃fx,fx=sevs xs[k]:=⟨_,rfl⟩
   rw[<-hfx] at HXX hlx;have CT:=fun wz=>number_c xs[k] wz hox.1 hox.2;rw[<-hfx] at CT;clear hfx;generalize xs[k]=x at *;go_wp2_with (first|(go_at_call 48;refine(CT _).mono ?_;rintro e w4 ⟨rfl,B4⟩;have R4:=R3.step (Step.ofBelow (I:=fun _=>False) o3 B4) (fun h=>h))|(at_builtin;refine wpList_append_str rfl (.tmp 20) (.tmp 23) 44 9 rfl 5 ii Tryd.underlying44 Tryd.underlying9 hii hz0 hz1 hz2 o3 1 u0 tk.length (byL tk) rfl R4 ⟨fx.toArray⟩ rfl ?d1 ?d2 ?_)|go_in)
   case d1=>(try rw[size_mk]);unfold maxLen;omega
   case d2=>(try rw[size_mk]);omega
   intro v5 w5 o5 R5 S5;try rw[size_mk] at R5
   rw[byL_app] at R5;have S6:=(S3.trans (Step.ofBelow o3 B4)).trans S5;have R6:Row w5 o5 1 5 1 v5 (t++(L++((xs.take (k+1)).map sevs).flatten)).length (byL (t++(L++((xs.take (k+1)).map sevs).flatten))):=by
    rw[HXX.out,<-HTK.out];simpa using R5
   clear R5 S5 R4 R3 S3 B4;go_wp2;go_roundw
   case rel=>(try ((repeat apply Exists.intro);refine⟨?_,rfl⟩));exact⟨k+1,o5,by go_num,by omega,R6,S6⟩
   case measure=>simp[intOf];omega
  ·have hkI:¬(k:Int)<(xs.length:Int):=by omega
   have e:=lst_all sevs xs k hlt;rw[<-HL.out] at e;rw[e] at R3;clear e HF;go_wp2;go_ret;exact⟨_,rfl,o3,R3,S3⟩
theorem rgt_ok {c:Cd}(ho:c.Ok)(h:rgtB c=true):(∀ x ∈ c.ns,x.size<=1000)/\(∀ x ∈ c.ks,0<=x/\x<9223372036854775808)/\(∀ x ∈ c.ns,(namB x).length<=30):=by
 refine⟨fun x hx=>?_,fun x hx=>?_,fun x hx=>?_⟩
 ·have:=rgt_names h x hx;omega
 ·have:=rgt_kinds h x hx;omega
 ·have h1:=rgt_names h x hx;have h2:=sevs_len (x.size:Int);have h3:x.data.toList.length=x.size:=Array.length_toList;unfold namB;rw[List.length_append];omega
theorem sevs_30 (x:Int):(sevs x).length<=30:=by have:=sevs_len x;omega
theorem lst_len {α:Type}(f:α->List UInt8)(l:List α)(h:∀ x ∈ l,(f x).length<=30):(lst f l).length<=10+30*l.length:=by
 have h1:=sevs_len (l.length:Int);have h2:=flat_len f l h l.length;rw[List.take_length] at h2;unfold lst;rw[List.length_append];omega
abbrev markA:Array Value:=#[.int .u8 73,.int .u8 67,.int .u8 49]
theorem mark_src (w:World)(o:Nat->Nat)(g:Nat)(hg:w.heap.size=g):SrB (w.alloc (.cells markA 5 (3,4))) o (.slice (some ⟨g,0,none⟩) 3 3) [73,67,49]:=by
 subst hg;have hh:=heap_alloc_new w (.cells markA 5 (3,4));refine .inr ⟨w.heap.size,rfl,by simp,fun j u hj=>?_⟩;unfold World.cell?;rw[hh]
 match j,hj with
 | 0,hj=>simp[byL] at hj;subst hj;rfl
 | 1,hj=>simp[byL] at hj;subst hj;rfl
 | 2,hj=>simp[byL] at hj;subst hj;rfl
theorem mark_conv (w:World)(g:Nat)(hg:w.heap.size=g):(convert 44 44 (.slice (some ⟨g,0,none⟩) 3 3)).run Tryd.prog (w.alloc (.cells markA 5))=.ok (.slice (some ⟨g,0,none⟩) 3 3) (w.alloc (.cells markA 5 (3,4))):=by
 subst hg;exact Go.Lib.run_convert_bytes_const w 44 5 markA 3 3 Tryd.underlying44 Tryd.underlying5
theorem RwB.pos {w:World}{o:Nat->Nat}{v:Value}{t:List UInt8}(h:RwB w o v t)(hn:0<t.length):∃g cap,v=.slice (some ⟨g,0,none⟩) t.length cap/\o g=1/\(convert 44 9 (.slice (some ⟨g,0,none⟩) t.length cap)).run Tryd.prog w=.ok (.string ⟨t.toArray⟩) w:=by
 obtain⟨g,cap,rfl,h1,-⟩:=Row.pos h hn;exact⟨g,cap,rfl,h1,owned_text h.1⟩
theorem Lsv.lab {w:World}{ao:Option Addr}{xs:List Value}(h:Lsv w ao xs)(hx:xs≠[]){b off:Nat}(e:ao=some ⟨b,off,none⟩):b<w.heap.size:=by
 rcases h with h|⟨b',off',e',hlt,_⟩
 ·exact absurd h hx
 ·rw[e'] at e;simp at e;omega
theorem body_c (p:Pl)(c:Cd)(w:World)(hC:CdW w p c)(hr:rgtB c=true) :
  Calls Tryd.prog 27 #[cdV p c] w fun e w'=>e=.returned (.string ⟨(bodB c).toArray⟩)/\Below w.heap.size w w':=by
 obtain⟨l0,l1,l2,l3,l4⟩:=rgt_lens hr;obtain⟨hns,hks,hnl⟩:=rgt_ok hC.ok hr;have len1:=lst_len sevs c.ws (fun x _=>sevs_30 x);have len2:=lst_len conB c.cs (fun x _=>sevs_30 _);have len3:=lst_len namB c.ns hnl;obtain⟨w1,hw1⟩:∃w1,w1=w.alloc (.cells (cdA p c) 26):=⟨_,rfl⟩
 obtain⟨b0,hb0⟩:∃b0,b0=w.heap.size:=⟨_,rfl⟩
 have B1:Below w.heap.size w w1:=by rw[hw1];exact b1 _ _
 have K1:bx4 p c w1 b0:=by rw[hw1,hb0];exact bx4_new p c w
 have L1:b0<w1.heap.size:=by rw[hw1,hb0];simp
 have C1:=hC.below B1;have HB0:Hid (b0=w.heap.size):=hb0;clear hb0 hC;have hg:w1.heap.size=b0+1:=by rw[hw1,HB0.out];simp
 have kc:=mark_conv w1 _ hg;obtain⟨w2,hw2⟩:∃w2,w2=w1.alloc (.cells markA 5 (3,4)):=⟨_,rfl⟩
 obtain⟨o,ho⟩:∃o,o=newLab w1 (fun _=>0) 1:=⟨_,rfl⟩
 have R2:SrB w2 o (.slice (some ⟨b0+1,0,none⟩) 3 3) [73,67,49]:=by rw[hw2];exact mark_src w1 o _ hg
 have B2:Below w1.heap.size w1 w2:=by rw[hw2];exact b1 _ _
 have hol:∀ k,k<w1.heap.size->¬o k=1:=fun k hk=>by rw[ho,newLab_old hk];omega
 have S2:Step (fun k=>k=1) w1 o w2 o:=Step.ofBelow o B2;clear hg ho B2;have KS:∀ {w3:World}{o3:Nat->Nat},Step (fun k=>k=1) w1 o w3 o3->bx4 p c w3 b0/\CdW w3 p c/\(∀ k,k<w1.heap.size->o3 k≠1):=fun {w3 o3} s=>by
  have B:=s.below hol;exact⟨bx4_below K1 L1 B,C1.below B,fun k hk=>by rw[s.lab k hk];exact hol k hk⟩
 have LW:∀ {o3:Nat->Nat},(∀ k,k<w1.heap.size->o3 k≠1)->∀ b off,c.ws≠[]->p.aw=some ⟨b,off,none⟩->o3 b≠1:=fun {o3} h b off hx e=>h b (C1.ws.lab (by simpa [wsV] using hx) e);have LC:∀ {o3:Nat->Nat},(∀ k,k<w1.heap.size->o3 k≠1)->∀ b off,c.cs≠[]->p.ac=some ⟨b,off,none⟩->o3 b≠1:=fun {o3} h b off hx e=>h b (C1.cs.lab (by simpa [isV] using hx) e);have LN:∀ {o3:Nat->Nat},(∀ k,k<w1.heap.size->o3 k≠1)->∀ b off,c.ns≠[]->p.an=some ⟨b,off,none⟩->o3 b≠1:=fun {o3} h b off hx e=>h b (C1.ns.lab (by simpa [nsV] using hx) e);have LK:∀ {o3:Nat->Nat},(∀ k,k<w1.heap.size->o3 k≠1)->∀ b off,c.ks≠[]->p.ak=some ⟨b,off,none⟩->o3 b≠1:=fun {o3} h b off hx e=>h b (C1.ks.lab (by simpa [isV] using hx) e);have HW:∀ (w3:World) (o3:Nat->Nat) (v:Value) (t:List UInt8),Step (fun k=>k=1) w1 o w3 o3->SrB w3 o3 v t->t.length<=10000000->Calls Tryd.prog 42 #[v,.slice p.aw c.ws.length p.cw,.func (.func 43) #[] #[]] w3 fun e w'=>∃v',e=.returned v'/\∃o',RwB w' o' v' (t++lst sevs c.ws)/\Step (fun k=>k=1) w1 o w' o':=fun w3 o3 v t s r ht=>by
  obtain⟨-,k2,k3⟩:=KS s;exact(lay_w w3 o3 v t p.aw p.cw c.ws r k2.ws (LW k3) l1 ht k2.ok.ws (fun x _=>sevs_30 x)).mono fun e w' ⟨v',e1,o',r',s'⟩=>⟨v',e1,o',r',s.trans s'⟩
 have HC:∀ (w3:World) (o3:Nat->Nat) (v:Value) (t:List UInt8),Step (fun k=>k=1) w1 o w3 o3->SrB w3 o3 v t->t.length<=10000000->Calls Tryd.prog 44 #[v,.slice p.ac c.cs.length p.cc,.func (.func 45) #[] #[]] w3 fun e w'=>∃v',e=.returned v'/\∃o',RwB w' o' v' (t++lst conB c.cs)/\Step (fun k=>k=1) w1 o w' o':=fun w3 o3 v t s r ht=>by
  obtain⟨-,k2,k3⟩:=KS s;exact(lay_c w3 o3 v t p.ac p.cc c.cs r k2.cs (LC k3) l2 ht k2.ok.cs (fun x _=>sevs_30 _)).mono fun e w' ⟨v',e1,o',r',s'⟩=>⟨v',e1,o',r',s.trans s'⟩
 have HN:∀ (w3:World) (o3:Nat->Nat) (v:Value) (t:List UInt8),Step (fun k=>k=1) w1 o w3 o3->SrB w3 o3 v t->t.length<=10000000->Calls Tryd.prog 46 #[v,.slice p.an c.ns.length p.cn,.func (.func 47) #[] #[]] w3 fun e w'=>∃v',e=.returned v'/\∃o',RwB w' o' v' (t++lst namB c.ns)/\Step (fun k=>k=1) w1 o w' o':=fun w3 o3 v t s r ht=>by
  obtain⟨-,k2,k3⟩:=KS s;exact(lay_n w3 o3 v t p.an p.cn c.ns r k2.ns (LN k3) (by omega) ht hns hnl).mono fun e w' ⟨v',e1,o',r',s'⟩=>⟨v',e1,o',r',s.trans s'⟩
 have HK:∀ (w3:World) (o3:Nat->Nat) (v:Value) (t:List UInt8),Step (fun k=>k=1) w1 o w3 o3->SrB w3 o3 v t->t.length<=10000000->Calls Tryd.prog 44 #[v,.slice p.ak c.ks.length p.ck,.func (.func 48) #[] #[]] w3 fun e w'=>∃v',e=.returned v'/\∃o',RwB w' o' v' (t++lst sevs c.ks)/\Step (fun k=>k=1) w1 o w' o':=fun w3 o3 v t s r ht=>by
  obtain⟨-,k2,k3⟩:=KS s;exact(lay_k w3 o3 v t p.ak p.ck c.ks r k2.ks (LK k3) (by omega) ht hks (fun x _=>sevs_30 x)).mono fun e w' ⟨v',e1,o',r',s'⟩=>⟨v',e1,o',r',s.trans s'⟩
 have HE:Hid (bodB c=[73,67,49]++lst sevs c.ws++lst conB c.cs++lst namB c.ns++lst sevs c.ks):=rfl;have len5:0<(bodB c).length:=by rw[HE.out];simp only[List.length_append,List.length_cons,List.length_nil];omega
 obtain⟨k0,k1,k2,k3⟩:=(KS S2).1;have bd3:([73,67,49]:List UInt8).length<=10000000:=by decide
 have bd4:([73,67,49]++lst sevs c.ws).length<=10000000:=by simp only[List.length_append,List.length_cons,List.length_nil];omega
 have bd5:([73,67,49]++lst sevs c.ws++lst conB c.cs).length<=10000000:=by simp only[List.length_append,List.length_cons,List.length_nil];omega
 have bd6:([73,67,49]++lst sevs c.ws++lst conB c.cs++lst namB c.ns).length<=10000000:=by simp only[List.length_append,List.length_cons,List.length_nil];omega
 clear len1 len2 len3 LW LC LN LK;go_enter Tryd.func27,Tryd.ntmps27;go_wp2_with fail;rw[<-hw1,<-HB0.out];clear hw1;go_wp2_with fail;rw[kc,<-hw2];clear hw2 K1 kc;go_wp2_with fail;refine(HW _ _ _ _ S2 R2 bd3).mono ?_;rintro e w3 ⟨v3,rfl,o3,R3,S3⟩;obtain⟨q0,q1,q2,q3⟩:=(KS S3).1;have HC3:=HC _ _ _ _ S3 (.inl R3) bd4;clear HW R2 S2 R3 S3 HC k0 k1 k2 k3;go_wp2_with fail;refine HC3.mono ?_;rintro e w4 ⟨v4,rfl,o4,R4,S4⟩;clear HC3 q0 q1 q2 q3;obtain⟨q0,q1,q2,q3⟩:=(KS S4).1;have HN4:=HN _ _ _ _ S4 (.inl R4) bd5;clear HN R4 S4;go_wp2_with fail;refine HN4.mono ?_;rintro e w5 ⟨v5,rfl,o5,R5,S5⟩;clear HN4 q0 q1 q2 q3;obtain⟨q0,q1,q2,q3⟩:=(KS S5).1;have HK5:=HK _ _ _ _ S5 (.inl R5) bd6;clear HK R5 S5;rw[<-HE.out] at HK5;go_wp2_with fail;refine HK5.mono ?_;rintro e w6 ⟨v6,rfl,o6,R6,S6⟩;clear HK5 q0 q1 q2 q3;obtain⟨g6,c6,rfl,-,hcv⟩:=R6.pos len5;have B6:=S6.below hol;clear R6 S6 KS;go_wp2;go_ret;exact⟨rfl,B1.trans (B6.mono B1.size)⟩
theorem sum_c (s:ByteArray)(w:World)(hs:s.size<=maxLen) :
  Calls Tryd.prog 28 #[.string s] w fun e w'=>e=.returned (.int .u64 (sumB s.data.toList))/\w'=w:=by
 unfold maxLen at hs;go_enter Tryd.func28,Tryd.ntmps28;go_wp2_with fail;go_loopw [3,7] (fun h i wr=>∃k:Nat,∃x:Int,i=.int .i64 (k:Nat)/\h=.int .u64 x/\k<=s.size/\Hid (x=sumB (s.data.toList.take k))/\0<=x/\x<18446744073709551616/\wr=w) (fun _ i _=>s.size-(intOf i).toNat)
 case atStart=>exact⟨0,0,by go_num,rfl,by omega,rfl,by omega,by omega,rfl⟩
 case round =>
  obtain⟨k,x,rfl,rfl,hk,HX,hx1,hx2,rfl⟩:=hrel;by_cases hlt:k<s.size
  ·have hkI:(k:Int)<(s.size:Int):=by omega
   have hll:k<s.data.toList.length:=by rw[data_len];exact hlt
   have hb:(s[k]'hlt).toNat<256:=UInt8.toNat_lt _;have HN:Hid (mx x (zg ((s[k]'hlt).toNat:Int))=sumB (s.data.toList.take (k+1))):=by
    show _=_;rw[List.take_succ_eq_append_getElem hll,sumB,stir_snoc,HX.out,data_get s k hlt hll];rfl
   have MX:=mix_any x ((s[k]'hlt).toNat:Int) wr hx1 hx2 (by omega) (by omega);have bd:=mx_bd x (zg ((s[k]'hlt).toNat:Int));generalize mx x (zg ((s[k]'hlt).toNat:Int))=y at MX bd HN;go_wp2_with (go_at_call 49;refine MX.mono ?_;rintro e w1 ⟨rfl,rfl⟩);go_roundw
   case rel=>(try ((repeat apply Exists.intro);refine⟨?_,rfl⟩));exact⟨k+1,y,by go_num,rfl,by omega,HN.out,bd.1,bd.2,by trivial⟩
   case measure=>simp[intOf];omega
  ·have hkI:¬(k:Int)<(s.size:Int):=by omega
   have fin:x=sumB s.data.toList:=by
    rw[HX.out,List.take_of_length_le (by rw[data_len];omega)]
   have FN:=Lib.hid fin;clear fin;go_wp2;go_ret;exact⟨by rw[<-FN.out];rfl,rfl⟩
def selV (h:Int)(k:Nat):List Value:=(List.range 8).map fun i=>if i<k then Value.int .u8 ((UInt8.ofNat (h.toNat / 256 ^ i)).toNat:Int) else .int .u8 0
theorem selV_len (h:Int)(k:Nat):(selV h k).length=8:=by simp[selV]
theorem selV_set (h:Int)(k:Nat)(hk:k<8):(selV h k).set k (.int .u8 ((UInt8.ofNat (h.toNat / 256 ^ k)).toNat:Int))=selV h (k+1):=by
 apply List.ext_getElem?;intro i;rw[List.getElem?_set];by_cases hi:i<8
 ·simp only[selV,List.getElem?_map,List.getElem?_range hi,Option.map_some,List.length_map,List.length_range];by_cases e:k=i
  ·subst e;simp[hk]
  ·rw[if_neg e];by_cases h1:i<k
   ·simp[h1,show i<k+1 by omega]
   ·simp[h1,show ¬i<k+1 by omega]
 ·rw[if_neg (by omega),List.getElem?_eq_none (by rw[selV_len];omega),List.getElem?_eq_none (by rw[selV_len];omega)]
theorem selV_all (h:Int):selV h 8=byL (selB h):=by
 simp only[selV,byL,selB,List.map_map];apply List.map_congr_left;intro i hi;rw[List.mem_range] at hi;simp[hi]
theorem sel_byte (h:Int)(k:Nat)(h1:0<=h):IntKind.u8.wrap (h / 2 ^ (8*k))=((UInt8.ofNat (h.toNat / 256 ^ k)).toNat:Int):=by
 obtain⟨n,rfl⟩:=Int.eq_ofNat_of_zero_le h1;have e:((2:Int) ^ (8*k))=((256 ^ k:Nat):Int):=by
  rw[show (256:Nat)=2 ^ 8 by decide,<-Nat.pow_mul];simp
 rw[e,IntKind.wrap_u8,UInt8.toNat_ofNat',Int.toNat_natCast]
 have:((n:Int) / ((256 ^ k:Nat):Int))=((n / 256 ^ k:Nat):Int):=by simp
 rw[this];omega
theorem sealed_c (s:ByteArray)(w:World)(hs:s.size<=140737488355328) :
  Calls Tryd.prog 26 #[.string s] w fun e w'=>e=.returned (.string ⟨(sldB s.data.toList).toArray⟩)/\Below w.heap.size w w':=by
 have hs':s.size<=maxLen:=by unfold maxLen;omega
 have HS:=sum_c s w hs';obtain⟨hb1,hb2⟩:=sumB_bd s.data.toList;have HR:Hid (sldB s.data.toList=s.data.toList++selB (sumB s.data.toList)):=rfl;generalize sumB s.data.toList=h at *;go_enter Tryd.func26,Tryd.ntmps26;go_wp2_with (go_at_call 28;refine HS.mono ?_;rintro e w1 ⟨rfl,rfl⟩);obtain⟨wa,hwa⟩:∃wa,wa=w1.alloc (.cells #[.int .u8 0,.int .u8 0,.int .u8 0,.int .u8 0,.int .u8 0,.int .u8 0,.int .u8 0,.int .u8 0] 70):=⟨_,rfl⟩
 obtain⟨g,hg0⟩:∃g,g=w1.heap.size:=⟨_,rfl⟩
 have G0:wa.heap[g]?=some (.cells (selV h 0).toArray 70 (0,0)):=by rw[hwa,hg0];exact heap_alloc_new _ _
 have BA:Below g w1 wa:=by rw[hwa,hg0];exact b1 _ _
 rw[<-hwa,<-hg0];have HG0:=Lib.hid hg0;clear hwa hg0;go_loopw [8] (fun v wr=>∃k:Nat,v=.int .i64 (k:Nat)/\k<=8/\wr.heap[g]?=some (.cells (selV h k).toArray 70 (0,0))/\Below g w1 wr) (fun v _=>8-(intOf v).toNat)
 case atStart=>exact⟨0,by go_num,by omega,G0,BA⟩
 case round =>
  obtain⟨k,rfl,hk,hg,hB⟩:=hrel;clear G0 BA;by_cases hlt:k<8
  ·have hkI:(k:Int)<8:=by omega
   have hcl:(selV h k)[k]?=some ((selV h k)[k]'(by rw[selV_len];exact hlt)):=List.getElem?_eq_getElem _;obtain⟨z,hz⟩:∃z,(selV h k)[k]?=some z:=⟨_,hcl⟩
   have hc:wr.cell? ⟨g,k,none⟩=some z:=by simp[World.cell?,hg,hz]
   have hf:wr.frozen? ⟨g,k,none⟩=false:=by simp[World.frozen?,hg]
   have eb:=sel_byte h k hb1;have HN:Hid ((wr.setCell ⟨g,k,none⟩ (.int .u8 ((UInt8.ofNat (h.toNat / 256 ^ k)).toNat:Int))).heap[g]?=some (.cells (selV h (k+1)).toArray 70 (0,0))):=by
    show _=_;rw[<-selV_set h k hlt,heap_setCell_same wr g k _ _ _ hg];simp
   have HB:Hid (Below g w1 (wr.setCell ⟨g,k,none⟩ (.int .u8 ((UInt8.ofNat (h.toNat / 256 ^ k)).toNat:Int)))):=hB.setCell (Nat.le_refl _) _;clear hcl hg;obtain⟨z2,hz2⟩:∃z2,z2=((UInt8.ofNat (h.toNat / 256 ^ k)).toNat:Int):=⟨_,rfl⟩
   rw[<-hz2] at HN HB eb;clear hz2;go_wp2;go_roundw
   case rel=>(try ((repeat apply Exists.intro);refine⟨?_,rfl⟩));exact⟨k+1,by go_num,by omega,by (try rw[eb]);exact HN.out,by (try rw[eb]);exact HB.out⟩
   case measure=>simp[intOf];omega
  ·obtain rfl:k=8:=by omega
   rw[selV_all] at hg;have hcv:=run_convert_bytes_back wr 44 9 5 ⟨g,0,none⟩ 8 (selB h) Tryd.underlying44 Tryd.underlying5 Tryd.underlying9 (fun j hj=>by
    rw[Addr.add_mid,Nat.zero_add];simp[World.cell?,hg,byL,hj])
   rw[selB_len] at hcv;have HE:Hid (s++(⟨(selB h).toArray⟩:ByteArray)=⟨(s.data.toList++selB h).toArray⟩):=by
    show _=_;apply ByteArray.ext;simp[ByteArray.data_append]
   have hz:(⟨(selB h).toArray⟩:ByteArray).size=8:=by rw[size_mk,selB_len]
   have hzz:¬maxLen<s.size+(⟨(selB h).toArray⟩:ByteArray).size:=by rw[hz];unfold maxLen;omega
   clear hg;generalize (⟨(selB h).toArray⟩:ByteArray)=sb at *;go_wp2;go_ret;exact⟨by rw[HR.out,<-HE.out];rfl,by rw[<-HG0.out];exact hB⟩
theorem body_len {c:Cd}(ho:c.Ok)(h:rgtB c=true):(bodB c).length<=10000000:=by
 obtain⟨l0,l1,l2,l3,l4⟩:=rgt_lens h;obtain⟨hns,hks,hnl⟩:=rgt_ok ho h;have len1:=lst_len sevs c.ws (fun x _=>sevs_30 x);have len2:=lst_len conB c.cs (fun x _=>sevs_30 _);have len3:=lst_len namB c.ns hnl;have len4:=lst_len sevs c.ks (fun x _=>sevs_30 x);unfold bodB;simp only[List.length_append,List.length_cons,List.length_nil];omega
def encR (c:Cd):Value:=if rgtB c then .tuple #[.string ⟨(encB c).toArray⟩,.int .i64 0] else .tuple #[.string ⟨#[]⟩,.int .i64 180]
def smR (c:Cd):Int:=if rgtB c then sumB (bodB c) else 0
theorem encode_c (p:Pl)(c:Cd)(w:World)(hF:Fx w)(hC:CdW w p c) :
  Calls Tryd.prog 12 #[cdV p c] w fun e w'=>e=.returned (encR c)/\Below w.heap.size w w':=by
 obtain⟨w1,hw1⟩:∃w1,w1=w.alloc (.cells (cdA p c) 26):=⟨_,rfl⟩
 obtain⟨b0,hb0⟩:∃b0,b0=w.heap.size:=⟨_,rfl⟩
 have B1:Below w.heap.size w w1:=by rw[hw1];exact b1 _ _
 have K1:bx4 p c w1 b0:=by rw[hw1,hb0];exact bx4_new p c w
 have L1:b0<w1.heap.size:=by rw[hw1,hb0];simp
 have F1:=hF.below B1;have C1:=hC.below B1;have HB0:Hid (b0=w.heap.size):=hb0;clear hb0 hF hC;obtain⟨k0,k1,k2,k3⟩:=K1;have R1:=right_c p c w1 F1 C1;cases hr:rgtB c
 ·rw[hr] at R1;have fin:encR c=.tuple #[.string ⟨#[]⟩,.int .i64 180]:=by simp[encR,hr]
  rw[fin];go_enter Tryd.func12,Tryd.ntmps12;go_wp2_with fail;rw[<-hw1,<-HB0.out];clear hw1;go_wp2_with (go_at_call 11;refine R1.mono ?_;rintro e w2 ⟨rfl,B2⟩);go_ret2;exact⟨rfl,by first|(rw[HB0.out];exact B1.trans (B2.mono B1.size))|exact B1.trans (B2.mono B1.size)⟩
 ·rw[hr] at R1;have fin:encR c=.tuple #[.string ⟨(sldB (bodB c)).toArray⟩,.int .i64 0]:=by simp[encR,hr,encB]
  rw[fin];have BD:=fun w2 C2=>body_c p c w2 C2 hr;have hbl:=body_len C1.ok hr;have SD:=fun w3=>sealed_c ⟨(bodB c).toArray⟩ w3 (by rw[size_mk];omega);have e1:(⟨(bodB c).toArray⟩:ByteArray).data.toList=bodB c:=by simp
  rw[e1] at SD;generalize sldB (bodB c)=ZZ at *;go_enter Tryd.func12,Tryd.ntmps12;go_wp2_with fail;rw[<-hw1,<-HB0.out];clear hw1;go_wp2_with (first|(go_at_call 11;refine R1.mono ?_;rintro e w2 ⟨rfl,B2⟩;have C2:=C1.below B2;obtain⟨q0,q1,q2,q3⟩:=bx4_below ⟨k0,k1,k2,k3⟩ L1 B2)|(go_at_call 27;refine(BD _ C2).mono ?_;rintro e w3 ⟨rfl,B3⟩)|(go_at_call 26;refine(SD _).mono ?_;rintro e w4 ⟨rfl,B4⟩));go_ret2;have BB:=B1.trans ((B2.trans ((B3.trans (B4.mono B3.size)).mono B2.size)).mono B1.size);exact⟨rfl,by first|(rw[HB0.out];exact BB)|exact BB⟩
theorem sumc_c (p:Pl)(c:Cd)(w:World)(hF:Fx w)(hC:CdW w p c) :
  Calls Tryd.prog 13 #[cdV p c] w fun e w'=>e=.returned (.int .u64 (smR c))/\Below w.heap.size w w':=by
 obtain⟨w1,hw1⟩:∃w1,w1=w.alloc (.cells (cdA p c) 26):=⟨_,rfl⟩
 obtain⟨b0,hb0⟩:∃b0,b0=w.heap.size:=⟨_,rfl⟩
 have B1:Below w.heap.size w w1:=by rw[hw1];exact b1 _ _
 have K1:bx4 p c w1 b0:=by rw[hw1,hb0];exact bx4_new p c w
 have L1:b0<w1.heap.size:=by rw[hw1,hb0];simp
 have F1:=hF.below B1;have C1:=hC.below B1;have HB0:Hid (b0=w.heap.size):=hb0;clear hb0 hF hC;obtain⟨k0,k1,k2,k3⟩:=K1;have R1:=right_c p c w1 F1 C1;cases hr:rgtB c
 ·rw[hr] at R1;have fin:smR c=0:=by simp[smR,hr]
  rw[fin];go_enter Tryd.func13,Tryd.ntmps13;go_wp2_with fail;rw[<-hw1,<-HB0.out];clear hw1;go_wp2_with (go_at_call 11;refine R1.mono ?_;rintro e w2 ⟨rfl,B2⟩);go_ret;exact⟨rfl,by first|(rw[HB0.out];exact B1.trans (B2.mono B1.size))|exact B1.trans (B2.mono B1.size)⟩
 ·rw[hr] at R1;have fin:smR c=sumB (bodB c):=by simp[smR,hr]
  rw[fin];have BD:=fun w2 C2=>body_c p c w2 C2 hr;have hbl:=body_len C1.ok hr;have SD:=fun w3=>sum_c ⟨(bodB c).toArray⟩ w3 (by rw[size_mk];unfold maxLen;omega);have e1:(⟨(bodB c).toArray⟩:ByteArray).data.toList=bodB c:=by simp
  rw[e1] at SD;generalize sumB (bodB c)=ZZ at *;go_enter Tryd.func13,Tryd.ntmps13;go_wp2_with fail;rw[<-hw1,<-HB0.out];clear hw1;go_wp2_with (first|(go_at_call 11;refine R1.mono ?_;rintro e w2 ⟨rfl,B2⟩;have C2:=C1.below B2;obtain⟨q0,q1,q2,q3⟩:=bx4_below ⟨k0,k1,k2,k3⟩ L1 B2)|(go_at_call 27;refine(BD _ C2).mono ?_;rintro e w3 ⟨rfl,B3⟩)|(go_at_call 28;refine(SD _).mono ?_;rintro e w4 ⟨rfl,rfl⟩));go_ret;have BB:=B1.trans ((B2.trans (B3.mono B2.size)).mono B1.size);exact⟨rfl,by first|(rw[HB0.out];exact BB)|exact BB⟩
open Go.RowKit
abbrev St:=Option (List UInt8)
def nxt {α:Type}(one:List UInt8->Option (α × List UInt8))(st:St):St:=(st.bind one).map (·.2)
def val {α:Type}(d:α)(one:List UInt8->Option (α × List UInt8))(st:St):α:=((st.bind one).map (·.1)).getD d
theorem val_none {α:Type}(d:α)(one:List UInt8->Option (α × List UInt8)):val d one none=d:=rfl
theorem nxt_ok {α:Type}{one:List UInt8->Option (α × List UInt8)}{l r:List UInt8}{x:α}(h:one l=some (x,r)):nxt one (some l)=some r:=by simp[nxt,h]
theorem val_ok {α:Type}{d:α}{one:List UInt8->Option (α × List UInt8)}{l r:List UInt8}{x:α}(h:one l=some (x,r)):val d one (some l)=x:=by simp[val,h]
theorem nxt_no {α:Type}{one:List UInt8->Option (α × List UInt8)}{l:List UInt8}(h:one l=none):nxt one (some l)=none:=by simp[nxt,h]
theorem val_no {α:Type}{d:α}{one:List UInt8->Option (α × List UInt8)}{l:List UInt8}(h:one l=none):val d one (some l)=d:=by simp[val,h]
def lef {α:Type}(one:List UInt8->Option (α × List UInt8))(m:Nat)(xs:List α)(st:St):Option (List α × List UInt8):=(st.bind (rdN one m)).map fun y=>(xs++y.1,y.2)
theorem lef_zero {α:Type}(one:List UInt8->Option (α × List UInt8))(xs:List α)(st:St):lef one 0 xs st=st.map fun l=>(xs,l):=by
 cases st<;>simp[lef,rdN]
theorem lef_next {α:Type}(d:α)(one:List UInt8->Option (α × List UInt8))(m:Nat)(xs:List α)(st:St):lef one (m+1) xs st=lef one m (xs++[val d one st]) (nxt one st):=by
 cases st with
 | none=>rfl
 | some l =>
  cases h:one l with
  | none=>simp[lef,rdN,h,nxt]
  | some x =>
   obtain⟨x,r⟩:=x;simp only[lef,nxt,val,Option.bind_some,rdN,h,Option.map_some,Option.getD_some];cases rdN one m r with
   | none=>rfl
   | some y=>simp
theorem lef_start {α:Type}(most:Nat)(one:List UInt8->Option (α × List UInt8))(st:St):st.bind (rdL most one)=lef one (val 0 (cntR most) st) [] (nxt (cntR most) st):=by
 cases st with
 | none=>rfl
 | some l =>
  simp only[Option.bind_some,rdL];cases h:cntR most l with
  | none=>rw[nxt_no h,val_no h];rfl
  | some x =>
   obtain⟨n,r⟩:=x;rw[nxt_ok h,val_ok h];simp[lef]
theorem cnt_le (most:Nat)(st:St):val 0 (cntR most) st<=most:=by
 cases st with
 | none=>exact Nat.zero_le _
 | some l =>
  cases h:cntR most l with
  | none=>rw[val_no h];exact Nat.zero_le _
  | some x=>obtain⟨n,r⟩:=x;rw[val_ok h];exact(cntR_back h).2
theorem numR_lt (st:St):val 0 numR st<18446744073709551616:=by
 cases st with
 | none=>rw[val_none];omega
 | some l =>
  cases h:numR l with
  | none=>rw[val_no h];omega
  | some x=>obtain⟨n,r⟩:=x;rw[val_ok h];exact(numR_back h).2
theorem cnt_val (most:Nat)(st:St)(h:val 0 numR st<=most):val 0 (cntR most) st=val 0 numR st/\nxt (cntR most) st=nxt numR st:=by
 cases st with
 | none=>exact⟨rfl,rfl⟩
 | some l =>
  cases hn:numR l with
  | none =>
   have:cntR most l=none:=by simp[cntR,hn]
   rw[val_no hn,nxt_no hn,val_no this,nxt_no this];exact⟨rfl,rfl⟩
  | some x =>
   obtain⟨n,r⟩:=x;rw[val_ok hn] at h
   have:cntR most l=some (n,r):=by simp[cntR,hn,h]
   rw[val_ok hn,nxt_ok hn,val_ok this,nxt_ok this];exact⟨rfl,rfl⟩
theorem cnt_over (most:Nat)(st:St)(h:¬val 0 numR st<=most):val 0 (cntR most) st=0/\nxt (cntR most) st=none:=by
 cases st with
 | none=>exact⟨rfl,rfl⟩
 | some l =>
  cases hn:numR l with
  | none=>rw[val_no hn] at h;omega
  | some x =>
   obtain⟨n,r⟩:=x;rw[val_ok hn] at h
   have:cntR most l=none:=by simp[cntR,hn,h]
   rw[val_no this,nxt_no this];exact⟨rfl,rfl⟩
theorem wrd_val (st:St):val (0:Int) wrdR st=(val 0 numR st:Nat)/\nxt wrdR st=nxt numR st:=by
 cases st with
 | none=>exact⟨rfl,rfl⟩
 | some l=>cases h:numR l<;>simp[val,nxt,wrdR,h]
theorem con_val (st:St):val (0:Int) conR st=zgb (val 0 numR st:Nat)/\nxt conR st=nxt numR st:=by
 cases st with
 | none=>exact⟨rfl,rfl⟩
 | some l=>cases h:numR l<;>simp[val,nxt,conR,h,zgb]
theorem knd_val (mk:Nat)(st:St):val (0:Int) (kndR mk) st=(val 0 (cntR mk) st:Nat)/\nxt (kndR mk) st=nxt (cntR mk) st:=by
 cases st with
 | none=>exact⟨rfl,rfl⟩
 | some l=>cases h:cntR mk l<;>simp[val,nxt,kndR,h]
theorem nam_val (mn:Nat)(st:St):val (⟨#[]⟩:ByteArray) (namR mn) st=⟨(val [] (takR (val 0 (cntR mn) st)) (nxt (cntR mn) st)).toArray⟩/\nxt (namR mn) st=nxt (takR (val 0 (cntR mn) st)) (nxt (cntR mn) st):=by
 cases st with
 | none=>exact⟨rfl,rfl⟩
 | some l =>
  cases h:cntR mn l with
  | none=>simp[val,nxt,namR,h]
  | some x =>
   obtain⟨n,r⟩:=x;cases h2:takR n r<;>simp[val,nxt,namR,h,h2]
theorem rdC_st (mn mk:Nat)(st:St):st.bind (rdC mn mk) =
  ((nxt (fun l=>(takR 3 l).bind fun m=>if m.1=[73,67,49] then some m else none) st).bind (rdL 32768 wrdR)).bind fun a=>(rdL 32768 conR a.2).bind fun b=>(rdL 2000 (namR mn) b.2).bind fun c=>(rdL 256 (kndR mk) c.2).map fun d=>(⟨a.1,b.1,c.1,d.1⟩,d.2):=by
 cases st with
 | none=>rfl
 | some l =>
  simp only[Option.bind_some,rdC,nxt];cases h:takR 3 l with
  | none=>rfl
  | some m =>
   simp only[Option.bind_some];split<;>rfl
end Go.Proofs.YtjjhcbmhdkobkaaDoor

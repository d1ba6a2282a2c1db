import Derived.Test.YtjjhcbmhdkobkaaDoorRdaM
import Derived.Deep.MidRow
set_option maxRecDepth 100000
set_option maxHeartbeats 8000000
namespace Go.Proofs.YtjjhcbmhdkobkaaDoor
open Go.ChangeShapes Go.WideShapes Go.ChangeAt Go.RowKit
set_option linter.unusedVariables false
set_option linter.unusedSimpArgs false
def Byt (w:World)(o:Nat->Nat)(v:Value)(t:List UInt8):Prop:=∃ao cap,v=.slice ao t.length cap/\Lsv w ao (byL t)/\∀ b off,t≠[]->ao=some ⟨b,off,none⟩->o b=0
theorem Byt.text {w:World}{o:Nat->Nat}{v:Value}{t:List UInt8}(h:Byt w o v t):(convert 44 9 v).run Tryd.prog w=.ok (.string ⟨t.toArray⟩) w:=by
 obtain⟨ao,cap,rfl,h,-⟩:=h;rcases h with h|⟨b,off,rfl,hlt,hc⟩
 ·have ht:t=[]:=by cases t with|nil=>rfl|cons x y=>simp[byL] at h
  subst ht;cases ao with
  | none=>exact run_convert_bytes_nil w 44 5 Tryd.underlying44 Tryd.underlying5 _ _ 9 Tryd.underlying9
  | some a=>exact run_convert_bytes_back w 44 9 5 a cap [] Tryd.underlying44 Tryd.underlying5 Tryd.underlying9 (fun j hj=>by simp at hj)
 ·exact run_convert_bytes_back w 44 9 5 ⟨b,off,none⟩ cap t Tryd.underlying44 Tryd.underlying5 Tryd.underlying9 (fun j hj=>by
   rw[Addr.add_mid];exact hc j _ (by simp[byL,hj]))
theorem Byt.step {I:Nat->Prop}{w w':World}{o o':Nat->Nat}{v:Value}{t:List UInt8}(h:Byt w o v t)(s:Step I w o w' o')(h0:¬I 0):Byt w' o' v t:=by
 obtain⟨ao,cap,rfl,h,hl⟩:=h;rcases h with h|⟨b,off,rfl,hlt,hc⟩
 ·have ht:t=[]:=by cases t with|nil=>rfl|cons x y=>simp[byL] at h
  subst ht;exact⟨ao,cap,rfl,.inl h,fun _ _ h=>absurd rfl h⟩
 ·by_cases ht:t=[]
  ·subst ht;exact⟨_,cap,rfl,.inl rfl,fun _ _ h=>absurd rfl h⟩
  ·have hb:=hl b off ht rfl;exact⟨_,cap,rfl,.inr ⟨b,off,rfl,Nat.lt_of_lt_of_le hlt s.size,fun j u hj=>(World.cell?_of_block (a:=⟨b,off+j,none⟩) (s.block b hlt (by rw[hb];exact h0))).trans (hc j u hj)⟩,fun b' off' _ h=>by cases h;rw[s.lab b hlt];exact hb⟩
theorem Byt.nil (w:World)(o:Nat->Nat):Byt w o (.slice none 0 0) []:=⟨none,0,rfl,.inl rfl,fun _ _ _ h=>by cases h⟩
theorem Byt.form {w:World}{o:Nat->Nat}{v:Value}{t:List UInt8}(h:Byt w o v t):∃ao cap,v=.slice ao t.length cap:=by
 obtain⟨ao,cap,rfl,-⟩:=h;exact⟨ao,cap,rfl⟩
def RdW (w:World)(o:Nat->Nat)(rb sb:Nat)(st:St):Prop :=
 match st with
 | none=>Blk w o 2 rb (.cells #[.slice none 0 0,.bool true] 66)
 | some l=>o sb=0/\sb<w.heap.size/\l.length<=9223372036854775807/\∃off cap,l.length<=cap/\cap<=9223372036854775807/\Blk w o 2 rb (.cells #[.slice (some ⟨sb,off,none⟩) l.length cap,.bool false] 66)/\∀ j u,(byL l)[j]?=some u->w.cell? ⟨sb,off+j,none⟩=some u
theorem set2a {w:World}{b:Nat}{x y:Value}{t:TypeId}(h:w.heap[b]?=some (.cells #[x,y] t))(v:Value):(w.setCell ⟨b,0,none⟩ v).heap[b]?=some (.cells #[v,y] t):=heap_setCell_same w b 0 _ _ _ h
theorem set2b {w:World}{b:Nat}{x y:Value}{t:TypeId}(h:w.heap[b]?=some (.cells #[x,y] t))(v:Value):(w.setCell ⟨b,1,none⟩ v).heap[b]?=some (.cells #[x,v] t):=heap_setCell_same w b 1 _ _ _ h
theorem cells2r {w:World}{b:Nat}{x y:Value}{t:TypeId}(h:w.heap[b]?=some (.cells #[x,y] t)):w.cell? ⟨b,0,none⟩=some x/\w.cell? ⟨b,1,none⟩=some y/\w.frozen? ⟨b,0,none⟩=false/\w.frozen? ⟨b,1,none⟩=false:=by
 refine⟨?_,?_,?_,?_⟩<;>simp[World.cell?,World.frozen?,h]
abbrev Ir:Nat->Prop:=fun k=>k=2
theorem RdW.lt {w:World}{o:Nat->Nat}{rb sb:Nat}{st:St}(h:RdW w o rb sb st):rb<w.heap.size:=by
 cases st with
 | none=>exact Blk.lt h
 | some l=>obtain⟨-,-,-,_,_,-,-,hb,-⟩:=h;exact hb.lt
theorem RdW.blk {w:World}{o:Nat->Nat}{rb sb:Nat}{st:St}(h:RdW w o rb sb st):∃x y,Blk w o 2 rb (.cells #[x,y] 66):=by
 cases st with
 | none=>exact⟨_,_,h⟩
 | some l=>obtain⟨-,-,-,_,_,-,-,hb,-⟩:=h;exact⟨_,_,hb⟩
theorem RdW.step {I:Nat->Prop}{w w':World}{o o':Nat->Nat}{rb sb:Nat}{st:St}(h:RdW w o rb sb st)(s:Step I w o w' o')(h2:¬I 2)(h0:¬I 0):RdW w' o' rb sb st:=by
 cases st with
 | none=>exact Blk.step h s h2
 | some l =>
  obtain⟨a,b,c,off,cap,d,e,hb,hc⟩:=h;exact⟨(s.lab sb b).trans a,Nat.lt_of_lt_of_le b s.size,c,off,cap,d,e,hb.step s h2,fun j u hj=>(World.cell?_of_block (a:=⟨sb,off+j,none⟩) (s.block sb b (by rw[a];exact h0))).trans (hc j u hj)⟩
theorem giveUp_c (w:World)(o:Nat->Nat)(rb sb:Nat)(st:St)(h:RdW w o rb sb st) :
  Calls Tryd.prog 60 #[.pointer (some ⟨rb,0,none⟩)] w fun e w'=>e=.returned (.tuple #[])/\RdW w' o rb sb none/\Step Ir w o w' o:=by
 obtain⟨x,y,hb⟩:=h.blk;obtain⟨c0,c1,f0,f1⟩:=cells2r hb.1;have hs1:=set2a hb.1 (.slice none 0 0);have hs2:=set2b hs1 (.bool true);obtain⟨d0,d1,g0,g1⟩:=cells2r hs1;have S1:Step Ir w o ((w.setCell ⟨rb,0,none⟩ (.slice none 0 0)).setCell ⟨rb,1,none⟩ (.bool true)) o:=((Step.refl Ir w o).setCell ⟨rb,0,none⟩ _ hb.2).setCell ⟨rb,1,none⟩ _ hb.2;have HR:Hid (RdW ((w.setCell ⟨rb,0,none⟩ (.slice none 0 0)).setCell ⟨rb,1,none⟩ (.bool true)) o rb sb none/\Step Ir w o ((w.setCell ⟨rb,0,none⟩ (.slice none 0 0)).setCell ⟨rb,1,none⟩ (.bool true)) o):=⟨⟨hs2,hb.2⟩,S1⟩
 clear hs1 hs2 S1 hb h;go_enter Tryd.func60,Tryd.ntmps60;go_wp2
 go_end0
 exact⟨rfl,HR.out⟩
theorem byL_take (l:List UInt8)(n:Nat):byL (l.take n)=(byL l).take n:=by simp[byL]
theorem byL_drop (l:List UInt8)(n:Nat):byL (l.drop n)=(byL l).drop n:=by simp[byL]
theorem front_c (n:Nat)(hn:n<=100000)(w:World)(o:Nat->Nat)(rb sb:Nat)(st:St)(h:RdW w o rb sb st) :
  Calls Tryd.prog 74 #[.pointer (some ⟨rb,0,none⟩),.int .i64 (n:Nat)] w fun e w'=>∃v,e=.returned v/\Byt w o v ((st.getD []).take n)/\w'=w:=by
 cases st with
 | none =>
  obtain⟨c0,c1,f0,f1⟩:=cells2r h.1;have hB:Byt w o (.slice none 0 0) (((none:St).getD []).take n):=⟨none,0,by simp,.inl (by simp[byL]),fun _ _ _ h=>by cases h⟩
  have HB2:Hid (Byt w o (.slice none 0 0) []):=(by simpa using hB:Byt w o (.slice none 0 0) [])
  have HB:Hid (Byt w o (.slice none 0 0) (((none:St).getD []).take n)):=hB;clear hB h;by_cases h0:0<n
  ·go_enter Tryd.func74,Tryd.ntmps74;go_wp2;go_ret;exact⟨_,rfl,by first|exact HB.out|exact HB2.out,rfl⟩
  ·obtain rfl:n=0:=by omega
   go_enter Tryd.func74,Tryd.ntmps74;go_wp2;go_ret;exact⟨_,rfl,by first|exact HB.out|exact HB2.out,rfl⟩
 | some l =>
  obtain⟨a,b,c,off,cap,d,e,hb,hc⟩:=h;obtain⟨c0,c1,f0,f1⟩:=cells2r hb.1;by_cases hle:n<=l.length
  ·have hB:Byt w o (.slice (some ⟨sb,off,none⟩) n n) (l.take n):=⟨some ⟨sb,off,none⟩,n,by rw[List.length_take,Nat.min_eq_left hle],.inr ⟨sb,off,rfl,b,fun j u hj=>by
    rw[byL_take,List.getElem?_take] at hj;split at hj
    ·exact hc j u hj
    ·cases hj⟩,fun b' off' _ h=>by cases h;exact a⟩
   have HB:Hid (Byt w o (.slice (some ⟨sb,off,none⟩) n n) (((some l:St).getD []).take n)):=hB;have hleI:(n:Int)<=(l.length:Int):=by omega
   have hnl:¬l.length<n:=by omega
   clear hB hb hc;go_enter Tryd.func74,Tryd.ntmps74;go_wp2;go_ret;exact⟨_,rfl,HB.out,rfl⟩
  ·have hB:Byt w o (.slice (some ⟨sb,off,none⟩) l.length l.length) (l.take n):=⟨some ⟨sb,off,none⟩,l.length,by rw[List.length_take,Nat.min_eq_right (by omega)],.inr ⟨sb,off,rfl,b,fun j u hj=>by
    rw[List.take_of_length_le (by omega)] at hj;exact hc j u hj⟩,fun b' off' _ h=>by cases h;exact a⟩
   have HB:Hid (Byt w o (.slice (some ⟨sb,off,none⟩) l.length l.length) (((some l:St).getD []).take n)):=hB;have hleI:(l.length:Int)<(n:Int):=by omega
   have hnl:l.length<n:=by omega
   clear hB hb hc;go_enter Tryd.func74,Tryd.ntmps74;go_wp2;go_ret;exact⟨_,rfl,HB.out,rfl⟩
theorem RdW.cutoff {w:World}{o:Nat->Nat}{rb sb:Nat}{l:List UInt8}{off cap:Nat}(hl:l.length<=9223372036854775807)(a:o sb=0)(b:sb<w.heap.size)(hne:sb≠rb)(d:l.length<=cap)(e:cap<=9223372036854775807)
  (hb:Blk w o 2 rb (.cells #[.slice (some ⟨sb,off,none⟩) l.length cap,.bool false] 66)) (hc:∀ j u,(byL l)[j]?=some u->w.cell? ⟨sb,off+j,none⟩=some u) (k:Nat) (hk:k<=l.length) :
  RdW (w.setCell ⟨rb,0,none⟩ (.slice (if cap=k then some ⟨sb,off,none⟩ else some ⟨sb,off+k,none⟩) (l.length-k) (cap-k))) o rb sb (some (l.drop k)):=by
 have hcell:∀ q,(w.setCell ⟨rb,0,none⟩ (.slice (if cap=k then some ⟨sb,off,none⟩ else some ⟨sb,off+k,none⟩) (l.length-k) (cap-k))).cell? ⟨sb,q,none⟩=w.cell? ⟨sb,q,none⟩:=fun q=>World.cell?_of_block (a:=⟨sb,q,none⟩) (heap_setCell_other _ _ _ _ hne);have hbb:=set2a hb.1 (.slice (if cap=k then some ⟨sb,off,none⟩ else some ⟨sb,off+k,none⟩) (l.length-k) (cap-k));by_cases hck:cap=k
 ·rw[if_pos hck] at hbb hcell ⊢;refine⟨a,by simpa using b,by simp;omega,off,cap-k,by simp;omega,by omega,⟨by rw[List.length_drop];exact hbb,hb.2⟩,fun j u hj=>?_⟩;rw[List.drop_of_length_le (by omega)] at hj;simp[byL] at hj
 ·rw[if_neg hck] at hbb hcell ⊢;refine⟨a,by simpa using b,by simp;omega,off+k,cap-k,by simp;omega,by omega,⟨by rw[List.length_drop];exact hbb,hb.2⟩,fun j u hj=>?_⟩;rw[byL_drop,List.getElem?_drop] at hj;rw[hcell,Nat.add_assoc];exact hc _ u hj
theorem num_yes {l:List UInt8}{n k:Nat}(h:tk l 0 0=(n,k,0)):val 0 numR (some l)=n/\nxt numR (some l)=some (l.drop k):=by
 have e:numR l=some (n,l.drop k):=by simp[numR,h]
 exact⟨val_ok e,nxt_ok e⟩
theorem num_no {l:List UInt8}(h:¬(tk l 0 0).2.2=0):val 0 numR (some l)=0/\nxt numR (some l)=none:=by
 have e:numR l=none:=by simp[numR,h]
 exact⟨val_no e,nxt_no e⟩
theorem rnumber_c (w:World)(o:Nat->Nat)(rb sb:Nat)(hne:sb≠rb)(st:St)(h:RdW w o rb sb st) :
  Calls Tryd.prog 62 #[.pointer (some ⟨rb,0,none⟩)] w fun e w'=>e=.returned (.int .u64 (val 0 numR st:Nat))/\RdW w' o rb sb (nxt numR st)/\Step Ir w o w' o:=by
 have HF:=front_c 10 (by omega) w o rb sb st h;have HG:=giveUp_c w o rb sb st h;have hlen:((st.getD []).take 10).length<=10:=by simp;omega
 have HT:=fun w'=>take_any ⟨((st.getD []).take 10).toArray⟩ w' (by rw[size_mk];unfold maxLen;omega);have e1:(⟨((st.getD []).take 10).toArray⟩:ByteArray).data.toList=(st.getD []).take 10:=by simp
 rw[e1,show (10:Nat)=10-0 by rfl,tk_ten _ 0 0 (by omega)] at HT;simp only[Nat.sub_zero] at HT;clear e1;by_cases hz:(tk (st.getD []) 0 0).2.2=0
 ·cases st with
  | none=>simp[tk] at hz
  | some l =>
   obtain⟨N,K,E⟩:∃N K,tk l 0 0=(N,K,0):=⟨(tk l 0 0).1,(tk l 0 0).2.1,by have e:tk l 0 0=((tk l 0 0).1,(tk l 0 0).2.1,(tk l 0 0).2.2):=rfl;rw[show (tk l 0 0).2.2=0 from hz] at e;exact e⟩
   obtain⟨_,hk10,hkl,hN,_,_⟩:=tk_back0 l N K E;obtain⟨v1,v2⟩:=num_yes E;rw[v1,v2];have HT2:∀ w',Calls Tryd.prog 76 #[.string ⟨(((some l:St).getD []).take 10).toArray⟩] w' fun e w''=>e=.returned (.tuple #[.int .u64 N,.int .i64 K,.int .i64 0])/\w''=w':=fun w'=>(HT w').mono fun e w'' ⟨g1,g2⟩=>⟨by rw[g1,show ((some l:St).getD [])=l from rfl,E];rfl,g2⟩;obtain⟨a,b,c,off,cap,d,e,hb,hc⟩:=h;obtain⟨c0,c1,f0,f1⟩:=cells2r hb.1;have hR:=RdW.cutoff c a b hne d e hb hc K hkl;have hS:Step Ir w o (w.setCell ⟨rb,0,none⟩ (.slice (if cap=K then some ⟨sb,off,none⟩ else some ⟨sb,off+K,none⟩) (l.length-K) (cap-K))) o:=(Step.refl Ir w o).setCell ⟨rb,0,none⟩ _ hb.2;clear v1 v2 HT E hz HG hb hc;by_cases hck:cap=K
   all_goals (
    first|(rw[if_pos hck] at hR hS;rw[show cap-K=0 by omega] at hR hS)|rw[if_neg hck] at hR hS
    have HR:=Lib.hid hR;have HS:=Lib.hid hS;clear hR hS;go_enter Tryd.func62,Tryd.ntmps62;go_wp2_with (first|(go_at_call 74;refine HF.mono ?_;rintro e w1 ⟨v,rfl,hbt,hww⟩;subst hww;have hcv:=hbt.text)|(go_at_call 76;refine(HT2 _).mono ?_;rintro e w2 ⟨rfl,hww⟩;subst hww));go_ret;exact⟨rfl,HR.out,HS.out⟩)
 ·have hv:val 0 numR st=0/\nxt numR st=none:=by
   cases st with
   | none=>exact⟨rfl,rfl⟩
   | some l=>exact num_no hz
  rw[hv.1,hv.2];obtain⟨F,hF0,E⟩:∃F:Nat,¬F=0/\tk (st.getD []) 0 0=(0,0,F):=by
   rcases tk_err (st.getD []) 0 0 with h1|h1|h1
   ·exact absurd h1 hz
   ·exact⟨10,by omega,h1⟩
   ·exact⟨11,by omega,h1⟩
  have hFI:¬(F:Int)=0:=by omega
  have HT2:∀ w',Calls Tryd.prog 76 #[.string ⟨((st.getD []).take 10).toArray⟩] w' fun e w''=>e=.returned (.tuple #[.int .u64 0,.int .i64 0,.int .i64 F])/\w''=w':=fun w'=>(HT w').mono fun e w'' ⟨g1,g2⟩=>⟨by rw[g1,E];rfl,g2⟩;clear hv E HT hz h;generalize (st.getD []).take 10=TT at *;go_enter Tryd.func62,Tryd.ntmps62;go_wp2_with (first|(go_at_call 74;refine HF.mono ?_;rintro e w1 ⟨v,rfl,hbt,hww⟩;subst hww;have hcv:=hbt.text)|(go_at_call 76;refine(HT2 _).mono ?_;rintro e w2 ⟨rfl,hww⟩;subst hww)|(go_at_call 60;refine HG.mono ?_;rintro e w3 ⟨rfl,hG⟩));go_ret;exact⟨rfl,hG⟩
theorem atMost_c (m:Nat)(hm:m<=100000)(w:World)(o:Nat->Nat)(rb sb:Nat)(hne:sb≠rb)(st:St)(h:RdW w o rb sb st) :
  Calls Tryd.prog 75 #[.pointer (some ⟨rb,0,none⟩),.int .i64 (m:Nat)] w fun e w'=>e=.returned (.int .i64 (val 0 (cntR m) st:Nat))/\RdW w' o rb sb (nxt (cntR m) st)/\Step Ir w o w' o:=by
 have HN:=rnumber_c w o rb sb hne st h;have hlt:=numR_lt st;by_cases hle:val 0 numR st<=m
 ·obtain⟨e1,e2⟩:=cnt_val m st hle;rw[e1,e2];generalize val 0 numR st=N at *;generalize nxt numR st=st2 at *;have h1:¬(m:Int)<(N:Int):=by omega
  clear e1 e2;go_enter Tryd.func75,Tryd.ntmps75;go_wp2_with (go_at_call 62;refine HN.mono ?_;rintro e w1 ⟨rfl,R1,S1⟩);go_ret;exact⟨by first|rfl|(simp;omega),R1,S1⟩
 ·obtain⟨e1,e2⟩:=cnt_over m st hle;rw[e1,e2];have HG:=fun w1 R1=>giveUp_c w1 o rb sb (nxt numR st) R1;generalize val 0 numR st=N at *;generalize nxt numR st=st2 at *;have h1:(m:Int)<(N:Int):=by omega
  clear e1 e2;go_enter Tryd.func75,Tryd.ntmps75;go_wp2_with (first|(go_at_call 62;refine HN.mono ?_;rintro e w1 ⟨rfl,R1,S1⟩)|(go_at_call 60;refine(HG _ R1).mono ?_;rintro e w2 ⟨rfl,R2,S2⟩));go_ret;exact⟨rfl,R2,S1.trans S2⟩
theorem rconst_c (w:World)(o:Nat->Nat)(rb sb:Nat)(hne:sb≠rb)(st:St)(h:RdW w o rb sb st) :
  Calls Tryd.prog 64 #[.pointer (some ⟨rb,0,none⟩)] w fun e w'=>e=.returned (.int .i64 (val (0:Int) conR st))/\RdW w' o rb sb (nxt conR st)/\Step Ir w o w' o:=by
 have HN:=rnumber_c w o rb sb hne st h;have hlt:=numR_lt st;obtain⟨e1,e2⟩:=con_val st;rw[e1,e2];have HZ:=fun w1=>zag_any (val 0 numR st:Nat) w1 (by omega) (by omega);have hb:=zgb_bd (val 0 numR st:Nat) (by omega) (by omega);generalize zgb (val 0 numR st:Nat)=z at *;generalize val 0 numR st=N at *;generalize nxt numR st=st2 at *;clear e1 e2;go_enter Tryd.func64,Tryd.ntmps64;go_wp2_with (first|(go_at_call 62;refine HN.mono ?_;rintro e w1 ⟨rfl,R1,S1⟩)|(go_at_call 77;refine(HZ _).mono ?_;rintro e w2 ⟨rfl,hww⟩;subst hww));go_ret;exact⟨rfl,R1,S1⟩
theorem rkind_c (w:World)(o:Nat->Nat)(rb sb:Nat)(hne:sb≠rb)(st:St)(h:RdW w o rb sb st) :
  Calls Tryd.prog 67 #[.pointer (some ⟨rb,0,none⟩)] w fun e w'=>e=.returned (.int .i64 (val (0:Int) (kndR 3) st))/\RdW w' o rb sb (nxt (kndR 3) st)/\Step Ir w o w' o:=by
 have HN:=atMost_c 3 (by omega) w o rb sb hne st h;obtain⟨e1,e2⟩:=knd_val 3 st;rw[e1,e2];generalize val 0 (cntR 3) st=N at *;generalize nxt (cntR 3) st=st2 at *;clear e1 e2;go_enter Tryd.func67,Tryd.ntmps67;go_wp2_with (go_at_call 75;refine HN.mono ?_;rintro e w1 ⟨rfl,R1,S1⟩);go_ret;exact⟨rfl,R1,S1⟩
theorem tak_yes {l:List UInt8}{n:Nat}(h:n<=l.length):val [] (takR n) (some l)=l.take n/\nxt (takR n) (some l)=some (l.drop n):=by
 have e:takR n l=some (l.take n,l.drop n):=by simp[takR,h]
 exact⟨val_ok e,nxt_ok e⟩
theorem tak_no {l:List UInt8}{n:Nat}(h:¬n<=l.length):val [] (takR n) (some l)=[]/\nxt (takR n) (some l)=none:=by
 have e:takR n l=none:=by simp[takR,h]
 exact⟨val_no e,nxt_no e⟩
theorem rtake_c (n:Nat)(hn:n<=100000)(w:World)(o:Nat->Nat)(rb sb:Nat)(hne:sb≠rb)(st:St)(h:RdW w o rb sb st) :
  Calls Tryd.prog 59 #[.pointer (some ⟨rb,0,none⟩),.int .i64 (n:Nat)] w fun e w'=>∃v,e=.returned v/\Byt w' o v (val [] (takR n) st)/\RdW w' o rb sb (nxt (takR n) st)/\Step Ir w o w' o:=by
 have HF:=front_c n hn w o rb sb st h;have HG:=giveUp_c w o rb sb st h;by_cases hsh:((st.getD []).take n).length<n
 ·have hv:val [] (takR n) st=[]/\nxt (takR n) st=none:=by
   cases st with
   | none=>exact⟨rfl,rfl⟩
   | some l=>exact tak_no (by simp at hsh;omega)
  rw[hv.1,hv.2];have hI:((((st.getD []).take n).length:Nat):Int)<(n:Int):=by omega
  clear hv h;generalize (st.getD []).take n=TT at *;go_enter Tryd.func59,Tryd.ntmps59;go_wp2_with (first|(go_at_call 74;refine HF.mono ?_;rintro e w1 ⟨v,rfl,hbt,hww⟩;subst hww;obtain⟨av,cv,rfl⟩:=hbt.form)|(go_at_call 60;refine HG.mono ?_;rintro e w3 ⟨rfl,R3,S3⟩));go_ret;exact⟨_,rfl,Byt.nil _ _,R3,S3⟩
 ·have hI:¬((((st.getD []).take n).length:Nat):Int)<(n:Int):=by omega
  cases st with
  | none =>
   obtain rfl:n=0:=by simp at hsh;omega
   have hv:val [] (takR 0) none=[]/\nxt (takR 0) none=none:=⟨rfl,rfl⟩
   rw[hv.1,hv.2];have hb:Blk w o 2 rb (.cells #[.slice none 0 0,.bool true] 66):=h;obtain⟨c0,c1,f0,f1⟩:=cells2r hb.1;have HR:Hid (RdW (w.setCell ⟨rb,0,none⟩ (.slice none 0 0)) o rb sb none):=⟨set2a hb.1 _,hb.2⟩
   have hS:Step Ir w o (w.setCell ⟨rb,0,none⟩ (.slice none 0 0)) o:=(Step.refl Ir w o).setCell ⟨rb,0,none⟩ _ hb.2;have HS:=Lib.hid hS;clear hS hb h HG hv;simp only[List.take_zero] at HF hI hsh;go_enter Tryd.func59,Tryd.ntmps59;go_wp2_with (first|(go_at_call 74;refine HF.mono ?_;rintro e w1 ⟨v,rfl,hbt,hww⟩;subst hww;obtain⟨av,cv,rfl⟩:=hbt.form));go_ret;exact⟨_,rfl,hbt.step HS.out (by decide),HR.out,HS.out⟩
  | some l =>
   have hnl:n<=l.length:=by simp at hsh;omega
   obtain⟨v1,v2⟩:=tak_yes hnl;rw[v1,v2];obtain⟨a,b,c,off,cap,d,e,hb,hc⟩:=h;obtain⟨c0,c1,f0,f1⟩:=cells2r hb.1;have hR:=RdW.cutoff c a b hne d e hb hc n hnl;have hS:Step Ir w o (w.setCell ⟨rb,0,none⟩ (.slice (if cap=n then some ⟨sb,off,none⟩ else some ⟨sb,off+n,none⟩) (l.length-n) (cap-n))) o:=(Step.refl Ir w o).setCell ⟨rb,0,none⟩ _ hb.2;have e3:((some l:St).getD []).take n=l.take n:=rfl;rw[e3] at HF hI hsh;have e4:(l.take n).length=n:=by rw[List.length_take];omega
   clear v1 v2 HG hb hc e3;have hnI:(n:Int)<=(l.length:Int):=by omega
   by_cases hck:cap=n
   all_goals (
    first|(rw[if_pos hck] at hR hS;rw[show cap-n=0 by omega] at hR hS)|rw[if_neg hck] at hR hS
    have HR:=Lib.hid hR;have HS:=Lib.hid hS;clear hR hS;go_enter Tryd.func59,Tryd.ntmps59;go_wp2_with (first|(go_at_call 74;refine HF.mono ?_;rintro e w1 ⟨v,rfl,hbt,hww⟩;subst hww;obtain⟨av,cv,rfl⟩:=hbt.form));go_ret;have hbt2:=hbt.step HS.out (by decide);rw[e4] at hbt2;exact⟨_,rfl,hbt2,HR.out,HS.out⟩)
theorem rname_c (w:World)(o:Nat->Nat)(rb sb:Nat)(hne:sb≠rb)(st:St)(h:RdW w o rb sb st) :
  Calls Tryd.prog 66 #[.pointer (some ⟨rb,0,none⟩)] w fun e w'=>e=.returned (.string (val (⟨#[]⟩:ByteArray) (namR 12) st))/\RdW w' o rb sb (nxt (namR 12) st)/\Step Ir w o w' o:=by
 have HN:=atMost_c 12 (by omega) w o rb sb hne st h;obtain⟨e1,e2⟩:=nam_val 12 st;rw[e1,e2];have hle:=cnt_le 12 st;have HT:=fun w1 R1=>rtake_c (val 0 (cntR 12) st) (by omega) w1 o rb sb hne (nxt (cntR 12) st) R1;generalize val [] (takR (val 0 (cntR 12) st)) (nxt (cntR 12) st)=TT at *;generalize nxt (takR (val 0 (cntR 12) st)) (nxt (cntR 12) st)=st3 at *;generalize val 0 (cntR 12) st=N at *;generalize nxt (cntR 12) st=st2 at *;clear e1 e2;go_enter Tryd.func66,Tryd.ntmps66;go_wp2_with (first|(go_at_call 75;refine HN.mono ?_;rintro e w1 ⟨rfl,R1,S1⟩)|(go_at_call 59;refine(HT _ R1).mono ?_;rintro e w2 ⟨v,rfl,hbt,R2,S2⟩;have hcv:=hbt.text));go_ret;exact⟨rfl,R2,S1.trans S2⟩
theorem infoW:(Tryd.prog.info? 33).map (fun i=>(i.zero,i.size,i.bytes))=some (some (.int .u64 0),1,8):=by kernel_rfl
theorem infoI:(Tryd.prog.info? 3).map (fun i=>(i.zero,i.size,i.bytes))=some (some (.int .i64 0),1,8):=by kernel_rfl
theorem infoS:(Tryd.prog.info? 9).map (fun i=>(i.zero,i.size,i.bytes))=some (some (.string ⟨#[]⟩),1,16):=by kernel_rfl
theorem one_one (v:Value)(h:v.oneCell'=true):∀ u ∈ [v],u.oneCell'=true:=by
 intro u hu;simp at hu;subst hu;exact h
def LstOut (w:World)(o:Nat->Nat)(rb sb q:Nat)(e:TypeId){α:Type}(V:List α->List Value)(rd:List UInt8->Option (List α × List UInt8))(st:St)(most:Nat)(z:Ending)(w':World):Prop :=
 ∃v,z=.returned v/\∃(xs:List α) (o':Nat->Nat) (st':St),Row w' o' q e 1 v xs.length (V xs)/\RdW w' o' rb sb st'/\Step (fun k=>k=2\/k=q) w o w' o'/\st.bind rd=st'.map (fun l=>(xs,l))/\xs.length<=most
theorem rword_c (w:World)(o:Nat->Nat)(rb sb:Nat)(hne:sb≠rb)(st:St)(h:RdW w o rb sb st) :
  Calls Tryd.prog 62 #[.pointer (some ⟨rb,0,none⟩)] w fun e w'=>e=.returned (.int .u64 (val (0:Int) wrdR st))/\RdW w' o rb sb (nxt wrdR st)/\Step Ir w o w' o:=by
 rw[(wrd_val st).1,(wrd_val st).2];exact rnumber_c w o rb sb hne st h
theorem list_w (most:Nat)(hmost:most<=32768)(q:Nat)(hq:2<q)(w:World)(o:Nat->Nat)(rb sb:Nat)(hne:sb≠rb)(st:St)(h:RdW w o rb sb st) :
  Calls Tryd.prog 61 #[.pointer (some ⟨rb,0,none⟩),.int .i64 (most:Nat),.func (.func 62) #[.pointer (some ⟨rb,0,none⟩)] #[]] w (LstOut w o rb sb q 33 wsV (rdL most wrdR) st most):=by
 obtain⟨ii,hii,hz0,hz1,hz2⟩:=info_parts infoW;have HM:=atMost_c most (by omega) w o rb sb hne st h;have HST:=lef_start most wrdR st;have hcl:=cnt_le most st;generalize val 0 (cntR most) st=N at *;generalize nxt (cntR most) st=st1 at *;have HH:=Lib.hid HST;clear HST h;go_enter Tryd.func61,Tryd.ntmps61;go_wp2_with (first|(go_at_call 75;refine HM.mono ?_;rintro e w1 ⟨rfl,R1,S1⟩));have S1':Step (fun k=>k=2\/k=q) w o w1 o:=S1.mono (fun k hk=>Or.inl hk);clear S1 HM;go_loopw [7,11] (fun va vi wr=>∃(k:Nat) (xs:List Int) (o3:Nat->Nat) (st3:St),vi=.int .i64 (k:Nat)/\k<=N/\xs.length=k/\Row wr o3 q 33 1 va k (wsV xs)/\RdW wr o3 rb sb st3/\Step (fun k=>k=2\/k=q) w o wr o3/\Hid (st.bind (rdL most wrdR)=lef wrdR (N-k) xs st3)) (fun _ vi _=>N-(intOf vi).toNat)
 case atStart=>exact⟨0,[],o,st1,by go_num,by omega,rfl,Row.nil _ _ _ _ _,R1,S1',HH.out⟩
 case round =>
  obtain⟨k,xs,o3,st3,rfl,hk,hxl,R3,D3,S3,HL⟩:=hrel;clear HH R1 S1';by_cases hlt:k<N
  ·have hkI:(k:Int)<(N:Int):=by omega
   have HO:=rword_c wr o3 rb sb hne st3 D3;have HL2:Hid (st.bind (rdL most wrdR)=lef wrdR (N-(k+1)) (xs++[val (0:Int) wrdR st3]) (nxt wrdR st3)):=by
    show _=_;rw[<-lef_next,show N-(k+1)+1=N-k by omega];exact HL.out
   generalize val (0:Int) wrdR st3=x at *;generalize nxt wrdR st3=st4 at *;clear HL;go_wp2_with (first|(go_at_call 62;refine HO.mono ?_;rintro e w4 ⟨rfl,D4,S4⟩;have R4:=R3.step S4 (by show ¬q=2;omega))|(at_builtin;refine wpList_append_lab rfl _ _ 22 rfl 33 ii (.int .u64 0) 1 8 Tryd.underlying22 hii hz0 hz1 hz2 rfl (by decide) o3 q _ k (wsV xs) rfl (R4.step (Step.ofBelow (I:=fun _=>False) o3 (b1 _ _)) (fun h=>h)) ⟨w4.heap.size,0,none⟩ 1 1 [.int .u64 x] rfl rfl ?c1 ?c2 (by decide) ?c4 ?c5 ?_)|go_in)
   case c1=>exact new_one _ _ _
   case c2=>exact one_one _ rfl
   case c4=>unfold maxLen;omega
   case c5=>omega
   intro g5 cap5 w5 o5 R5 S5;have D4':=D4.step (Step.ofBelow (I:=fun _=>False) o3 (b1 w4 (.cells #[.int .u64 x] 33))) (fun h=>h) (fun h=>h);have D5:=D4'.step S5 (by omega) (by omega);have S6:Step (fun k=>k=2\/k=q) w o w5 o5:=((S3.trans (S4.mono (fun k hk=>Or.inl hk))).trans (Step.ofBelow o3 (b1 w4 (.cells #[.int .u64 x] 33)))).trans (S5.mono (fun k hk=>Or.inr hk));have R6:Row w5 o5 q 33 1 (.slice (some ⟨g5,0,none⟩) (k+1) cap5) (k+1) (wsV (xs++[x])):=by
    have e:wsV (xs++[x])=wsV xs++[.int .u64 x]:=by simp[wsV]
    rw[e];exact R5
   have hxl2:(xs++[x]).length=k+1:=by simp[hxl]
   clear R5 S5 D4' R4 D4 S4 S3 R3 D3 HO;go_wp2;go_roundw
   case rel=>(try ((repeat apply Exists.intro);refine⟨?_,rfl⟩));exact⟨k+1,xs++[x],o5,st4,by go_num,by omega,hxl2,R6,D5,S6,HL2.out⟩
   case measure=>simp[intOf];omega
  ·have hkI:¬(k:Int)<(N:Int):=by omega
   have e:st.bind (rdL most wrdR)=st3.map (fun l=>(xs,l)):=by
    rw[HL.out,show N-k=0 by omega,lef_zero]
   have HE:=Lib.hid e;clear e HL;have HX:=Lib.hid hxl;clear hxl;go_wp2;go_ret;exact⟨_,rfl,xs,o3,st3,by rw[HX.out];exact R3,D3,S3,HE.out,by have:=HX.out;omega⟩
theorem list_c (most:Nat)(hmost:most<=32768)(q:Nat)(hq:2<q)(w:World)(o:Nat->Nat)(rb sb:Nat)(hne:sb≠rb)(st:St)(h:RdW w o rb sb st) :
  Calls Tryd.prog 63 #[.pointer (some ⟨rb,0,none⟩),.int .i64 (most:Nat),.func (.func 64) #[.pointer (some ⟨rb,0,none⟩)] #[]] w (LstOut w o rb sb q 3 isV (rdL most conR) st most):=by
 obtain⟨ii,hii,hz0,hz1,hz2⟩:=info_parts infoI;have HM:=atMost_c most (by omega) w o rb sb hne st h;have HST:=lef_start most conR st;have hcl:=cnt_le most st;generalize val 0 (cntR most) st=N at *;generalize nxt (cntR most) st=st1 at *;have HH:=Lib.hid HST;clear HST h;go_enter Tryd.func63,Tryd.ntmps63;go_wp2_with (first|(go_at_call 75;refine HM.mono ?_;rintro e w1 ⟨rfl,R1,S1⟩));have S1':Step (fun k=>k=2\/k=q) w o w1 o:=S1.mono (fun k hk=>Or.inl hk);clear S1 HM;go_loopw [7,11] (fun va vi wr=>∃(k:Nat) (xs:List Int) (o3:Nat->Nat) (st3:St),vi=.int .i64 (k:Nat)/\k<=N/\xs.length=k/\Row wr o3 q 3 1 va k (isV xs)/\RdW wr o3 rb sb st3/\Step (fun k=>k=2\/k=q) w o wr o3/\Hid (st.bind (rdL most conR)=lef conR (N-k) xs st3)) (fun _ vi _=>N-(intOf vi).toNat)
 case atStart=>exact⟨0,[],o,st1,by go_num,by omega,rfl,Row.nil _ _ _ _ _,R1,S1',HH.out⟩
 case round =>
  obtain⟨k,xs,o3,st3,rfl,hk,hxl,R3,D3,S3,HL⟩:=hrel;clear HH R1 S1';by_cases hlt:k<N
  ·have hkI:(k:Int)<(N:Int):=by omega
   have HO:=rconst_c wr o3 rb sb hne st3 D3;have HL2:Hid (st.bind (rdL most conR)=lef conR (N-(k+1)) (xs++[val (0:Int) conR st3]) (nxt conR st3)):=by
    show _=_;rw[<-lef_next,show N-(k+1)+1=N-k by omega];exact HL.out
   generalize val (0:Int) conR st3=x at *;generalize nxt conR st3=st4 at *;clear HL;go_wp2_with (first|(go_at_call 64;refine HO.mono ?_;rintro e w4 ⟨rfl,D4,S4⟩;have R4:=R3.step S4 (by show ¬q=2;omega))|(at_builtin;refine wpList_append_lab rfl _ _ 23 rfl 3 ii (.int .i64 0) 1 8 Tryd.underlying23 hii hz0 hz1 hz2 rfl (by decide) o3 q _ k (isV xs) rfl (R4.step (Step.ofBelow (I:=fun _=>False) o3 (b1 _ _)) (fun h=>h)) ⟨w4.heap.size,0,none⟩ 1 1 [.int .i64 x] rfl rfl ?c1 ?c2 (by decide) ?c4 ?c5 ?_)|go_in)
   case c1=>exact new_one _ _ _
   case c2=>exact one_one _ rfl
   case c4=>unfold maxLen;omega
   case c5=>omega
   intro g5 cap5 w5 o5 R5 S5;have D4':=D4.step (Step.ofBelow (I:=fun _=>False) o3 (b1 w4 (.cells #[.int .i64 x] 3))) (fun h=>h) (fun h=>h);have D5:=D4'.step S5 (by omega) (by omega);have S6:Step (fun k=>k=2\/k=q) w o w5 o5:=((S3.trans (S4.mono (fun k hk=>Or.inl hk))).trans (Step.ofBelow o3 (b1 w4 (.cells #[.int .i64 x] 3)))).trans (S5.mono (fun k hk=>Or.inr hk));have R6:Row w5 o5 q 3 1 (.slice (some ⟨g5,0,none⟩) (k+1) cap5) (k+1) (isV (xs++[x])):=by
    have e:isV (xs++[x])=isV xs++[.int .i64 x]:=by simp[isV]
    rw[e];exact R5
   have hxl2:(xs++[x]).length=k+1:=by simp[hxl]
   clear R5 S5 D4' R4 D4 S4 S3 R3 D3 HO;go_wp2;go_roundw
   case rel=>(try ((repeat apply Exists.intro);refine⟨?_,rfl⟩));exact⟨k+1,xs++[x],o5,st4,by go_num,by omega,hxl2,R6,D5,S6,HL2.out⟩
   case measure=>simp[intOf];omega
  ·have hkI:¬(k:Int)<(N:Int):=by omega
   have e:st.bind (rdL most conR)=st3.map (fun l=>(xs,l)):=by
    rw[HL.out,show N-k=0 by omega,lef_zero]
   have HE:=Lib.hid e;clear e HL;have HX:=Lib.hid hxl;clear hxl;go_wp2;go_ret;exact⟨_,rfl,xs,o3,st3,by rw[HX.out];exact R3,D3,S3,HE.out,by have:=HX.out;omega⟩
theorem list_n (most:Nat)(hmost:most<=32768)(q:Nat)(hq:2<q)(w:World)(o:Nat->Nat)(rb sb:Nat)(hne:sb≠rb)(st:St)(h:RdW w o rb sb st) :
  Calls Tryd.prog 65 #[.pointer (some ⟨rb,0,none⟩),.int .i64 (most:Nat),.func (.func 66) #[.pointer (some ⟨rb,0,none⟩)] #[]] w (LstOut w o rb sb q 9 nsV (rdL most (namR 12)) st most):=by
 obtain⟨ii,hii,hz0,hz1,hz2⟩:=info_parts infoS;have HM:=atMost_c most (by omega) w o rb sb hne st h;have HST:=lef_start most (namR 12) st;have hcl:=cnt_le most st;generalize val 0 (cntR most) st=N at *;generalize nxt (cntR most) st=st1 at *;have HH:=Lib.hid HST;clear HST h;go_enter Tryd.func65,Tryd.ntmps65;go_wp2_with (first|(go_at_call 75;refine HM.mono ?_;rintro e w1 ⟨rfl,R1,S1⟩));have S1':Step (fun k=>k=2\/k=q) w o w1 o:=S1.mono (fun k hk=>Or.inl hk);clear S1 HM;go_loopw [7,11] (fun va vi wr=>∃(k:Nat) (xs:List ByteArray) (o3:Nat->Nat) (st3:St),vi=.int .i64 (k:Nat)/\k<=N/\xs.length=k/\Row wr o3 q 9 1 va k (nsV xs)/\RdW wr o3 rb sb st3/\Step (fun k=>k=2\/k=q) w o wr o3/\Hid (st.bind (rdL most (namR 12))=lef (namR 12) (N-k) xs st3)) (fun _ vi _=>N-(intOf vi).toNat)
 case atStart=>exact⟨0,[],o,st1,by go_num,by omega,rfl,Row.nil _ _ _ _ _,R1,S1',HH.out⟩
 case round =>
  obtain⟨k,xs,o3,st3,rfl,hk,hxl,R3,D3,S3,HL⟩:=hrel;clear HH R1 S1';by_cases hlt:k<N
  ·have hkI:(k:Int)<(N:Int):=by omega
   have HO:=rname_c wr o3 rb sb hne st3 D3;have HL2:Hid (st.bind (rdL most (namR 12))=lef (namR 12) (N-(k+1)) (xs++[val (⟨#[]⟩:ByteArray) (namR 12) st3]) (nxt (namR 12) st3)):=by
    show _=_;rw[<-lef_next,show N-(k+1)+1=N-k by omega];exact HL.out
   generalize val (⟨#[]⟩:ByteArray) (namR 12) st3=x at *;generalize nxt (namR 12) st3=st4 at *;clear HL;go_wp2_with (first|(go_at_call 66;refine HO.mono ?_;rintro e w4 ⟨rfl,D4,S4⟩;have R4:=R3.step S4 (by show ¬q=2;omega))|(at_builtin;refine wpList_append_lab rfl _ _ 24 rfl 9 ii (.string ⟨#[]⟩) 1 16 Tryd.underlying24 hii hz0 hz1 hz2 rfl (by decide) o3 q _ k (nsV xs) rfl (R4.step (Step.ofBelow (I:=fun _=>False) o3 (b1 _ _)) (fun h=>h)) ⟨w4.heap.size,0,none⟩ 1 1 [.string x] rfl rfl ?c1 ?c2 (by decide) ?c4 ?c5 ?_)|go_in)
   case c1=>exact new_one _ _ _
   case c2=>exact one_one _ rfl
   case c4=>unfold maxLen;omega
   case c5=>omega
   intro g5 cap5 w5 o5 R5 S5;have D4':=D4.step (Step.ofBelow (I:=fun _=>False) o3 (b1 w4 (.cells #[.string x] 9))) (fun h=>h) (fun h=>h);have D5:=D4'.step S5 (by omega) (by omega);have S6:Step (fun k=>k=2\/k=q) w o w5 o5:=((S3.trans (S4.mono (fun k hk=>Or.inl hk))).trans (Step.ofBelow o3 (b1 w4 (.cells #[.string x] 9)))).trans (S5.mono (fun k hk=>Or.inr hk));have R6:Row w5 o5 q 9 1 (.slice (some ⟨g5,0,none⟩) (k+1) cap5) (k+1) (nsV (xs++[x])):=by
    have e:nsV (xs++[x])=nsV xs++[.string x]:=by simp[nsV]
    rw[e];exact R5
   have hxl2:(xs++[x]).length=k+1:=by simp[hxl]
   clear R5 S5 D4' R4 D4 S4 S3 R3 D3 HO;go_wp2;go_roundw
   case rel=>(try ((repeat apply Exists.intro);refine⟨?_,rfl⟩));exact⟨k+1,xs++[x],o5,st4,by go_num,by omega,hxl2,R6,D5,S6,HL2.out⟩
   case measure=>simp[intOf];omega
  ·have hkI:¬(k:Int)<(N:Int):=by omega
   have e:st.bind (rdL most (namR 12))=st3.map (fun l=>(xs,l)):=by
    rw[HL.out,show N-k=0 by omega,lef_zero]
   have HE:=Lib.hid e;clear e HL;have HX:=Lib.hid hxl;clear hxl;go_wp2;go_ret;exact⟨_,rfl,xs,o3,st3,by rw[HX.out];exact R3,D3,S3,HE.out,by have:=HX.out;omega⟩
theorem list_k (most:Nat)(hmost:most<=32768)(q:Nat)(hq:2<q)(w:World)(o:Nat->Nat)(rb sb:Nat)(hne:sb≠rb)(st:St)(h:RdW w o rb sb st) :
  Calls Tryd.prog 63 #[.pointer (some ⟨rb,0,none⟩),.int .i64 (most:Nat),.func (.func 67) #[.pointer (some ⟨rb,0,none⟩)] #[]] w (LstOut w o rb sb q 3 isV (rdL most (kndR 3)) st most):=by
 obtain⟨ii,hii,hz0,hz1,hz2⟩:=info_parts infoI;have HM:=atMost_c most (by omega) w o rb sb hne st h;have HST:=lef_start most (kndR 3) st;have hcl:=cnt_le most st;generalize val 0 (cntR most) st=N at *;generalize nxt (cntR most) st=st1 at *;have HH:=Lib.hid HST;clear HST h;go_enter Tryd.func63,Tryd.ntmps63;go_wp2_with (first|(go_at_call 75;refine HM.mono ?_;rintro e w1 ⟨rfl,R1,S1⟩));have S1':Step (fun k=>k=2\/k=q) w o w1 o:=S1.mono (fun k hk=>Or.inl hk);clear S1 HM;go_loopw [7,11] (fun va vi wr=>∃(k:Nat) (xs:List Int) (o3:Nat->Nat) (st3:St),vi=.int .i64 (k:Nat)/\k<=N/\xs.length=k/\Row wr o3 q 3 1 va k (isV xs)/\RdW wr o3 rb sb st3/\Step (fun k=>k=2\/k=q) w o wr o3/\Hid (st.bind (rdL most (kndR 3))=lef (kndR 3) (N-k) xs st3)) (fun _ vi _=>N-(intOf vi).toNat)
 case atStart=>exact⟨0,[],o,st1,by go_num,by omega,rfl,Row.nil _ _ _ _ _,R1,S1',HH.out⟩
 case round =>
  obtain⟨k,xs,o3,st3,rfl,hk,hxl,R3,D3,S3,HL⟩:=hrel;clear HH R1 S1';by_cases hlt:k<N
  ·have hkI:(k:Int)<(N:Int):=by omega
   have HO:=rkind_c wr o3 rb sb hne st3 D3;have HL2:Hid (st.bind (rdL most (kndR 3))=lef (kndR 3) (N-(k+1)) (xs++[val (0:Int) (kndR 3) st3]) (nxt (kndR 3) st3)):=by
    show _=_;rw[<-lef_next,show N-(k+1)+1=N-k by omega];exact HL.out
   generalize val (0:Int) (kndR 3) st3=x at *;generalize nxt (kndR 3) st3=st4 at *;clear HL;go_wp2_with (first|(go_at_call 67;refine HO.mono ?_;rintro e w4 ⟨rfl,D4,S4⟩;have R4:=R3.step S4 (by show ¬q=2;omega))|(at_builtin;refine wpList_append_lab rfl _ _ 23 rfl 3 ii (.int .i64 0) 1 8 Tryd.underlying23 hii hz0 hz1 hz2 rfl (by decide) o3 q _ k (isV xs) rfl (R4.step (Step.ofBelow (I:=fun _=>False) o3 (b1 _ _)) (fun h=>h)) ⟨w4.heap.size,0,none⟩ 1 1 [.int .i64 x] rfl rfl ?c1 ?c2 (by decide) ?c4 ?c5 ?_)|go_in)
   case c1=>exact new_one _ _ _
   case c2=>exact one_one _ rfl
   case c4=>unfold maxLen;omega
   case c5=>omega
   intro g5 cap5 w5 o5 R5 S5;have D4':=D4.step (Step.ofBelow (I:=fun _=>False) o3 (b1 w4 (.cells #[.int .i64 x] 3))) (fun h=>h) (fun h=>h);have D5:=D4'.step S5 (by omega) (by omega);have S6:Step (fun k=>k=2\/k=q) w o w5 o5:=((S3.trans (S4.mono (fun k hk=>Or.inl hk))).trans (Step.ofBelow o3 (b1 w4 (.cells #[.int .i64 x] 3)))).trans (S5.mono (fun k hk=>Or.inr hk));have R6:Row w5 o5 q 3 1 (.slice (some ⟨g5,0,none⟩) (k+1) cap5) (k+1) (isV (xs++[x])):=by
    have e:isV (xs++[x])=isV xs++[.int .i64 x]:=by simp[isV]
    rw[e];exact R5
   have hxl2:(xs++[x]).length=k+1:=by simp[hxl]
   clear R5 S5 D4' R4 D4 S4 S3 R3 D3 HO;go_wp2;go_roundw
   case rel=>(try ((repeat apply Exists.intro);refine⟨?_,rfl⟩));exact⟨k+1,xs++[x],o5,st4,by go_num,by omega,hxl2,R6,D5,S6,HL2.out⟩
   case measure=>simp[intOf];omega
  ·have hkI:¬(k:Int)<(N:Int):=by omega
   have e:st.bind (rdL most (kndR 3))=st3.map (fun l=>(xs,l)):=by
    rw[HL.out,show N-k=0 by omega,lef_zero]
   have HE:=Lib.hid e;clear e HL;have HX:=Lib.hid hxl;clear hxl;go_wp2;go_ret;exact⟨_,rfl,xs,o3,st3,by rw[HX.out];exact R3,D3,S3,HE.out,by have:=HX.out;omega⟩
theorem Step.newB {I:Nat->Prop}{w w':World}(o:Nat->Nat)(i:Nat)(B:Below w.heap.size w w'):Step I w o w' (newLab w o i):=⟨B.os,B.tape,B.output,B.size,fun k hk=>newLab_old hk,fun k hk _=>B.block k hk⟩
def mrkR (l:List UInt8):Option (List UInt8 × List UInt8):=(takR 3 l).bind fun m=>if m.1=[73,67,49] then some m else none
theorem mrk_yes (st:St)(h:val [] (takR 3) st=[73,67,49]):nxt mrkR st=nxt (takR 3) st:=by
 cases st with
 | none=>rfl
 | some l =>
  cases e:takR 3 l with
  | none=>rw[val_no e] at h;cases h
  | some m =>
   obtain⟨m,r⟩:=m;rw[val_ok e] at h
   have:mrkR l=some (m,r):=by simp[mrkR,e,h]
   rw[nxt_ok e,nxt_ok this]
theorem mrk_no (st:St)(h:¬val [] (takR 3) st=[73,67,49]):nxt mrkR st=none:=by
 cases st with
 | none=>rfl
 | some l =>
  cases e:takR 3 l with
  | none=>exact nxt_no (by simp[mrkR,e])
  | some m =>
   obtain⟨m,r⟩:=m;rw[val_ok e] at h;exact nxt_no (by simp[mrkR,e,h])
theorem chain4 {α β γ δ ε:Type}{A:List UInt8->Option (α × List UInt8)}{B:List UInt8->Option (β × List UInt8)}{C:List UInt8->Option (γ × List UInt8)}{D:List UInt8->Option (δ × List UInt8)}(mk:α->β->γ->δ->ε){s2 s3 s4 s5 s6:St}{a:α}{b:β}{c:γ}{d:δ}
  (h1:s2.bind A=s3.map (fun l=>(a,l))) (h2:s3.bind B=s4.map (fun l=>(b,l))) (h3:s4.bind C=s5.map (fun l=>(c,l))) (h4:s5.bind D=s6.map (fun l=>(d,l))) :
  ((s2.bind A).bind fun x=>(B x.2).bind fun y=>(C y.2).bind fun z=>(D z.2).map fun u=>(mk x.1 y.1 z.1 u.1,u.2))=s6.map (fun l=>(mk a b c d,l)):=by
 rw[h1];cases s3 with
 | none =>
  have e4:s4=none:=by cases s4<;>simp_all
  subst e4;have e5:s5=none:=by cases s5<;>simp_all
  subst e5;have e6:s6=none:=by cases s6<;>simp_all
  subst e6;rfl
 | some l3 =>
  simp only[Option.bind_some] at h2;simp only[Option.map_some,Option.bind_some,h2];cases s4 with
  | none =>
   have e5:s5=none:=by cases s5<;>simp_all
   subst e5;have e6:s6=none:=by cases s6<;>simp_all
   subst e6;rfl
  | some l4 =>
   simp only[Option.bind_some] at h3;simp only[Option.map_some,Option.bind_some,h3];cases s5 with
   | none =>
    have e6:s6=none:=by cases s6<;>simp_all
    subst e6;rfl
   | some l5 =>
    simp only[Option.bind_some] at h4;simp only[Option.map_some,Option.bind_some,h4];cases s6<;>rfl
abbrev nil4:Array Value:=#[.slice none 0 0,.slice none 0 0,.slice none 0 0,.slice none 0 0]
structure CdR (w:World)(o:Nat->Nat)(p:Pl)(c:Cd):Prop where
 ws:Row w o 3 33 1 (.slice p.aw c.ws.length p.cw) c.ws.length (wsV c.ws)
 cs:Row w o 4 3 1 (.slice p.ac c.cs.length p.cc) c.cs.length (isV c.cs)
 ns:Row w o 5 9 1 (.slice p.an c.ns.length p.cn) c.ns.length (nsV c.ns)
 ks:Row w o 6 3 1 (.slice p.ak c.ks.length p.ck) c.ks.length (isV c.ks)
 lw:c.ws.length<=32768
 lc:c.cs.length<=32768
 ln:c.ns.length<=2000
 lk:c.ks.length<=256
abbrev Ic:Nat->Prop:=fun k=>2<=k/\k<=9
def CodeOut (w:World)(o:Nat->Nat)(rb sb:Nat)(st:St)(z:Ending)(w':World):Prop :=
 ∃p c,z=.returned (cdV p c)/\∃(o':Nat->Nat) (st':St),CdR w' o' p c/\RdW w' o' rb sb st'/\Step Ic w o w' o'/\st.bind (rdC 12 3)=st'.map (fun l=>(c,l))
theorem cells4 {w:World}{b:Nat}{x0 x1 x2 x3:Value}{t:TypeId}(h:w.heap[b]?=some (.cells #[x0,x1,x2,x3] t)):(w.cell? ⟨b,0,none⟩=some x0/\w.cell? ⟨b,1,none⟩=some x1/\w.cell? ⟨b,2,none⟩=some x2/\w.cell? ⟨b,3,none⟩=some x3)/\∀ j,w.frozen? ⟨b,j,none⟩=false:=by
 refine⟨⟨?_,?_,?_,?_⟩,fun j=>?_⟩<;>simp[World.cell?,World.frozen?,h]
theorem set4c {w:World}{b:Nat}{x0 x1 x2 x3:Value}{t:TypeId}(y0 y1 y2 y3:Value)(h:w.heap[b]?=some (.cells #[x0,x1,x2,x3] t)):((((w.setCell ⟨b,0,none⟩ y0).setCell ⟨b,1,none⟩ y1).setCell ⟨b,2,none⟩ y2).setCell ⟨b,3,none⟩ y3).heap[b]?=some (.cells #[y0,y1,y2,y3] t) :=
 heap_setCell_same _ b 3 _ _ _ (heap_setCell_same _ b 2 _ _ _ (heap_setCell_same _ b 1 _ _ _ (heap_setCell_same w b 0 _ _ _ h)))
theorem code_c (w:World)(o:Nat->Nat)(rb sb:Nat)(hne:sb≠rb)(st:St)(h:RdW w o rb sb st) :
  Calls Tryd.prog 38 #[.pointer (some ⟨rb,0,none⟩)] w (CodeOut w o rb sb st):=by
 obtain⟨w1,hw1⟩:∃w1,w1=w.alloc (.cells nil4 26):=⟨_,rfl⟩
 obtain⟨g1,hg1⟩:∃g1,g1=w.heap.size:=⟨_,rfl⟩
 have G1:Blk w1 (newLab w o 9) 9 g1 (.cells nil4 26):=by rw[hw1,hg1];exact⟨heap_alloc_new _ _,newLab_new (Nat.le_refl _)⟩
 have S1:Step Ic w o w1 (newLab w o 9):=Step.newB o 9 (by rw[hw1];exact b1 _ _);have D1:RdW w1 (newLab w o 9) rb sb st:=h.step (Step.newB (I:=fun _=>False) o 9 (by rw[hw1];exact b1 _ _)) (fun h=>h) (fun h=>h);generalize newLab w o 9=o1 at *;have HG1:=Lib.hid hg1;clear hg1 h;have HT:=rtake_c 3 (by omega) w1 o1 rb sb hne st D1;have HY:=mrk_yes st;have HN:=mrk_no st;generalize val [] (takR 3) st=pc at *;generalize nxt (takR 3) st=st1 at *;have HC:=rdC_st 12 3 st;have HC':Hid (st.bind (rdC 12 3)=((nxt mrkR st).bind (rdL 32768 wrdR)).bind fun a=>(rdL 32768 conR a.2).bind fun b=>(rdL 2000 (namR 12) b.2).bind fun c=>(rdL 256 (kndR 3) c.2).map fun d=>((⟨a.1,b.1,c.1,d.1⟩:Cd),d.2)):=HC;clear HC D1;generalize nxt mrkR st=st2 at *;go_enter Tryd.func38,Tryd.ntmps38;go_wp2_with fail;rw[<-hw1,<-HG1.out];clear hw1;refine HT.mono ?_;rintro e w2 ⟨v2,rfl,hbt,D2,S2⟩;have hcv:=hbt.text;have S2':Step Ic w o w2 o1:=S1.trans (S2.mono (fun k hk=>by subst hk;decide));have G2:=G1.step S2 (by decide);clear HT S1 G1 S2 hbt
 go_upto_if 7 with fail
 go_cut [] (fun wx=>RdW wx o1 rb sb st2/\Step Ic w o wx o1/\Blk wx o1 9 g1 (.cells nil4 26))
 case first =>
  by_cases hp:pc=[73,67,49]
  ·have e:=HY hp;subst e;subst hp;clear HY HN;have HZ:Hid (RdW w2 o1 rb sb st2/\Step Ic w o w2 o1/\Blk w2 o1 9 g1 (.cells nil4 26)):=⟨D2,S2',G2⟩
   clear D2 S2' G2;go_wp2;go_meet;exact HZ.out
  ·have e:=HN hp;subst e;have HU:=giveUp_c w2 o1 rb sb st1 D2;have hpb:(pc==[73,67,49])=false:=by simpa using hp
   have hpc:(!(pc==[73,67,49]))=true:=by rw[hpb];rfl
   clear hpb;clear HY HN;go_wp2_with (go_at_call 60;refine HU.mono ?_;rintro e w3 ⟨rfl,D3,S3⟩)
   all_goals first|(exfalso;rename_i hx;rw[hpc] at hx;cases hx;done)|(go_meet;exact⟨D3,S2'.trans (S3.mono (fun k hk=>by subst hk;decide)),G2.step S3 (by decide)⟩)
 case rest =>
  obtain⟨D3,S3,G3⟩:=hcut;clear HY HN D2 S2' G2 hcv;obtain⟨w3,hw3⟩:∃w3,w3=wc.alloc (.cells nil4 26):=⟨_,rfl⟩
  obtain⟨g3,hg3⟩:∃g3,g3=wc.heap.size:=⟨_,rfl⟩
  have K3:Blk w3 (newLab wc o1 9) 9 g3 (.cells nil4 26):=by rw[hw3,hg3];exact⟨heap_alloc_new _ _,newLab_new (Nat.le_refl _)⟩
  have SN:∀ {I:Nat->Prop},Step I wc o1 w3 (newLab wc o1 9):=fun {I}=>Step.newB o1 9 (by rw[hw3];exact b1 _ _);have S4:Step Ic w o w3 (newLab wc o1 9):=S3.trans SN;have D4:RdW w3 (newLab wc o1 9) rb sb st2:=D3.step (SN (I:=fun _=>False)) (fun h=>h) (fun h=>h);have G4:Blk w3 (newLab wc o1 9) 9 g1 (.cells nil4 26):=G3.step (SN (I:=fun _=>False)) (fun h=>h);have hgg:g1≠g3:=by have:=G3.lt;omega
  generalize newLab wc o1 9=o4 at *;have HG3:=Lib.hid hg3;clear hg3 D3 S3 G3 SN;have HL:=list_w 32768 (by omega) 3 (by omega) w3 o4 rb sb hne st2 D4;go_wp2_with fail;rw[<-hw3,<-HG3.out];clear hw3;refine HL.mono ?_;rintro e wd5 ⟨v5,rfl,ws,o5,st5,R5,D5,S5,E5,L5⟩;obtain⟨aw,cw,rfl⟩:=R5.form;have K5:=K3.step S5 (by decide);have G5:=G4.step S5 (by decide);have T5:=S4.trans (S5.mono (J:=Ic) (fun k hk=>by rcases hk with rfl|rfl<;>decide));clear HL D4 K3 G4 S4 S5;obtain⟨⟨k0,k1,k2,k3⟩,kf⟩:=cells4 K5.1;have kf0:=kf 0;have SS:∀ {I:Nat->Prop},I 9->Step I wd5 o5 (wd5.setCell ⟨g3,0,none⟩ (.slice aw ws.length cw)) o5:=fun {I} h9=>(Step.refl I wd5 o5).setCell ⟨g3,0,none⟩ _ (by rw[K5.2];exact h9);have KK5:Blk (wd5.setCell ⟨g3,0,none⟩ (.slice aw ws.length cw)) o5 9 g3 (.cells #[.slice aw ws.length cw,.slice none 0 0,.slice none 0 0,.slice none 0 0] 26):=⟨heap_setCell_same _ _ 0 _ _ _ K5.1,K5.2⟩
  have GG5:Blk (wd5.setCell ⟨g3,0,none⟩ (.slice aw ws.length cw)) o5 9 g1 (.cells nil4 26):=⟨(heap_setCell_other _ _ _ _ hgg).trans G5.1,G5.2⟩
  have DD5:=D5.step (SS (I:=fun k=>k=9) rfl) (by decide) (by decide)
  replace R5:=R5.step (SS (I:=fun k=>k=9) rfl) (by decide)
  have TT5:=T5.trans (SS (I:=Ic) (by decide));clear K5 G5 D5 T5 SS kf;have e5:=Lib.hid E5;clear E5;go_upto_region 5 with fail;generalize wd5.setCell ⟨g3,0,none⟩ (.slice aw ws.length cw)=w5 at *;clear kf0 k0 k1 k2 k3;have HL:=list_c 32768 (by omega) 4 (by omega) w5 o5 rb sb hne st5 DD5;go_wp2_with fail;refine HL.mono ?_;rintro e wd6 ⟨v6,rfl,cs,o6,st6,R6,D6,S6,E6,L6⟩;obtain⟨ac,cc,rfl⟩:=R6.form;have K6:=KK5.step S6 (by decide);have G6:=GG5.step S6 (by decide)
  replace R5:=R5.step S6 (by decide)
  have T6:=TT5.trans (S6.mono (J:=Ic) (fun k hk=>by rcases hk with rfl|rfl<;>decide));clear HL DD5 KK5 GG5 TT5 S6;obtain⟨⟨k0,k1,k2,k3⟩,kf⟩:=cells4 K6.1;have kf1:=kf 1;have SS:∀ {I:Nat->Prop},I 9->Step I wd6 o6 (wd6.setCell ⟨g3,1,none⟩ (.slice ac cs.length cc)) o6:=fun {I} h9=>(Step.refl I wd6 o6).setCell ⟨g3,1,none⟩ _ (by rw[K6.2];exact h9);have KK6:Blk (wd6.setCell ⟨g3,1,none⟩ (.slice ac cs.length cc)) o6 9 g3 (.cells #[.slice aw ws.length cw,.slice ac cs.length cc,.slice none 0 0,.slice none 0 0] 26):=⟨heap_setCell_same _ _ 1 _ _ _ K6.1,K6.2⟩
  have GG6:Blk (wd6.setCell ⟨g3,1,none⟩ (.slice ac cs.length cc)) o6 9 g1 (.cells nil4 26):=⟨(heap_setCell_other _ _ _ _ hgg).trans G6.1,G6.2⟩
  have DD6:=D6.step (SS (I:=fun k=>k=9) rfl) (by decide) (by decide)
  replace R6:=R6.step (SS (I:=fun k=>k=9) rfl) (by decide)
  replace R5:=R5.step (SS (I:=fun k=>k=9) rfl) (by decide)
  have TT6:=T6.trans (SS (I:=Ic) (by decide));clear K6 G6 D6 T6 SS kf;have e6:=Lib.hid E6;clear E6;go_upto_region 6 with fail;generalize wd6.setCell ⟨g3,1,none⟩ (.slice ac cs.length cc)=w6 at *;clear kf1 k0 k1 k2 k3;have HL:=list_n 2000 (by omega) 5 (by omega) w6 o6 rb sb hne st6 DD6;go_wp2_with fail;refine HL.mono ?_;rintro e wd7 ⟨v7,rfl,ns,o7,st7,R7,D7,S7,E7,L7⟩;obtain⟨an,cn,rfl⟩:=R7.form;have K7:=KK6.step S7 (by decide);have G7:=GG6.step S7 (by decide)
  replace R5:=R5.step S7 (by decide)
  replace R6:=R6.step S7 (by decide)
  have T7:=TT6.trans (S7.mono (J:=Ic) (fun k hk=>by rcases hk with rfl|rfl<;>decide));clear HL DD6 KK6 GG6 TT6 S7;obtain⟨⟨k0,k1,k2,k3⟩,kf⟩:=cells4 K7.1;have kf2:=kf 2;have SS:∀ {I:Nat->Prop},I 9->Step I wd7 o7 (wd7.setCell ⟨g3,2,none⟩ (.slice an ns.length cn)) o7:=fun {I} h9=>(Step.refl I wd7 o7).setCell ⟨g3,2,none⟩ _ (by rw[K7.2];exact h9);have KK7:Blk (wd7.setCell ⟨g3,2,none⟩ (.slice an ns.length cn)) o7 9 g3 (.cells #[.slice aw ws.length cw,.slice ac cs.length cc,.slice an ns.length cn,.slice none 0 0] 26):=⟨heap_setCell_same _ _ 2 _ _ _ K7.1,K7.2⟩
  have GG7:Blk (wd7.setCell ⟨g3,2,none⟩ (.slice an ns.length cn)) o7 9 g1 (.cells nil4 26):=⟨(heap_setCell_other _ _ _ _ hgg).trans G7.1,G7.2⟩
  have DD7:=D7.step (SS (I:=fun k=>k=9) rfl) (by decide) (by decide)
  replace R7:=R7.step (SS (I:=fun k=>k=9) rfl) (by decide)
  replace R5:=R5.step (SS (I:=fun k=>k=9) rfl) (by decide)
  replace R6:=R6.step (SS (I:=fun k=>k=9) rfl) (by decide)
  have TT7:=T7.trans (SS (I:=Ic) (by decide));clear K7 G7 D7 T7 SS kf;have e7:=Lib.hid E7;clear E7;go_upto_region 7 with fail;generalize wd7.setCell ⟨g3,2,none⟩ (.slice an ns.length cn)=w7 at *;clear kf2 k0 k1 k2 k3;have HL:=list_k 256 (by omega) 6 (by omega) w7 o7 rb sb hne st7 DD7;go_wp2_with fail;refine HL.mono ?_;rintro e wd8 ⟨v8,rfl,ks,o8,st8,R8,D8,S8,E8,L8⟩;obtain⟨ak,ck,rfl⟩:=R8.form;have K8:=KK7.step S8 (by decide);have G8:=GG7.step S8 (by decide)
  replace R5:=R5.step S8 (by decide)
  replace R6:=R6.step S8 (by decide)
  replace R7:=R7.step S8 (by decide)
  have T8:=TT7.trans (S8.mono (J:=Ic) (fun k hk=>by rcases hk with rfl|rfl<;>decide));clear HL DD7 KK7 GG7 TT7 S8;obtain⟨⟨k0,k1,k2,k3⟩,kf⟩:=cells4 K8.1;have kf3:=kf 3;have SS:∀ {I:Nat->Prop},I 9->Step I wd8 o8 (wd8.setCell ⟨g3,3,none⟩ (.slice ak ks.length ck)) o8:=fun {I} h9=>(Step.refl I wd8 o8).setCell ⟨g3,3,none⟩ _ (by rw[K8.2];exact h9);have KK8:Blk (wd8.setCell ⟨g3,3,none⟩ (.slice ak ks.length ck)) o8 9 g3 (.cells #[.slice aw ws.length cw,.slice ac cs.length cc,.slice an ns.length cn,.slice ak ks.length ck] 26):=⟨heap_setCell_same _ _ 3 _ _ _ K8.1,K8.2⟩
  have GG8:Blk (wd8.setCell ⟨g3,3,none⟩ (.slice ak ks.length ck)) o8 9 g1 (.cells nil4 26):=⟨(heap_setCell_other _ _ _ _ hgg).trans G8.1,G8.2⟩
  have DD8:=D8.step (SS (I:=fun k=>k=9) rfl) (by decide) (by decide)
  replace R8:=R8.step (SS (I:=fun k=>k=9) rfl) (by decide)
  replace R5:=R5.step (SS (I:=fun k=>k=9) rfl) (by decide)
  replace R6:=R6.step (SS (I:=fun k=>k=9) rfl) (by decide)
  replace R7:=R7.step (SS (I:=fun k=>k=9) rfl) (by decide)
  have TT8:=T8.trans (SS (I:=Ic) (by decide));clear K8 G8 D8 T8 SS kf;have e8:=Lib.hid E8;clear E8;go_upto_region 8 with fail;generalize wd8.setCell ⟨g3,3,none⟩ (.slice ak ks.length ck)=w8 at *;clear kf3 k0 k1 k2 k3;obtain⟨⟨k0,k1,k2,k3⟩,-⟩:=cells4 KK8.1;obtain⟨⟨c0,c1,c2,c3⟩,gf⟩:=cells4 GG8.1;have gf0:=gf 0;have gf1:=gf 1;have gf2:=gf 2;have gf3:=gf 3;have ZE:=set4c (.slice aw ws.length cw) (.slice ac cs.length cc) (.slice an ns.length cn) (.slice ak ks.length ck) GG8.1;have SE:∀ {I:Nat->Prop},I 9->Step I w8 o8 ((((w8.setCell ⟨g1,0,none⟩ (.slice aw ws.length cw)).setCell ⟨g1,1,none⟩ (.slice ac cs.length cc)).setCell ⟨g1,2,none⟩ (.slice an ns.length cn)).setCell ⟨g1,3,none⟩ (.slice ak ks.length ck)) o8:=fun {I} h9=>by
   have hI:I (o8 g1):=by rw[GG8.2];exact h9
   exact((((Step.refl I w8 o8).setCell ⟨g1,0,none⟩ _ hI).setCell ⟨g1,1,none⟩ _ hI).setCell ⟨g1,2,none⟩ _ hI).setCell ⟨g1,3,none⟩ _ hI
  have S9:=SE (I:=fun k=>k=9) rfl;have DE:=DD8.step S9 (by decide) (by decide);have CE:CdR ((((w8.setCell ⟨g1,0,none⟩ (.slice aw ws.length cw)).setCell ⟨g1,1,none⟩ (.slice ac cs.length cc)).setCell ⟨g1,2,none⟩ (.slice an ns.length cn)).setCell ⟨g1,3,none⟩ (.slice ak ks.length ck)) o8 ⟨aw,cw,ac,cc,an,cn,ak,ck⟩ ⟨ws,cs,ns,ks⟩ :=
   ⟨R5.step S9 (by decide),R6.step S9 (by decide),R7.step S9 (by decide),R8.step S9 (by decide),L5,L6,L7,L8⟩
  have TE:=TT8.trans (SE (I:=Ic) (by decide));have EE:st.bind (rdC 12 3)=st8.map (fun l=>((⟨ws,cs,ns,ks⟩:Cd),l)):=by rw[HC'.out];exact chain4 (fun a b c d=>(⟨a,b,c,d⟩:Cd)) e5.out e6.out e7.out e8.out
  obtain⟨⟨u0,u1,u2,u3⟩,-⟩:=cells4 ZE;have HO:Hid (∃(o':Nat->Nat) (st':St),CdR ((((w8.setCell ⟨g1,0,none⟩ (.slice aw ws.length cw)).setCell ⟨g1,1,none⟩ (.slice ac cs.length cc)).setCell ⟨g1,2,none⟩ (.slice an ns.length cn)).setCell ⟨g1,3,none⟩ (.slice ak ks.length ck)) o' ⟨aw,cw,ac,cc,an,cn,ak,ck⟩ ⟨ws,cs,ns,ks⟩/\RdW ((((w8.setCell ⟨g1,0,none⟩ (.slice aw ws.length cw)).setCell ⟨g1,1,none⟩ (.slice ac cs.length cc)).setCell ⟨g1,2,none⟩ (.slice an ns.length cn)).setCell ⟨g1,3,none⟩ (.slice ak ks.length ck)) o' rb sb st'/\Step Ic w o ((((w8.setCell ⟨g1,0,none⟩ (.slice aw ws.length cw)).setCell ⟨g1,1,none⟩ (.slice ac cs.length cc)).setCell ⟨g1,2,none⟩ (.slice an ns.length cn)).setCell ⟨g1,3,none⟩ (.slice ak ks.length ck)) o'/\st.bind (rdC 12 3)=st'.map (fun l=>((⟨ws,cs,ns,ks⟩:Cd),l))):=⟨o8,st8,CE,DE,TE,EE⟩
  clear ZE SE S9 DE CE TE EE R5 R6 R7 R8 DD8 TT8 e5 e6 e7 e8 gf KK8 GG8 HC';go_wp2;exact bodyPost_ret (v:=cdV ⟨aw,cw,ac,cc,an,cn,ak,ck⟩ ⟨ws,cs,ns,ks⟩) (by simp[results,Tryd.results38,go_sem,u0,u1,u2,u3]) rfl ⟨_,_,rfl,HO.out⟩
end Go.Proofs.YtjjhcbmhdkobkaaDoor

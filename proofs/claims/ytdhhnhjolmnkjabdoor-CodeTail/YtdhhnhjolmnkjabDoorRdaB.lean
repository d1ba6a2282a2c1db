import Derived.Test.YtdhhnhjolmnkjabDoorRdaM
import Derived.Deep.MidRow
set_option maxRecDepth 100000
set_option maxHeartbeats 8000000
namespace Go.Proofs.YtdhhnhjolmnkjabDoor
open Go.ChangeShapes Go.WideShapes Go.ChangeAt Go.RowKit
set_option linter.unusedVariables false
set_option linter.unusedSimpArgs false
def Byt (w:World)(o:Nat->Nat)(v:Value)(t:List UInt8):Prop:=∃ao cap,v=.slice ao t.length cap/\Lsv w ao (byL t)/\∀ b off,t≠[]->ao=some ⟨b,off,none⟩->o b=0
theorem Byt.text {w:World}{o:Nat->Nat}{v:Value}{t:List UInt8}(h:Byt w o v t):(convert 40 9 v).run Tryd.prog w=.ok (.string ⟨t.toArray⟩) w:=by
 obtain⟨ao,cap,rfl,h,-⟩:=h;rcases h with h|⟨b,off,rfl,hlt,hc⟩
 ·have ht:t=[]:=by cases t with|nil=>rfl|cons x y=>simp[byL] at h
  subst ht;cases ao with
  | none=>exact run_convert_bytes_nil w 40 5 Tryd.underlying40 Tryd.underlying5 _ _ 9 Tryd.underlying9
  | some a=>exact run_convert_bytes_back w 40 9 5 a cap [] Tryd.underlying40 Tryd.underlying5 Tryd.underlying9 (fun j hj=>by simp at hj)
 ·exact run_convert_bytes_back w 40 9 5 ⟨b,off,none⟩ cap t Tryd.underlying40 Tryd.underlying5 Tryd.underlying9 (fun j hj=>by
   rw[Addr.add_mid];exact hc j _ (by simp[byL,hj]))
theorem Byt.step {I:Nat->Prop}{w w':World}{o o':Nat->Nat}{v:Value}{t:List UInt8}(h:Byt w o v t)(s:Step I w o w' o')(h0:¬I 0):Byt w' o' v t:=by
 obtain⟨ao,cap,rfl,h,hl⟩:=h;rcases h with h|⟨b,off,rfl,hlt,hc⟩
 ·have ht:t=[]:=by cases t with|nil=>rfl|cons x y=>simp[byL] at h
  subst ht;exact⟨ao,cap,rfl,.inl h,fun _ _ h=>absurd rfl h⟩
 ·by_cases ht:t=[]
  ·subst ht;exact⟨_,cap,rfl,.inl rfl,fun _ _ h=>absurd rfl h⟩
  ·have hb:=hl b off ht rfl;exact⟨_,cap,rfl,.inr ⟨b,off,rfl,Nat.lt_of_lt_of_le hlt s.size,fun j u hj=>(World.cell?_of_block (a:=⟨b,off+j,none⟩) (s.block b hlt (by rw[hb];exact h0))).trans (hc j u hj)⟩,fun b' off' _ h=>by cases h;rw[s.lab b hlt];exact hb⟩
theorem Byt.nil (w:World)(o:Nat->Nat):Byt w o (.slice none 0 0) []:=⟨none,0,rfl,.inl rfl,fun _ _ _ h=>by cases h⟩
theorem Byt.form {w:World}{o:Nat->Nat}{v:Value}{t:List UInt8}(h:Byt w o v t):∃ao cap,v=.slice ao t.length cap:=by
 obtain⟨ao,cap,rfl,-⟩:=h;exact⟨ao,cap,rfl⟩
def RdW (w:World)(o:Nat->Nat)(rb sb:Nat)(st:St):Prop :=
 match st with
 | none=>Blk w o 2 rb (.cells #[.slice none 0 0,.bool true] 52)
 | some l=>o sb=0/\sb<w.heap.size/\l.length<=9223372036854775807/\∃off cap,l.length<=cap/\cap<=9223372036854775807/\Blk w o 2 rb (.cells #[.slice (some ⟨sb,off,none⟩) l.length cap,.bool false] 52)/\∀ j u,(byL l)[j]?=some u->w.cell? ⟨sb,off+j,none⟩=some u
theorem set2a {w:World}{b:Nat}{x y:Value}{t:TypeId}(h:w.heap[b]?=some (.cells #[x,y] t))(v:Value):(w.setCell ⟨b,0,none⟩ v).heap[b]?=some (.cells #[v,y] t):=heap_setCell_same w b 0 _ _ _ h
theorem set2b {w:World}{b:Nat}{x y:Value}{t:TypeId}(h:w.heap[b]?=some (.cells #[x,y] t))(v:Value):(w.setCell ⟨b,1,none⟩ v).heap[b]?=some (.cells #[x,v] t):=heap_setCell_same w b 1 _ _ _ h
theorem cells2r {w:World}{b:Nat}{x y:Value}{t:TypeId}(h:w.heap[b]?=some (.cells #[x,y] t)):w.cell? ⟨b,0,none⟩=some x/\w.cell? ⟨b,1,none⟩=some y/\w.frozen? ⟨b,0,none⟩=false/\w.frozen? ⟨b,1,none⟩=false:=by
 refine⟨?_,?_,?_,?_⟩<;>simp[World.cell?,World.frozen?,h]
abbrev Ir:Nat->Prop:=fun k=>k=2
theorem RdW.lt {w:World}{o:Nat->Nat}{rb sb:Nat}{st:St}(h:RdW w o rb sb st):rb<w.heap.size:=by
 cases st with
 | none=>exact Blk.lt h
 | some l=>obtain⟨-,-,-,_,_,-,-,hb,-⟩:=h;exact hb.lt
theorem RdW.blk {w:World}{o:Nat->Nat}{rb sb:Nat}{st:St}(h:RdW w o rb sb st):∃x y,Blk w o 2 rb (.cells #[x,y] 52):=by
 cases st with
 | none=>exact⟨_,_,h⟩
 | some l=>obtain⟨-,-,-,_,_,-,-,hb,-⟩:=h;exact⟨_,_,hb⟩
theorem RdW.step {I:Nat->Prop}{w w':World}{o o':Nat->Nat}{rb sb:Nat}{st:St}(h:RdW w o rb sb st)(s:Step I w o w' o')(h2:¬I 2)(h0:¬I 0):RdW w' o' rb sb st:=by
 cases st with
 | none=>exact Blk.step h s h2
 | some l =>
  obtain⟨a,b,c,off,cap,d,e,hb,hc⟩:=h;exact⟨(s.lab sb b).trans a,Nat.lt_of_lt_of_le b s.size,c,off,cap,d,e,hb.step s h2,fun j u hj=>(World.cell?_of_block (a:=⟨sb,off+j,none⟩) (s.block sb b (by rw[a];exact h0))).trans (hc j u hj)⟩
theorem giveUp_c (w:World)(o:Nat->Nat)(rb sb:Nat)(st:St)(h:RdW w o rb sb st) :
  Calls Tryd.prog 32 #[.pointer (some ⟨rb,0,none⟩)] w fun e w'=>e=.returned (.tuple #[])/\RdW w' o rb sb none/\Step Ir w o w' o:=by
 obtain⟨x,y,hb⟩:=h.blk;obtain⟨c0,c1,f0,f1⟩:=cells2r hb.1;have hs1:=set2a hb.1 (.slice none 0 0);have hs2:=set2b hs1 (.bool true);obtain⟨d0,d1,g0,g1⟩:=cells2r hs1;have S1:Step Ir w o ((w.setCell ⟨rb,0,none⟩ (.slice none 0 0)).setCell ⟨rb,1,none⟩ (.bool true)) o:=((Step.refl Ir w o).setCell ⟨rb,0,none⟩ _ hb.2).setCell ⟨rb,1,none⟩ _ hb.2;have HR:Hid (RdW ((w.setCell ⟨rb,0,none⟩ (.slice none 0 0)).setCell ⟨rb,1,none⟩ (.bool true)) o rb sb none/\Step Ir w o ((w.setCell ⟨rb,0,none⟩ (.slice none 0 0)).setCell ⟨rb,1,none⟩ (.bool true)) o):=⟨⟨hs2,hb.2⟩,S1⟩
 clear hs1 hs2 S1 hb h;go_enter Tryd.func32,Tryd.ntmps32;go_wp2
 go_end0
 exact⟨rfl,HR.out⟩
theorem byL_take (l:List UInt8)(n:Nat):byL (l.take n)=(byL l).take n:=by simp[byL]
theorem byL_drop (l:List UInt8)(n:Nat):byL (l.drop n)=(byL l).drop n:=by simp[byL]
theorem front_c (n:Nat)(hn:n<=100000)(w:World)(o:Nat->Nat)(rb sb:Nat)(st:St)(h:RdW w o rb sb st) :
  Calls Tryd.prog 46 #[.pointer (some ⟨rb,0,none⟩),.int .i64 (n:Nat)] w fun e w'=>∃v,e=.returned v/\Byt w o v ((st.getD []).take n)/\w'=w:=by
 cases st with
 | none =>
  obtain⟨c0,c1,f0,f1⟩:=cells2r h.1;have hB:Byt w o (.slice none 0 0) (((none:St).getD []).take n):=⟨none,0,by simp,.inl (by simp[byL]),fun _ _ _ h=>by cases h⟩
  have HB2:Hid (Byt w o (.slice none 0 0) []):=(by simpa using hB:Byt w o (.slice none 0 0) [])
  have HB:Hid (Byt w o (.slice none 0 0) (((none:St).getD []).take n)):=hB;clear hB h;by_cases h0:0<n
  ·go_enter Tryd.func46,Tryd.ntmps46;go_wp2;go_ret;exact⟨_,rfl,by first|exact HB.out|exact HB2.out,rfl⟩
  ·obtain rfl:n=0:=by omega
   go_enter Tryd.func46,Tryd.ntmps46;go_wp2;go_ret;exact⟨_,rfl,by first|exact HB.out|exact HB2.out,rfl⟩
 | some l =>
  obtain⟨a,b,c,off,cap,d,e,hb,hc⟩:=h;obtain⟨c0,c1,f0,f1⟩:=cells2r hb.1;by_cases hle:n<=l.length
  ·have hB:Byt w o (.slice (some ⟨sb,off,none⟩) n n) (l.take n):=⟨some ⟨sb,off,none⟩,n,by rw[List.length_take,Nat.min_eq_left hle],.inr ⟨sb,off,rfl,b,fun j u hj=>by
    rw[byL_take,List.getElem?_take] at hj;split at hj
    ·exact hc j u hj
    ·cases hj⟩,fun b' off' _ h=>by cases h;exact a⟩
   have HB:Hid (Byt w o (.slice (some ⟨sb,off,none⟩) n n) (((some l:St).getD []).take n)):=hB;have hleI:(n:Int)<=(l.length:Int):=by omega
   have hnl:¬l.length<n:=by omega
   clear hB hb hc;go_enter Tryd.func46,Tryd.ntmps46;go_wp2;go_ret;exact⟨_,rfl,HB.out,rfl⟩
  ·have hB:Byt w o (.slice (some ⟨sb,off,none⟩) l.length l.length) (l.take n):=⟨some ⟨sb,off,none⟩,l.length,by rw[List.length_take,Nat.min_eq_right (by omega)],.inr ⟨sb,off,rfl,b,fun j u hj=>by
    rw[List.take_of_length_le (by omega)] at hj;exact hc j u hj⟩,fun b' off' _ h=>by cases h;exact a⟩
   have HB:Hid (Byt w o (.slice (some ⟨sb,off,none⟩) l.length l.length) (((some l:St).getD []).take n)):=hB;have hleI:(l.length:Int)<(n:Int):=by omega
   have hnl:l.length<n:=by omega
   clear hB hb hc;go_enter Tryd.func46,Tryd.ntmps46;go_wp2;go_ret;exact⟨_,rfl,HB.out,rfl⟩
theorem RdW.cutoff {w:World}{o:Nat->Nat}{rb sb:Nat}{l:List UInt8}{off cap:Nat}(hl:l.length<=9223372036854775807)(a:o sb=0)(b:sb<w.heap.size)(hne:sb≠rb)(d:l.length<=cap)(e:cap<=9223372036854775807)
  (hb:Blk w o 2 rb (.cells #[.slice (some ⟨sb,off,none⟩) l.length cap,.bool false] 52)) (hc:∀ j u,(byL l)[j]?=some u->w.cell? ⟨sb,off+j,none⟩=some u) (k:Nat) (hk:k<=l.length) :
  RdW (w.setCell ⟨rb,0,none⟩ (.slice (if cap=k then some ⟨sb,off,none⟩ else some ⟨sb,off+k,none⟩) (l.length-k) (cap-k))) o rb sb (some (l.drop k)):=by
 have hcell:∀ q,(w.setCell ⟨rb,0,none⟩ (.slice (if cap=k then some ⟨sb,off,none⟩ else some ⟨sb,off+k,none⟩) (l.length-k) (cap-k))).cell? ⟨sb,q,none⟩=w.cell? ⟨sb,q,none⟩:=fun q=>World.cell?_of_block (a:=⟨sb,q,none⟩) (heap_setCell_other _ _ _ _ hne);have hbb:=set2a hb.1 (.slice (if cap=k then some ⟨sb,off,none⟩ else some ⟨sb,off+k,none⟩) (l.length-k) (cap-k));by_cases hck:cap=k
 ·rw[if_pos hck] at hbb hcell ⊢;refine⟨a,by simpa using b,by simp;omega,off,cap-k,by simp;omega,by omega,⟨by rw[List.length_drop];exact hbb,hb.2⟩,fun j u hj=>?_⟩;rw[List.drop_of_length_le (by omega)] at hj;simp[byL] at hj
 ·rw[if_neg hck] at hbb hcell ⊢;refine⟨a,by simpa using b,by simp;omega,off+k,cap-k,by simp;omega,by omega,⟨by rw[List.length_drop];exact hbb,hb.2⟩,fun j u hj=>?_⟩;rw[byL_drop,List.getElem?_drop] at hj;rw[hcell,Nat.add_assoc];exact hc _ u hj
theorem num_yes {l:List UInt8}{n k:Nat}(h:tk l 0 0=(n,k,0)):val 0 numR (some l)=n/\nxt numR (some l)=some (l.drop k):=by
 have e:numR l=some (n,l.drop k):=by simp[numR,h]
 exact⟨val_ok e,nxt_ok e⟩
theorem num_no {l:List UInt8}(h:¬(tk l 0 0).2.2=0):val 0 numR (some l)=0/\nxt numR (some l)=none:=by
 have e:numR l=none:=by simp[numR,h]
 exact⟨val_no e,nxt_no e⟩
theorem rnumber_c (w:World)(o:Nat->Nat)(rb sb:Nat)(hne:sb≠rb)(st:St)(h:RdW w o rb sb st) :
  Calls Tryd.prog 34 #[.pointer (some ⟨rb,0,none⟩)] w fun e w'=>e=.returned (.int .u64 (val 0 numR st:Nat))/\RdW w' o rb sb (nxt numR st)/\Step Ir w o w' o:=by
 have HF:=front_c 10 (by omega) w o rb sb st h;have HG:=giveUp_c w o rb sb st h;have hlen:((st.getD []).take 10).length<=10:=by simp;omega
 have HT:=fun w'=>take_any ⟨((st.getD []).take 10).toArray⟩ w' (by rw[size_mk];unfold maxLen;omega);have e1:(⟨((st.getD []).take 10).toArray⟩:ByteArray).data.toList=(st.getD []).take 10:=by simp
 rw[e1,show (10:Nat)=10-0 by rfl,tk_ten _ 0 0 (by omega)] at HT;simp only[Nat.sub_zero] at HT;clear e1;by_cases hz:(tk (st.getD []) 0 0).2.2=0
 ·cases st with
  | none=>simp[tk] at hz
  | some l =>
   obtain⟨N,K,E⟩:∃N K,tk l 0 0=(N,K,0):=⟨(tk l 0 0).1,(tk l 0 0).2.1,by have e:tk l 0 0=((tk l 0 0).1,(tk l 0 0).2.1,(tk l 0 0).2.2):=rfl;rw[show (tk l 0 0).2.2=0 from hz] at e;exact e⟩
   obtain⟨_,hk10,hkl,hN,_,_⟩:=tk_back0 l N K E;obtain⟨v1,v2⟩:=num_yes E;rw[v1,v2];have HT2:∀ w',Calls Tryd.prog 48 #[.string ⟨(((some l:St).getD []).take 10).toArray⟩] w' fun e w''=>e=.returned (.tuple #[.int .u64 N,.int .i64 K,.int .i64 0])/\w''=w':=fun w'=>(HT w').mono fun e w'' ⟨g1,g2⟩=>⟨by rw[g1,show ((some l:St).getD [])=l from rfl,E];rfl,g2⟩;obtain⟨a,b,c,off,cap,d,e,hb,hc⟩:=h;obtain⟨c0,c1,f0,f1⟩:=cells2r hb.1;have hR:=RdW.cutoff c a b hne d e hb hc K hkl;have hS:Step Ir w o (w.setCell ⟨rb,0,none⟩ (.slice (if cap=K then some ⟨sb,off,none⟩ else some ⟨sb,off+K,none⟩) (l.length-K) (cap-K))) o:=(Step.refl Ir w o).setCell ⟨rb,0,none⟩ _ hb.2;clear v1 v2 HT E hz HG hb hc;by_cases hck:cap=K
   all_goals (
    first|(rw[if_pos hck] at hR hS;rw[show cap-K=0 by omega] at hR hS)|rw[if_neg hck] at hR hS
    have HR:=Lib.hid hR;have HS:=Lib.hid hS;clear hR hS;go_enter Tryd.func34,Tryd.ntmps34;go_wp2_with (first|(go_at_call 46;refine HF.mono ?_;rintro e w1 ⟨v,rfl,hbt,hww⟩;subst hww;have hcv:=hbt.text)|(go_at_call 48;refine(HT2 _).mono ?_;rintro e w2 ⟨rfl,hww⟩;subst hww));go_ret;exact⟨rfl,HR.out,HS.out⟩)
 ·have hv:val 0 numR st=0/\nxt numR st=none:=by
   cases st with
   | none=>exact⟨rfl,rfl⟩
   | some l=>exact num_no hz
  rw[hv.1,hv.2];obtain⟨F,hF0,E⟩:∃F:Nat,¬F=0/\tk (st.getD []) 0 0=(0,0,F):=by
   rcases tk_err (st.getD []) 0 0 with h1|h1|h1
   ·exact absurd h1 hz
   ·exact⟨10,by omega,h1⟩
   ·exact⟨11,by omega,h1⟩
  have hFI:¬(F:Int)=0:=by omega
  have HT2:∀ w',Calls Tryd.prog 48 #[.string ⟨((st.getD []).take 10).toArray⟩] w' fun e w''=>e=.returned (.tuple #[.int .u64 0,.int .i64 0,.int .i64 F])/\w''=w':=fun w'=>(HT w').mono fun e w'' ⟨g1,g2⟩=>⟨by rw[g1,E];rfl,g2⟩;clear hv E HT hz h;generalize (st.getD []).take 10=TT at *;go_enter Tryd.func34,Tryd.ntmps34;go_wp2_with (first|(go_at_call 46;refine HF.mono ?_;rintro e w1 ⟨v,rfl,hbt,hww⟩;subst hww;have hcv:=hbt.text)|(go_at_call 48;refine(HT2 _).mono ?_;rintro e w2 ⟨rfl,hww⟩;subst hww)|(go_at_call 32;refine HG.mono ?_;rintro e w3 ⟨rfl,hG⟩));go_ret;exact⟨rfl,hG⟩
theorem atMost_c (m:Nat)(hm:m<=100000)(w:World)(o:Nat->Nat)(rb sb:Nat)(hne:sb≠rb)(st:St)(h:RdW w o rb sb st) :
  Calls Tryd.prog 47 #[.pointer (some ⟨rb,0,none⟩),.int .i64 (m:Nat)] w fun e w'=>e=.returned (.int .i64 (val 0 (cntR m) st:Nat))/\RdW w' o rb sb (nxt (cntR m) st)/\Step Ir w o w' o:=by
 have HN:=rnumber_c w o rb sb hne st h;have hlt:=numR_lt st;by_cases hle:val 0 numR st<=m
 ·obtain⟨e1,e2⟩:=cnt_val m st hle;rw[e1,e2];generalize val 0 numR st=N at *;generalize nxt numR st=st2 at *;have h1:¬(m:Int)<(N:Int):=by omega
  clear e1 e2;go_enter Tryd.func47,Tryd.ntmps47;go_wp2_with (go_at_call 34;refine HN.mono ?_;rintro e w1 ⟨rfl,R1,S1⟩);go_ret;exact⟨by first|rfl|(simp;omega),R1,S1⟩
 ·obtain⟨e1,e2⟩:=cnt_over m st hle;rw[e1,e2];have HG:=fun w1 R1=>giveUp_c w1 o rb sb (nxt numR st) R1;generalize val 0 numR st=N at *;generalize nxt numR st=st2 at *;have h1:(m:Int)<(N:Int):=by omega
  clear e1 e2;go_enter Tryd.func47,Tryd.ntmps47;go_wp2_with (first|(go_at_call 34;refine HN.mono ?_;rintro e w1 ⟨rfl,R1,S1⟩)|(go_at_call 32;refine(HG _ R1).mono ?_;rintro e w2 ⟨rfl,R2,S2⟩));go_ret;exact⟨rfl,R2,S1.trans S2⟩
theorem rconst_c (w:World)(o:Nat->Nat)(rb sb:Nat)(hne:sb≠rb)(st:St)(h:RdW w o rb sb st) :
  Calls Tryd.prog 36 #[.pointer (some ⟨rb,0,none⟩)] w fun e w'=>e=.returned (.int .i64 (val (0:Int) conR st))/\RdW w' o rb sb (nxt conR st)/\Step Ir w o w' o:=by
 have HN:=rnumber_c w o rb sb hne st h;have hlt:=numR_lt st;obtain⟨e1,e2⟩:=con_val st;rw[e1,e2];have HZ:=fun w1=>zag_any (val 0 numR st:Nat) w1 (by omega) (by omega);have hb:=zgb_bd (val 0 numR st:Nat) (by omega) (by omega);generalize zgb (val 0 numR st:Nat)=z at *;generalize val 0 numR st=N at *;generalize nxt numR st=st2 at *;clear e1 e2;go_enter Tryd.func36,Tryd.ntmps36;go_wp2_with (first|(go_at_call 34;refine HN.mono ?_;rintro e w1 ⟨rfl,R1,S1⟩)|(go_at_call 49;refine(HZ _).mono ?_;rintro e w2 ⟨rfl,hww⟩;subst hww));go_ret;exact⟨rfl,R1,S1⟩
theorem rkind_c (w:World)(o:Nat->Nat)(rb sb:Nat)(hne:sb≠rb)(st:St)(h:RdW w o rb sb st) :
  Calls Tryd.prog 39 #[.pointer (some ⟨rb,0,none⟩)] w fun e w'=>e=.returned (.int .i64 (val (0:Int) (kndR 3) st))/\RdW w' o rb sb (nxt (kndR 3) st)/\Step Ir w o w' o:=by
 have HN:=atMost_c 3 (by omega) w o rb sb hne st h;obtain⟨e1,e2⟩:=knd_val 3 st;rw[e1,e2];generalize val 0 (cntR 3) st=N at *;generalize nxt (cntR 3) st=st2 at *;clear e1 e2;go_enter Tryd.func39,Tryd.ntmps39;go_wp2_with (go_at_call 47;refine HN.mono ?_;rintro e w1 ⟨rfl,R1,S1⟩);go_ret;exact⟨rfl,R1,S1⟩
theorem tak_yes {l:List UInt8}{n:Nat}(h:n<=l.length):val [] (takR n) (some l)=l.take n/\nxt (takR n) (some l)=some (l.drop n):=by
 have e:takR n l=some (l.take n,l.drop n):=by simp[takR,h]
 exact⟨val_ok e,nxt_ok e⟩
theorem tak_no {l:List UInt8}{n:Nat}(h:¬n<=l.length):val [] (takR n) (some l)=[]/\nxt (takR n) (some l)=none:=by
 have e:takR n l=none:=by simp[takR,h]
 exact⟨val_no e,nxt_no e⟩
theorem rtake_c (n:Nat)(hn:n<=100000)(w:World)(o:Nat->Nat)(rb sb:Nat)(hne:sb≠rb)(st:St)(h:RdW w o rb sb st) :
  Calls Tryd.prog 31 #[.pointer (some ⟨rb,0,none⟩),.int .i64 (n:Nat)] w fun e w'=>∃v,e=.returned v/\Byt w' o v (val [] (takR n) st)/\RdW w' o rb sb (nxt (takR n) st)/\Step Ir w o w' o:=by
 have HF:=front_c n hn w o rb sb st h;have HG:=giveUp_c w o rb sb st h;by_cases hsh:((st.getD []).take n).length<n
 ·have hv:val [] (takR n) st=[]/\nxt (takR n) st=none:=by
   cases st with
   | none=>exact⟨rfl,rfl⟩
   | some l=>exact tak_no (by simp at hsh;omega)
  rw[hv.1,hv.2];have hI:((((st.getD []).take n).length:Nat):Int)<(n:Int):=by omega
  clear hv h;generalize (st.getD []).take n=TT at *;go_enter Tryd.func31,Tryd.ntmps31;go_wp2_with (first|(go_at_call 46;refine HF.mono ?_;rintro e w1 ⟨v,rfl,hbt,hww⟩;subst hww;obtain⟨av,cv,rfl⟩:=hbt.form)|(go_at_call 32;refine HG.mono ?_;rintro e w3 ⟨rfl,R3,S3⟩));go_ret;exact⟨_,rfl,Byt.nil _ _,R3,S3⟩
 ·have hI:¬((((st.getD []).take n).length:Nat):Int)<(n:Int):=by omega
  cases st with
  | none =>
   obtain rfl:n=0:=by simp at hsh;omega
   have hv:val [] (takR 0) none=[]/\nxt (takR 0) none=none:=⟨rfl,rfl⟩
   rw[hv.1,hv.2];have hb:Blk w o 2 rb (.cells #[.slice none 0 0,.bool true] 52):=h;obtain⟨c0,c1,f0,f1⟩:=cells2r hb.1;have HR:Hid (RdW (w.setCell ⟨rb,0,none⟩ (.slice none 0 0)) o rb sb none):=⟨set2a hb.1 _,hb.2⟩
   have hS:Step Ir w o (w.setCell ⟨rb,0,none⟩ (.slice none 0 0)) o:=(Step.refl Ir w o).setCell ⟨rb,0,none⟩ _ hb.2;have HS:=Lib.hid hS;clear hS hb h HG hv;simp only[List.take_zero] at HF hI hsh;go_enter Tryd.func31,Tryd.ntmps31;go_wp2_with (first|(go_at_call 46;refine HF.mono ?_;rintro e w1 ⟨v,rfl,hbt,hww⟩;subst hww;obtain⟨av,cv,rfl⟩:=hbt.form));go_ret;exact⟨_,rfl,hbt.step HS.out (by decide),HR.out,HS.out⟩
  | some l =>
   have hnl:n<=l.length:=by simp at hsh;omega
   obtain⟨v1,v2⟩:=tak_yes hnl;rw[v1,v2];obtain⟨a,b,c,off,cap,d,e,hb,hc⟩:=h;obtain⟨c0,c1,f0,f1⟩:=cells2r hb.1;have hR:=RdW.cutoff c a b hne d e hb hc n hnl;have hS:Step Ir w o (w.setCell ⟨rb,0,none⟩ (.slice (if cap=n then some ⟨sb,off,none⟩ else some ⟨sb,off+n,none⟩) (l.length-n) (cap-n))) o:=(Step.refl Ir w o).setCell ⟨rb,0,none⟩ _ hb.2;have e3:((some l:St).getD []).take n=l.take n:=rfl;rw[e3] at HF hI hsh;have e4:(l.take n).length=n:=by rw[List.length_take];omega
   clear v1 v2 HG hb hc e3;have hnI:(n:Int)<=(l.length:Int):=by omega
   by_cases hck:cap=n
   all_goals (
    first|(rw[if_pos hck] at hR hS;rw[show cap-n=0 by omega] at hR hS)|rw[if_neg hck] at hR hS
    have HR:=Lib.hid hR;have HS:=Lib.hid hS;clear hR hS;go_enter Tryd.func31,Tryd.ntmps31;go_wp2_with (first|(go_at_call 46;refine HF.mono ?_;rintro e w1 ⟨v,rfl,hbt,hww⟩;subst hww;obtain⟨av,cv,rfl⟩:=hbt.form));go_ret;have hbt2:=hbt.step HS.out (by decide);rw[e4] at hbt2;exact⟨_,rfl,hbt2,HR.out,HS.out⟩)
theorem rname_c (w:World)(o:Nat->Nat)(rb sb:Nat)(hne:sb≠rb)(st:St)(h:RdW w o rb sb st) :
  Calls Tryd.prog 38 #[.pointer (some ⟨rb,0,none⟩)] w fun e w'=>e=.returned (.string (val (⟨#[]⟩:ByteArray) (namR 12) st))/\RdW w' o rb sb (nxt (namR 12) st)/\Step Ir w o w' o:=by
 have HN:=atMost_c 12 (by omega) w o rb sb hne st h;obtain⟨e1,e2⟩:=nam_val 12 st;rw[e1,e2];have hle:=cnt_le 12 st;have HT:=fun w1 R1=>rtake_c (val 0 (cntR 12) st) (by omega) w1 o rb sb hne (nxt (cntR 12) st) R1;generalize val [] (takR (val 0 (cntR 12) st)) (nxt (cntR 12) st)=TT at *;generalize nxt (takR (val 0 (cntR 12) st)) (nxt (cntR 12) st)=st3 at *;generalize val 0 (cntR 12) st=N at *;generalize nxt (cntR 12) st=st2 at *;clear e1 e2;go_enter Tryd.func38,Tryd.ntmps38;go_wp2_with (first|(go_at_call 47;refine HN.mono ?_;rintro e w1 ⟨rfl,R1,S1⟩)|(go_at_call 31;refine(HT _ R1).mono ?_;rintro e w2 ⟨v,rfl,hbt,R2,S2⟩;have hcv:=hbt.text));go_ret;exact⟨rfl,R2,S1.trans S2⟩
theorem infoW:(Tryd.prog.info? 33).map (fun i=>(i.zero,i.size,i.bytes))=some (some (.int .u64 0),1,8):=by kernel_rfl
theorem infoI:(Tryd.prog.info? 3).map (fun i=>(i.zero,i.size,i.bytes))=some (some (.int .i64 0),1,8):=by kernel_rfl
theorem infoS:(Tryd.prog.info? 9).map (fun i=>(i.zero,i.size,i.bytes))=some (some (.string ⟨#[]⟩),1,16):=by kernel_rfl
theorem one_one (v:Value)(h:v.oneCell'=true):∀ u ∈ [v],u.oneCell'=true:=by
 intro u hu;simp at hu;subst hu;exact h
def LstOut (w:World)(o:Nat->Nat)(rb sb q:Nat)(e:TypeId){α:Type}(V:List α->List Value)(rd:List UInt8->Option (List α × List UInt8))(st:St)(most:Nat)(z:Ending)(w':World):Prop :=
 ∃v,z=.returned v/\∃(xs:List α) (o':Nat->Nat) (st':St),Row w' o' q e 1 v xs.length (V xs)/\RdW w' o' rb sb st'/\Step (fun k=>k=2\/k=q) w o w' o'/\st.bind rd=st'.map (fun l=>(xs,l))/\xs.length<=most
theorem rword_c (w:World)(o:Nat->Nat)(rb sb:Nat)(hne:sb≠rb)(st:St)(h:RdW w o rb sb st) :
  Calls Tryd.prog 34 #[.pointer (some ⟨rb,0,none⟩)] w fun e w'=>e=.returned (.int .u64 (val (0:Int) wrdR st))/\RdW w' o rb sb (nxt wrdR st)/\Step Ir w o w' o:=by
 rw[(wrd_val st).1,(wrd_val st).2];exact rnumber_c w o rb sb hne st h
theorem list_w (most:Nat)(hmost:most<=32768)(q:Nat)(hq:2<q)(w:World)(o:Nat->Nat)(rb sb:Nat)(hne:sb≠rb)(st:St)(h:RdW w o rb sb st) :
  Calls Tryd.prog 33 #[.pointer (some ⟨rb,0,none⟩),.int .i64 (most:Nat),.func (.func 34) #[.pointer (some ⟨rb,0,none⟩)] #[]] w (LstOut w o rb sb q 33 wsV (rdL most wrdR) st most):=by
 obtain⟨ii,hii,hz0,hz1,hz2⟩:=info_parts infoW;have HM:=atMost_c most (by omega) w o rb sb hne st h;have HST:=lef_start most wrdR st;have hcl:=cnt_le most st;generalize val 0 (cntR most) st=N at *;generalize nxt (cntR most) st=st1 at *;have HH:=Lib.hid HST;clear HST h;go_enter Tryd.func33,Tryd.ntmps33;go_wp2_with (first|(go_at_call 47;refine HM.mono ?_;rintro e w1 ⟨rfl,R1,S1⟩));have S1':Step (fun k=>k=2\/k=q) w o w1 o:=S1.mono (fun k hk=>Or.inl hk);clear S1 HM;go_loopw [7,11] (fun va vi wr=>∃(k:Nat) (xs:List Int) (o3:Nat->Nat) (st3:St),vi=.int .i64 (k:Nat)/\k<=N/\xs.length=k/\Row wr o3 q 33 1 va k (wsV xs)/\RdW wr o3 rb sb st3/\Step (fun k=>k=2\/k=q) w o wr o3/\Hid (st.bind (rdL most wrdR)=lef wrdR (N-k) xs st3)) (fun _ vi _=>N-(intOf vi).toNat)
 case atStart=>exact⟨0,[],o,st1,by go_num,by omega,rfl,Row.nil _ _ _ _ _,R1,S1',HH.out⟩
 case round =>
  obtain⟨k,xs,o3,st3,rfl,hk,hxl,R3,D3,S3,HL⟩:=hrel;clear HH R1 S1';by_cases hlt:k<N
  ·have hkI:(k:Int)<(N:Int):=by omega
   have HO:=rword_c wr o3 rb sb hne st3 D3;have HL2:Hid (st.bind (rdL most wrdR)=lef wrdR (N-(k+1)) (xs++[val (0:Int) wrdR st3]) (nxt wrdR st3)):=by
    show _=_;rw[<-lef_next,show N-(k+1)+1=N-k by omega];exact HL.out
   generalize val (0:Int) wrdR st3=x at *;generalize nxt wrdR st3=st4 at *;clear HL;go_wp2_with (first|(go_at_call 34;refine HO.mono ?_;rintro e w4 ⟨rfl,D4,S4⟩;have R4:=R3.step S4 (by show ¬q=2;omega))|(at_builtin;refine wpList_append_lab rfl _ _ 24 rfl 33 ii (.int .u64 0) 1 8 Tryd.underlying24 hii hz0 hz1 hz2 rfl (by decide) o3 q _ k (wsV xs) rfl (R4.step (Step.ofBelow (I:=fun _=>False) o3 (b1 _ _)) (fun h=>h)) ⟨w4.heap.size,0,none⟩ 1 1 [.int .u64 x] rfl rfl ?c1 ?c2 (by decide) ?c4 ?c5 ?_)|go_in)
   case c1=>exact new_one _ _ _
   case c2=>exact one_one _ rfl
   case c4=>unfold maxLen;omega
   case c5=>omega
   intro g5 cap5 w5 o5 R5 S5;have D4':=D4.step (Step.ofBelow (I:=fun _=>False) o3 (b1 w4 (.cells #[.int .u64 x] 33))) (fun h=>h) (fun h=>h);have D5:=D4'.step S5 (by omega) (by omega);have S6:Step (fun k=>k=2\/k=q) w o w5 o5:=((S3.trans (S4.mono (fun k hk=>Or.inl hk))).trans (Step.ofBelow o3 (b1 w4 (.cells #[.int .u64 x] 33)))).trans (S5.mono (fun k hk=>Or.inr hk));have R6:Row w5 o5 q 33 1 (.slice (some ⟨g5,0,none⟩) (k+1) cap5) (k+1) (wsV (xs++[x])):=by
    have e:wsV (xs++[x])=wsV xs++[.int .u64 x]:=by simp[wsV]
    rw[e];exact R5
   have hxl2:(xs++[x]).length=k+1:=by simp[hxl]
   clear R5 S5 D4' R4 D4 S4 S3 R3 D3 HO;go_wp2;go_roundw
   case rel=>(try ((repeat apply Exists.intro);refine⟨?_,rfl⟩));exact⟨k+1,xs++[x],o5,st4,by go_num,by omega,hxl2,R6,D5,S6,HL2.out⟩
   case measure=>simp[intOf];omega
  ·have hkI:¬(k:Int)<(N:Int):=by omega
   have e:st.bind (rdL most wrdR)=st3.map (fun l=>(xs,l)):=by
    rw[HL.out,show N-k=0 by omega,lef_zero]
   have HE:=Lib.hid e;clear e HL;have HX:=Lib.hid hxl;clear hxl;go_wp2;go_ret;exact⟨_,rfl,xs,o3,st3,by rw[HX.out];exact R3,D3,S3,HE.out,by have:=HX.out;omega⟩
theorem list_c (most:Nat)(hmost:most<=32768)(q:Nat)(hq:2<q)(w:World)(o:Nat->Nat)(rb sb:Nat)(hne:sb≠rb)(st:St)(h:RdW w o rb sb st) :
  Calls Tryd.prog 35 #[.pointer (some ⟨rb,0,none⟩),.int .i64 (most:Nat),.func (.func 36) #[.pointer (some ⟨rb,0,none⟩)] #[]] w (LstOut w o rb sb q 3 isV (rdL most conR) st most):=by
 obtain⟨ii,hii,hz0,hz1,hz2⟩:=info_parts infoI;have HM:=atMost_c most (by omega) w o rb sb hne st h;have HST:=lef_start most conR st;have hcl:=cnt_le most st;generalize val 0 (cntR most) st=N at *;generalize nxt (cntR most) st=st1 at *;have HH:=Lib.hid HST;clear HST h;go_enter Tryd.func35,Tryd.ntmps35;go_wp2_with (first|(go_at_call 47;refine HM.mono ?_;rintro e w1 ⟨rfl,R1,S1⟩));have S1':Step (fun k=>k=2\/k=q) w o w1 o:=S1.mono (fun k hk=>Or.inl hk);clear S1 HM;go_loopw [7,11] (fun va vi wr=>∃(k:Nat) (xs:List Int) (o3:Nat->Nat) (st3:St),vi=.int .i64 (k:Nat)/\k<=N/\xs.length=k/\Row wr o3 q 3 1 va k (isV xs)/\RdW wr o3 rb sb st3/\Step (fun k=>k=2\/k=q) w o wr o3/\Hid (st.bind (rdL most conR)=lef conR (N-k) xs st3)) (fun _ vi _=>N-(intOf vi).toNat)
 case atStart=>exact⟨0,[],o,st1,by go_num,by omega,rfl,Row.nil _ _ _ _ _,R1,S1',HH.out⟩
 case round =>
  obtain⟨k,xs,o3,st3,rfl,hk,hxl,R3,D3,S3,HL⟩:=hrel;clear HH R1 S1';by_cases hlt:k<N
  ·have hkI:(k:Int)<(N:Int):=by omega
   have HO:=rconst_c wr o3 rb sb hne st3 D3;have HL2:Hid (st.bind (rdL most conR)=lef conR (N-(k+1)) (xs++[val (0:Int) conR st3]) (nxt conR st3)):=by
    show _=_;rw[<-lef_next,show N-(k+1)+1=N-k by omega];exact HL.out
   generalize val (0:Int) conR st3=x at *;generalize nxt conR st3=st4 at *;clear HL;go_wp2_with (first|(go_at_call 36;refine HO.mono ?_;rintro e w4 ⟨rfl,D4,S4⟩;have R4:=R3.step S4 (by show ¬q=2;omega))|(at_builtin;refine wpList_append_lab rfl _ _ 25 rfl 3 ii (.int .i64 0) 1 8 Tryd.underlying25 hii hz0 hz1 hz2 rfl (by decide) o3 q _ k (isV xs) rfl (R4.step (Step.ofBelow (I:=fun _=>False) o3 (b1 _ _)) (fun h=>h)) ⟨w4.heap.size,0,none⟩ 1 1 [.int .i64 x] rfl rfl ?c1 ?c2 (by decide) ?c4 ?c5 ?_)|go_in)
   case c1=>exact new_one _ _ _
   case c2=>exact one_one _ rfl
   case c4=>unfold maxLen;omega
   case c5=>omega
   intro g5 cap5 w5 o5 R5 S5;have D4':=D4.step (Step.ofBelow (I:=fun _=>False) o3 (b1 w4 (.cells #[.int .i64 x] 3))) (fun h=>h) (fun h=>h);have D5:=D4'.step S5 (by omega) (by omega);have S6:Step (fun k=>k=2\/k=q) w o w5 o5:=((S3.trans (S4.mono (fun k hk=>Or.inl hk))).trans (Step.ofBelow o3 (b1 w4 (.cells #[.int .i64 x] 3)))).trans (S5.mono (fun k hk=>Or.inr hk));have R6:Row w5 o5 q 3 1 (.slice (some ⟨g5,0,none⟩) (k+1) cap5) (k+1) (isV (xs++[x])):=by
    have e:isV (xs++[x])=isV xs++[.int .i64 x]:=by simp[isV]
    rw[e];exact R5
   have hxl2:(xs++[x]).length=k+1:=by simp[hxl]
   clear R5 S5 D4' R4 D4 S4 S3 R3 D3 HO;go_wp2;go_roundw
   case rel=>(try ((repeat apply Exists.intro);refine⟨?_,rfl⟩));exact⟨k+1,xs++[x],o5,st4,by go_num,by omega,hxl2,R6,D5,S6,HL2.out⟩
   case measure=>simp[intOf];omega
  ·have hkI:¬(k:Int)<(N:Int):=by omega
   have e:st.bind (rdL most conR)=st3.map (fun l=>(xs,l)):=by
    rw[HL.out,show N-k=0 by omega,lef_zero]
   have HE:=Lib.hid e;clear e HL;have HX:=Lib.hid hxl;clear hxl;go_wp2;go_ret;exact⟨_,rfl,xs,o3,st3,by rw[HX.out];exact R3,D3,S3,HE.out,by have:=HX.out;omega⟩
theorem list_n (most:Nat)(hmost:most<=32768)(q:Nat)(hq:2<q)(w:World)(o:Nat->Nat)(rb sb:Nat)(hne:sb≠rb)(st:St)(h:RdW w o rb sb st) :
  Calls Tryd.prog 37 #[.pointer (some ⟨rb,0,none⟩),.int .i64 (most:Nat),.func (.func 38) #[.pointer (some ⟨rb,0,none⟩)] #[]] w (LstOut w o rb sb q 9 nsV (rdL most (namR 12)) st most):=by
 obtain⟨ii,hii,hz0,hz1,hz2⟩:=info_parts infoS;have HM:=atMost_c most (by omega) w o rb sb hne st h;have HST:=lef_start most (namR 12) st;have hcl:=cnt_le most st;generalize val 0 (cntR most) st=N at *;generalize nxt (cntR most) st=st1 at *;have HH:=Lib.hid HST;clear HST h;go_enter Tryd.func37,Tryd.ntmps37;go_wp2_with (first|(go_at_call 47;refine HM.mono ?_;rintro e w1 ⟨rfl,R1,S1⟩));have S1':Step (fun k=>k=2\/k=q) w o w1 o:=S1.mono (fun k hk=>Or.inl hk);clear S1 HM;go_loopw [7,11] (fun va vi wr=>∃(k:Nat) (xs:List ByteArray) (o3:Nat->Nat) (st3:St),vi=.int .i64 (k:Nat)/\k<=N/\xs.length=k/\Row wr o3 q 9 1 va k (nsV xs)/\RdW wr o3 rb sb st3/\Step (fun k=>k=2\/k=q) w o wr o3/\Hid (st.bind (rdL most (namR 12))=lef (namR 12) (N-k) xs st3)) (fun _ vi _=>N-(intOf vi).toNat)
 case atStart=>exact⟨0,[],o,st1,by go_num,by omega,rfl,Row.nil _ _ _ _ _,R1,S1',HH.out⟩
 case round =>
  obtain⟨k,xs,o3,st3,rfl,hk,hxl,R3,D3,S3,HL⟩:=hrel;clear HH R1 S1';by_cases hlt:k<N
  ·have hkI:(k:Int)<(N:Int):=by omega
   have HO:=rname_c wr o3 rb sb hne st3 D3;have HL2:Hid (st.bind (rdL most (namR 12))=lef (namR 12) (N-(k+1)) (xs++[val (⟨#[]⟩:ByteArray) (namR 12) st3]) (nxt (namR 12) st3)):=by
    show _=_;rw[<-lef_next,show N-(k+1)+1=N-k by omega];exact HL.out
   generalize val (⟨#[]⟩:ByteArray) (namR 12) st3=x at *;generalize nxt (namR 12) st3=st4 at *;clear HL;go_wp2_with (first|(go_at_call 38;refine HO.mono ?_;rintro e w4 ⟨rfl,D4,S4⟩;have R4:=R3.step S4 (by show ¬q=2;omega))|(at_builtin;refine wpList_append_lab rfl _ _ 26 rfl 9 ii (.string ⟨#[]⟩) 1 16 Tryd.underlying26 hii hz0 hz1 hz2 rfl (by decide) o3 q _ k (nsV xs) rfl (R4.step (Step.ofBelow (I:=fun _=>False) o3 (b1 _ _)) (fun h=>h)) ⟨w4.heap.size,0,none⟩ 1 1 [.string x] rfl rfl ?c1 ?c2 (by decide) ?c4 ?c5 ?_)|go_in)
   case c1=>exact new_one _ _ _
   case c2=>exact one_one _ rfl
   case c4=>unfold maxLen;omega
   case c5=>omega
   intro g5 cap5 w5 o5 R5 S5;have D4':=D4.step (Step.ofBelow (I:=fun _=>False) o3 (b1 w4 (.cells #[.string x] 9))) (fun h=>h) (fun h=>h);have D5:=D4'.step S5 (by omega) (by omega);have S6:Step (fun k=>k=2\/k=q) w o w5 o5:=((S3.trans (S4.mono (fun k hk=>Or.inl hk))).trans (Step.ofBelow o3 (b1 w4 (.cells #[.string x] 9)))).trans (S5.mono (fun k hk=>Or.inr hk));have R6:Row w5 o5 q 9 1 (.slice (some ⟨g5,0,none⟩) (k+1) cap5) (k+1) (nsV (xs++[x])):=by
    have e:nsV (xs++[x])=nsV xs++[.string x]:=by simp[nsV]
    rw[e];exact R5
   have hxl2:(xs++[x]).length=k+1:=by simp[hxl]
   clear R5 S5 D4' R4 D4 S4 S3 R3 D3 HO;go_wp2;go_roundw
   case rel=>(try ((repeat apply Exists.intro);refine⟨?_,rfl⟩));exact⟨k+1,xs++[x],o5,st4,by go_num,by omega,hxl2,R6,D5,S6,HL2.out⟩
   case measure=>simp[intOf];omega
  ·have hkI:¬(k:Int)<(N:Int):=by omega
   have e:st.bind (rdL most (namR 12))=st3.map (fun l=>(xs,l)):=by
    rw[HL.out,show N-k=0 by omega,lef_zero]
   have HE:=Lib.hid e;clear e HL;have HX:=Lib.hid hxl;clear hxl;go_wp2;go_ret;exact⟨_,rfl,xs,o3,st3,by rw[HX.out];exact R3,D3,S3,HE.out,by have:=HX.out;omega⟩
theorem list_k (most:Nat)(hmost:most<=32768)(q:Nat)(hq:2<q)(w:World)(o:Nat->Nat)(rb sb:Nat)(hne:sb≠rb)(st:St)(h:RdW w o rb sb st) :
  Calls Tryd.prog 35 #[.pointer (some ⟨rb,0,none⟩),.int .i64 (most:Nat),.func (.func 39) #[.pointer (some ⟨rb,0,none⟩)] #[]] w (LstOut w o rb sb q 3 isV (rdL most (kndR 3)) st most):=by
 obtain⟨ii,hii,hz0,hz1,hz2⟩:=info_parts infoI;have HM:=atMost_c most (by omega) w o rb sb hne st h;have HST:=lef_start most (kndR 3) st;have hcl:=cnt_le most st;generalize val 0 (cntR most) st=N at *;generalize nxt (cntR most) st=st1 at *;have HH:=Lib.hid HST;clear HST h;go_enter Tryd.func35,Tryd.ntmps35;go_wp2_with (first|(go_at_call 47;refine HM.mono ?_;rintro e w1 ⟨rfl,R1,S1⟩));have S1':Step (fun k=>k=2\/k=q) w o w1 o:=S1.mono (fun k hk=>Or.inl hk);clear S1 HM;go_loopw [7,11] (fun va vi wr=>∃(k:Nat) (xs:List Int) (o3:Nat->Nat) (st3:St),vi=.int .i64 (k:Nat)/\k<=N/\xs.length=k/\Row wr o3 q 3 1 va k (isV xs)/\RdW wr o3 rb sb st3/\Step (fun k=>k=2\/k=q) w o wr o3/\Hid (st.bind (rdL most (kndR 3))=lef (kndR 3) (N-k) xs st3)) (fun _ vi _=>N-(intOf vi).toNat)
 case atStart=>exact⟨0,[],o,st1,by go_num,by omega,rfl,Row.nil _ _ _ _ _,R1,S1',HH.out⟩
 case round =>
  obtain⟨k,xs,o3,st3,rfl,hk,hxl,R3,D3,S3,HL⟩:=hrel;clear HH R1 S1';by_cases hlt:k<N
  ·have hkI:(k:Int)<(N:Int):=by omega
   have HO:=rkind_c wr o3 rb sb hne st3 D3;have HL2:Hid (st.bind (rdL most (kndR 3))=lef (kndR 3) (N-(k+1)) (xs++[val (0:Int) (kndR 3) st3]) (nxt (kndR 3) st3)):=by
    show _=_;rw[<-lef_next,show N-(k+1)+1=N-k by omega];exact HL.out
   generalize val (0:Int) (kndR 3) st3=x at *;generalize nxt (kndR 3) st3=st4 at *;clear HL;go_wp2_with (first|(go_at_call 39;refine HO.mono ?_;rintro e w4 ⟨rfl,D4,S4⟩;have R4:=R3.step S4 (by show ¬q=2;omega))|(at_builtin;refine wpList_append_lab rfl _ _ 25 rfl 3 ii (.int .i64 0) 1 8 Tryd.underlying25 hii hz0 hz1 hz2 rfl (by decide) o3 q _ k (isV xs) rfl (R4.step (Step.ofBelow (I:=fun _=>False) o3 (b1 _ _)) (fun h=>h)) ⟨w4.heap.size,0,none⟩ 1 1 [.int .i64 x] rfl rfl ?c1 ?c2 (by decide) ?c4 ?c5 ?_)|go_in)
   case c1=>exact new_one _ _ _
   case c2=>exact one_one _ rfl
   case c4=>unfold maxLen;omega
   case c5=>omega
   intro g5 cap5 w5 o5 R5 S5;have D4':=D4.step (Step.ofBelow (I:=fun _=>False) o3 (b1 w4 (.cells #[.int .i64 x] 3))) (fun h=>h) (fun h=>h);have D5:=D4'.step S5 (by omega) (by omega);have S6:Step (fun k=>k=2\/k=q) w o w5 o5:=((S3.trans (S4.mono (fun k hk=>Or.inl hk))).trans (Step.ofBelow o3 (b1 w4 (.cells #[.int .i64 x] 3)))).trans (S5.mono (fun k hk=>Or.inr hk));have R6:Row w5 o5 q 3 1 (.slice (some ⟨g5,0,none⟩) (k+1) cap5) (k+1) (isV (xs++[x])):=by
    have e:isV (xs++[x])=isV xs++[.int .i64 x]:=by simp[isV]
    rw[e];exact R5
   have hxl2:(xs++[x]).length=k+1:=by simp[hxl]
   clear R5 S5 D4' R4 D4 S4 S3 R3 D3 HO;go_wp2;go_roundw
   case rel=>(try ((repeat apply Exists.intro);refine⟨?_,rfl⟩));exact⟨k+1,xs++[x],o5,st4,by go_num,by omega,hxl2,R6,D5,S6,HL2.out⟩
   case measure=>simp[intOf];omega
  ·have hkI:¬(k:Int)<(N:Int):=by omega
   have e:st.bind (rdL most (kndR 3))=st3.map (fun l=>(xs,l)):=by
    rw[HL.out,show N-k=0 by omega,lef_zero]
   have HE:=Lib.hid e;clear e HL;have HX:=Lib.hid hxl;clear hxl;go_wp2;go_ret;exact⟨_,rfl,xs,o3,st3,by rw[HX.out];exact R3,D3,S3,HE.out,by have:=HX.out;omega⟩
end Go.Proofs.YtdhhnhjolmnkjabDoor

import Derived.Test.YtdhhnhjolmnkjaaDoorCodD
import Derived.Deep.MidRow
set_option maxRecDepth 100000
set_option maxHeartbeats 8000000
namespace Go.Proofs.YtdhhnhjolmnkjaaDoor
open Go.ChangeShapes Go.WideShapes Go.ChangeAt Go.RowKit
set_option linter.unusedVariables false
set_option linter.unusedSimpArgs false
theorem rgt_ok {c:Cd}(ho:c.Ok)(h:rgtB c=true):(∀ x ∈ c.ns,x.size<=1000)/\(∀ x ∈ c.ks,0<=x/\x<9223372036854775808)/\(∀ x ∈ c.ns,(namB x).length<=30):=by
 refine⟨fun x hx=>?_,fun x hx=>?_,fun x hx=>?_⟩
 ·have:=rgt_names h x hx;omega
 ·have:=rgt_kinds h x hx;omega
 ·have h1:=rgt_names h x hx;have h2:=sevs_len (x.size:Int);have h3:x.data.toList.length=x.size:=Array.length_toList;unfold namB;rw[List.length_append];omega
theorem sevs_30 (x:Int):(sevs x).length<=30:=by have:=sevs_len x;omega
theorem lst_len {α:Type}(f:α->List UInt8)(l:List α)(h:∀ x ∈ l,(f x).length<=30):(lst f l).length<=10+30*l.length:=by
 have h1:=sevs_len (l.length:Int);have h2:=flat_len f l h l.length;rw[List.take_length] at h2;unfold lst;rw[List.length_append];omega
abbrev markA:Array Value:=#[.int .u8 73,.int .u8 67,.int .u8 49]
theorem mark_src (w:World)(o:Nat->Nat)(g:Nat)(hg:w.heap.size=g):SrB (w.alloc (.cells markA 5 (3,4))) o (.slice (some ⟨g,0,none⟩) 3 3) [73,67,49]:=by
 subst hg;have hh:=heap_alloc_new w (.cells markA 5 (3,4));refine .inr ⟨w.heap.size,rfl,by simp,fun j u hj=>?_⟩;unfold World.cell?;rw[hh]
 match j,hj with
 | 0,hj=>simp[byL] at hj;subst hj;rfl
 | 1,hj=>simp[byL] at hj;subst hj;rfl
 | 2,hj=>simp[byL] at hj;subst hj;rfl
theorem mark_conv (w:World)(g:Nat)(hg:w.heap.size=g):(convert 44 44 (.slice (some ⟨g,0,none⟩) 3 3)).run Tryd.prog (w.alloc (.cells markA 5))=.ok (.slice (some ⟨g,0,none⟩) 3 3) (w.alloc (.cells markA 5 (3,4))):=by
 subst hg;exact Go.Lib.run_convert_bytes_const w 44 5 markA 3 3 Tryd.underlying44 Tryd.underlying5
theorem RwB.pos {w:World}{o:Nat->Nat}{v:Value}{t:List UInt8}(h:RwB w o v t)(hn:0<t.length):∃g cap,v=.slice (some ⟨g,0,none⟩) t.length cap/\o g=1/\(convert 44 9 (.slice (some ⟨g,0,none⟩) t.length cap)).run Tryd.prog w=.ok (.string ⟨t.toArray⟩) w:=by
 obtain⟨g,cap,rfl,h1,-⟩:=Row.pos h hn;exact⟨g,cap,rfl,h1,owned_text h.1⟩
theorem Lsv.lab {w:World}{ao:Option Addr}{xs:List Value}(h:Lsv w ao xs)(hx:xs≠[]){b off:Nat}(e:ao=some ⟨b,off,none⟩):b<w.heap.size:=by
 rcases h with h|⟨b',off',e',hlt,_⟩
 ·exact absurd h hx
 ·rw[e'] at e;simp at e;omega
theorem body_c (p:Pl)(c:Cd)(w:World)(hC:CdW w p c)(hr:rgtB c=true) :
  Calls Tryd.prog 27 #[cdV p c] w fun e w'=>e=.returned (.string ⟨(bodB c).toArray⟩)/\Below w.heap.size w w':=by
 obtain⟨l0,l1,l2,l3,l4⟩:=rgt_lens hr;obtain⟨hns,hks,hnl⟩:=rgt_ok hC.ok hr;have len1:=lst_len sevs c.ws (fun x _=>sevs_30 x);have len2:=lst_len conB c.cs (fun x _=>sevs_30 _);have len3:=lst_len namB c.ns hnl;obtain⟨w1,hw1⟩:∃w1,w1=w.alloc (.cells (cdA p c) 26):=⟨_,rfl⟩
 obtain⟨b0,hb0⟩:∃b0,b0=w.heap.size:=⟨_,rfl⟩
 have B1:Below w.heap.size w w1:=by rw[hw1];exact b1 _ _
 have K1:bx4 p c w1 b0:=by rw[hw1,hb0];exact bx4_new p c w
 have L1:b0<w1.heap.size:=by rw[hw1,hb0];simp
 have C1:=hC.below B1;have HB0:Hid (b0=w.heap.size):=hb0;clear hb0 hC;have hg:w1.heap.size=b0+1:=by rw[hw1,HB0.out];simp
 have kc:=mark_conv w1 _ hg;obtain⟨w2,hw2⟩:∃w2,w2=w1.alloc (.cells markA 5 (3,4)):=⟨_,rfl⟩
 obtain⟨o,ho⟩:∃o,o=newLab w1 (fun _=>0) 1:=⟨_,rfl⟩
 have R2:SrB w2 o (.slice (some ⟨b0+1,0,none⟩) 3 3) [73,67,49]:=by rw[hw2];exact mark_src w1 o _ hg
 have B2:Below w1.heap.size w1 w2:=by rw[hw2];exact b1 _ _
 have hol:∀ k,k<w1.heap.size->¬o k=1:=fun k hk=>by rw[ho,newLab_old hk];omega
 have S2:Step (fun k=>k=1) w1 o w2 o:=Step.ofBelow o B2;clear hg ho B2;have KS:∀ {w3:World}{o3:Nat->Nat},Step (fun k=>k=1) w1 o w3 o3->bx4 p c w3 b0/\CdW w3 p c/\(∀ k,k<w1.heap.size->o3 k≠1):=fun {w3 o3} s=>by
  have B:=s.below hol;exact⟨bx4_below K1 L1 B,C1.below B,fun k hk=>by rw[s.lab k hk];exact hol k hk⟩
 have LW:∀ {o3:Nat->Nat},(∀ k,k<w1.heap.size->o3 k≠1)->∀ b off,c.ws≠[]->p.aw=some ⟨b,off,none⟩->o3 b≠1:=fun {o3} h b off hx e=>h b (C1.ws.lab (by simpa [wsV] using hx) e);have LC:∀ {o3:Nat->Nat},(∀ k,k<w1.heap.size->o3 k≠1)->∀ b off,c.cs≠[]->p.ac=some ⟨b,off,none⟩->o3 b≠1:=fun {o3} h b off hx e=>h b (C1.cs.lab (by simpa [isV] using hx) e);have LN:∀ {o3:Nat->Nat},(∀ k,k<w1.heap.size->o3 k≠1)->∀ b off,c.ns≠[]->p.an=some ⟨b,off,none⟩->o3 b≠1:=fun {o3} h b off hx e=>h b (C1.ns.lab (by simpa [nsV] using hx) e);have LK:∀ {o3:Nat->Nat},(∀ k,k<w1.heap.size->o3 k≠1)->∀ b off,c.ks≠[]->p.ak=some ⟨b,off,none⟩->o3 b≠1:=fun {o3} h b off hx e=>h b (C1.ks.lab (by simpa [isV] using hx) e);have HW:∀ (w3:World) (o3:Nat->Nat) (v:Value) (t:List UInt8),Step (fun k=>k=1) w1 o w3 o3->SrB w3 o3 v t->t.length<=10000000->Calls Tryd.prog 42 #[v,.slice p.aw c.ws.length p.cw,.func (.func 43) #[] #[]] w3 fun e w'=>∃v',e=.returned v'/\∃o',RwB w' o' v' (t++lst sevs c.ws)/\Step (fun k=>k=1) w1 o w' o':=fun w3 o3 v t s r ht=>by
  obtain⟨-,k2,k3⟩:=KS s;exact(lay_w w3 o3 v t p.aw p.cw c.ws r k2.ws (LW k3) l1 ht k2.ok.ws (fun x _=>sevs_30 x)).mono fun e w' ⟨v',e1,o',r',s'⟩=>⟨v',e1,o',r',s.trans s'⟩
 have HC:∀ (w3:World) (o3:Nat->Nat) (v:Value) (t:List UInt8),Step (fun k=>k=1) w1 o w3 o3->SrB w3 o3 v t->t.length<=10000000->Calls Tryd.prog 44 #[v,.slice p.ac c.cs.length p.cc,.func (.func 45) #[] #[]] w3 fun e w'=>∃v',e=.returned v'/\∃o',RwB w' o' v' (t++lst conB c.cs)/\Step (fun k=>k=1) w1 o w' o':=fun w3 o3 v t s r ht=>by
  obtain⟨-,k2,k3⟩:=KS s;exact(lay_c w3 o3 v t p.ac p.cc c.cs r k2.cs (LC k3) l2 ht k2.ok.cs (fun x _=>sevs_30 _)).mono fun e w' ⟨v',e1,o',r',s'⟩=>⟨v',e1,o',r',s.trans s'⟩
 have HN:∀ (w3:World) (o3:Nat->Nat) (v:Value) (t:List UInt8),Step (fun k=>k=1) w1 o w3 o3->SrB w3 o3 v t->t.length<=10000000->Calls Tryd.prog 46 #[v,.slice p.an c.ns.length p.cn,.func (.func 47) #[] #[]] w3 fun e w'=>∃v',e=.returned v'/\∃o',RwB w' o' v' (t++lst namB c.ns)/\Step (fun k=>k=1) w1 o w' o':=fun w3 o3 v t s r ht=>by
  obtain⟨-,k2,k3⟩:=KS s;exact(lay_n w3 o3 v t p.an p.cn c.ns r k2.ns (LN k3) (by omega) ht hns hnl).mono fun e w' ⟨v',e1,o',r',s'⟩=>⟨v',e1,o',r',s.trans s'⟩
 have HK:∀ (w3:World) (o3:Nat->Nat) (v:Value) (t:List UInt8),Step (fun k=>k=1) w1 o w3 o3->SrB w3 o3 v t->t.length<=10000000->Calls Tryd.prog 44 #[v,.slice p.ak c.ks.length p.ck,.func (.func 48) #[] #[]] w3 fun e w'=>∃v',e=.returned v'/\∃o',RwB w' o' v' (t++lst sevs c.ks)/\Step (fun k=>k=1) w1 o w' o':=fun w3 o3 v t s r ht=>by
  obtain⟨-,k2,k3⟩:=KS s;exact(lay_k w3 o3 v t p.ak p.ck c.ks r k2.ks (LK k3) (by omega) ht hks (fun x _=>sevs_30 x)).mono fun e w' ⟨v',e1,o',r',s'⟩=>⟨v',e1,o',r',s.trans s'⟩
 have HE:Hid (bodB c=[73,67,49]++lst sevs c.ws++lst conB c.cs++lst namB c.ns++lst sevs c.ks):=rfl;have len5:0<(bodB c).length:=by rw[HE.out];simp only[List.length_append,List.length_cons,List.length_nil];omega
 obtain⟨k0,k1,k2,k3⟩:=(KS S2).1;have bd3:([73,67,49]:List UInt8).length<=10000000:=by decide
 have bd4:([73,67,49]++lst sevs c.ws).length<=10000000:=by simp only[List.length_append,List.length_cons,List.length_nil];omega
 have bd5:([73,67,49]++lst sevs c.ws++lst conB c.cs).length<=10000000:=by simp only[List.length_append,List.length_cons,List.length_nil];omega
 have bd6:([73,67,49]++lst sevs c.ws++lst conB c.cs++lst namB c.ns).length<=10000000:=by simp only[List.length_append,List.length_cons,List.length_nil];omega
 clear len1 len2 len3 LW LC LN LK;go_enter Tryd.func27,Tryd.ntmps27;go_wp2_with fail;rw[<-hw1,<-HB0.out];clear hw1;go_wp2_with fail;rw[kc,<-hw2];clear hw2 K1 kc;go_wp2_with fail;refine(HW _ _ _ _ S2 R2 bd3).mono ?_;rintro e w3 ⟨v3,rfl,o3,R3,S3⟩;obtain⟨q0,q1,q2,q3⟩:=(KS S3).1;have HC3:=HC _ _ _ _ S3 (.inl R3) bd4;clear HW R2 S2 R3 S3 HC k0 k1 k2 k3;go_wp2_with fail;refine HC3.mono ?_;rintro e w4 ⟨v4,rfl,o4,R4,S4⟩;clear HC3 q0 q1 q2 q3;obtain⟨q0,q1,q2,q3⟩:=(KS S4).1;have HN4:=HN _ _ _ _ S4 (.inl R4) bd5;clear HN R4 S4;go_wp2_with fail;refine HN4.mono ?_;rintro e w5 ⟨v5,rfl,o5,R5,S5⟩;clear HN4 q0 q1 q2 q3;obtain⟨q0,q1,q2,q3⟩:=(KS S5).1;have HK5:=HK _ _ _ _ S5 (.inl R5) bd6;clear HK R5 S5;rw[<-HE.out] at HK5;go_wp2_with fail;refine HK5.mono ?_;rintro e w6 ⟨v6,rfl,o6,R6,S6⟩;clear HK5 q0 q1 q2 q3;obtain⟨g6,c6,rfl,-,hcv⟩:=R6.pos len5;have B6:=S6.below hol;clear R6 S6 KS;go_wp2;go_ret;exact⟨rfl,B1.trans (B6.mono B1.size)⟩
theorem sum_c (s:ByteArray)(w:World)(hs:s.size<=maxLen) :
  Calls Tryd.prog 28 #[.string s] w fun e w'=>e=.returned (.int .u64 (sumB s.data.toList))/\w'=w:=by
 unfold maxLen at hs;go_enter Tryd.func28,Tryd.ntmps28;go_wp2_with fail;go_loopw [3,7] (fun h i wr=>∃k:Nat,∃x:Int,i=.int .i64 (k:Nat)/\h=.int .u64 x/\k<=s.size/\Hid (x=sumB (s.data.toList.take k))/\0<=x/\x<18446744073709551616/\wr=w) (fun _ i _=>s.size-(intOf i).toNat)
 case atStart=>exact⟨0,0,by go_num,rfl,by omega,rfl,by omega,by omega,rfl⟩
 case round =>
  obtain⟨k,x,rfl,rfl,hk,HX,hx1,hx2,rfl⟩:=hrel;by_cases hlt:k<s.size
  ·have hkI:(k:Int)<(s.size:Int):=by omega
   have hll:k<s.data.toList.length:=by rw[data_len];exact hlt
   have hb:(s[k]'hlt).toNat<256:=UInt8.toNat_lt _;have HN:Hid (mx x (zg ((s[k]'hlt).toNat:Int))=sumB (s.data.toList.take (k+1))):=by
    show _=_;rw[List.take_succ_eq_append_getElem hll,sumB,stir_snoc,HX.out,data_get s k hlt hll];rfl
   have MX:=mix_any x ((s[k]'hlt).toNat:Int) wr hx1 hx2 (by omega) (by omega);have bd:=mx_bd x (zg ((s[k]'hlt).toNat:Int));generalize mx x (zg ((s[k]'hlt).toNat:Int))=y at MX bd HN;go_wp2_with (go_at_call 49;refine MX.mono ?_;rintro e w1 ⟨rfl,rfl⟩);go_roundw
   case rel=>(try ((repeat apply Exists.intro);refine⟨?_,rfl⟩));exact⟨k+1,y,by go_num,rfl,by omega,HN.out,bd.1,bd.2,by trivial⟩
   case measure=>simp[intOf];omega
  ·have hkI:¬(k:Int)<(s.size:Int):=by omega
   have fin:x=sumB s.data.toList:=by
    rw[HX.out,List.take_of_length_le (by rw[data_len];omega)]
   have FN:=Lib.hid fin;clear fin;go_wp2;go_ret;exact⟨by rw[<-FN.out];rfl,rfl⟩
def selV (h:Int)(k:Nat):List Value:=(List.range 8).map fun i=>if i<k then Value.int .u8 ((UInt8.ofNat (h.toNat / 256 ^ i)).toNat:Int) else .int .u8 0
theorem selV_len (h:Int)(k:Nat):(selV h k).length=8:=by simp[selV]
theorem selV_set (h:Int)(k:Nat)(hk:k<8):(selV h k).set k (.int .u8 ((UInt8.ofNat (h.toNat / 256 ^ k)).toNat:Int))=selV h (k+1):=by
 apply List.ext_getElem?;intro i;rw[List.getElem?_set];by_cases hi:i<8
 ·simp only[selV,List.getElem?_map,List.getElem?_range hi,Option.map_some,List.length_map,List.length_range];by_cases e:k=i
  ·subst e;simp[hk]
  ·rw[if_neg e];by_cases h1:i<k
   ·simp[h1,show i<k+1 by omega]
   ·simp[h1,show ¬i<k+1 by omega]
 ·rw[if_neg (by omega),List.getElem?_eq_none (by rw[selV_len];omega),List.getElem?_eq_none (by rw[selV_len];omega)]
theorem selV_all (h:Int):selV h 8=byL (selB h):=by
 simp only[selV,byL,selB,List.map_map];apply List.map_congr_left;intro i hi;rw[List.mem_range] at hi;simp[hi]
theorem sel_byte (h:Int)(k:Nat)(h1:0<=h):IntKind.u8.wrap (h / 2 ^ (8*k))=((UInt8.ofNat (h.toNat / 256 ^ k)).toNat:Int):=by
 obtain⟨n,rfl⟩:=Int.eq_ofNat_of_zero_le h1;have e:((2:Int) ^ (8*k))=((256 ^ k:Nat):Int):=by
  rw[show (256:Nat)=2 ^ 8 by decide,<-Nat.pow_mul];simp
 rw[e,IntKind.wrap_u8,UInt8.toNat_ofNat',Int.toNat_natCast]
 have:((n:Int) / ((256 ^ k:Nat):Int))=((n / 256 ^ k:Nat):Int):=by simp
 rw[this];omega
theorem sealed_c (s:ByteArray)(w:World)(hs:s.size<=140737488355328) :
  Calls Tryd.prog 26 #[.string s] w fun e w'=>e=.returned (.string ⟨(sldB s.data.toList).toArray⟩)/\Below w.heap.size w w':=by
 have hs':s.size<=maxLen:=by unfold maxLen;omega
 have HS:=sum_c s w hs';obtain⟨hb1,hb2⟩:=sumB_bd s.data.toList;have HR:Hid (sldB s.data.toList=s.data.toList++selB (sumB s.data.toList)):=rfl;generalize sumB s.data.toList=h at *;go_enter Tryd.func26,Tryd.ntmps26;go_wp2_with (go_at_call 28;refine HS.mono ?_;rintro e w1 ⟨rfl,rfl⟩);obtain⟨wa,hwa⟩:∃wa,wa=w1.alloc (.cells #[.int .u8 0,.int .u8 0,.int .u8 0,.int .u8 0,.int .u8 0,.int .u8 0,.int .u8 0,.int .u8 0] 70):=⟨_,rfl⟩
 obtain⟨g,hg0⟩:∃g,g=w1.heap.size:=⟨_,rfl⟩
 have G0:wa.heap[g]?=some (.cells (selV h 0).toArray 70 (0,0)):=by rw[hwa,hg0];exact heap_alloc_new _ _
 have BA:Below g w1 wa:=by rw[hwa,hg0];exact b1 _ _
 rw[<-hwa,<-hg0];have HG0:=Lib.hid hg0;clear hwa hg0;go_loopw [8] (fun v wr=>∃k:Nat,v=.int .i64 (k:Nat)/\k<=8/\wr.heap[g]?=some (.cells (selV h k).toArray 70 (0,0))/\Below g w1 wr) (fun v _=>8-(intOf v).toNat)
 case atStart=>exact⟨0,by go_num,by omega,G0,BA⟩
 case round =>
  obtain⟨k,rfl,hk,hg,hB⟩:=hrel;clear G0 BA;by_cases hlt:k<8
  ·have hkI:(k:Int)<8:=by omega
   have hcl:(selV h k)[k]?=some ((selV h k)[k]'(by rw[selV_len];exact hlt)):=List.getElem?_eq_getElem _;obtain⟨z,hz⟩:∃z,(selV h k)[k]?=some z:=⟨_,hcl⟩
   have hc:wr.cell? ⟨g,k,none⟩=some z:=by simp[World.cell?,hg,hz]
   have hf:wr.frozen? ⟨g,k,none⟩=false:=by simp[World.frozen?,hg]
   have eb:=sel_byte h k hb1;have HN:Hid ((wr.setCell ⟨g,k,none⟩ (.int .u8 ((UInt8.ofNat (h.toNat / 256 ^ k)).toNat:Int))).heap[g]?=some (.cells (selV h (k+1)).toArray 70 (0,0))):=by
    show _=_;rw[<-selV_set h k hlt,heap_setCell_same wr g k _ _ _ hg];simp
   have HB:Hid (Below g w1 (wr.setCell ⟨g,k,none⟩ (.int .u8 ((UInt8.ofNat (h.toNat / 256 ^ k)).toNat:Int)))):=hB.setCell (Nat.le_refl _) _;clear hcl hg;obtain⟨z2,hz2⟩:∃z2,z2=((UInt8.ofNat (h.toNat / 256 ^ k)).toNat:Int):=⟨_,rfl⟩
   rw[<-hz2] at HN HB eb;clear hz2;go_wp2;go_roundw
   case rel=>(try ((repeat apply Exists.intro);refine⟨?_,rfl⟩));exact⟨k+1,by go_num,by omega,by (try rw[eb]);exact HN.out,by (try rw[eb]);exact HB.out⟩
   case measure=>simp[intOf];omega
  ·obtain rfl:k=8:=by omega
   rw[selV_all] at hg;have hcv:=run_convert_bytes_back wr 44 9 5 ⟨g,0,none⟩ 8 (selB h) Tryd.underlying44 Tryd.underlying5 Tryd.underlying9 (fun j hj=>by
    rw[Addr.add_mid,Nat.zero_add];simp[World.cell?,hg,byL,hj])
   rw[selB_len] at hcv;have HE:Hid (s++(⟨(selB h).toArray⟩:ByteArray)=⟨(s.data.toList++selB h).toArray⟩):=by
    show _=_;apply ByteArray.ext;simp[ByteArray.data_append]
   have hz:(⟨(selB h).toArray⟩:ByteArray).size=8:=by rw[size_mk,selB_len]
   have hzz:¬maxLen<s.size+(⟨(selB h).toArray⟩:ByteArray).size:=by rw[hz];unfold maxLen;omega
   clear hg;generalize (⟨(selB h).toArray⟩:ByteArray)=sb at *;go_wp2;go_ret;exact⟨by rw[HR.out,<-HE.out];rfl,by rw[<-HG0.out];exact hB⟩
theorem body_len {c:Cd}(ho:c.Ok)(h:rgtB c=true):(bodB c).length<=10000000:=by
 obtain⟨l0,l1,l2,l3,l4⟩:=rgt_lens h;obtain⟨hns,hks,hnl⟩:=rgt_ok ho h;have len1:=lst_len sevs c.ws (fun x _=>sevs_30 x);have len2:=lst_len conB c.cs (fun x _=>sevs_30 _);have len3:=lst_len namB c.ns hnl;have len4:=lst_len sevs c.ks (fun x _=>sevs_30 x);unfold bodB;simp only[List.length_append,List.length_cons,List.length_nil];omega
def encR (c:Cd):Value:=if rgtB c then .tuple #[.string ⟨(encB c).toArray⟩,.int .i64 0] else .tuple #[.string ⟨#[]⟩,.int .i64 180]
def smR (c:Cd):Int:=if rgtB c then sumB (bodB c) else 0
theorem encode_c (p:Pl)(c:Cd)(w:World)(hF:Fx w)(hC:CdW w p c) :
  Calls Tryd.prog 12 #[cdV p c] w fun e w'=>e=.returned (encR c)/\Below w.heap.size w w':=by
 obtain⟨w1,hw1⟩:∃w1,w1=w.alloc (.cells (cdA p c) 26):=⟨_,rfl⟩
 obtain⟨b0,hb0⟩:∃b0,b0=w.heap.size:=⟨_,rfl⟩
 have B1:Below w.heap.size w w1:=by rw[hw1];exact b1 _ _
 have K1:bx4 p c w1 b0:=by rw[hw1,hb0];exact bx4_new p c w
 have L1:b0<w1.heap.size:=by rw[hw1,hb0];simp
 have F1:=hF.below B1;have C1:=hC.below B1;have HB0:Hid (b0=w.heap.size):=hb0;clear hb0 hF hC;obtain⟨k0,k1,k2,k3⟩:=K1;have R1:=right_c p c w1 F1 C1;cases hr:rgtB c
 ·rw[hr] at R1;have fin:encR c=.tuple #[.string ⟨#[]⟩,.int .i64 180]:=by simp[encR,hr]
  rw[fin];go_enter Tryd.func12,Tryd.ntmps12;go_wp2_with fail;rw[<-hw1,<-HB0.out];clear hw1;go_wp2_with (go_at_call 11;refine R1.mono ?_;rintro e w2 ⟨rfl,B2⟩);go_ret2;exact⟨rfl,by first|(rw[HB0.out];exact B1.trans (B2.mono B1.size))|exact B1.trans (B2.mono B1.size)⟩
 ·rw[hr] at R1;have fin:encR c=.tuple #[.string ⟨(sldB (bodB c)).toArray⟩,.int .i64 0]:=by simp[encR,hr,encB]
  rw[fin];have BD:=fun w2 C2=>body_c p c w2 C2 hr;have hbl:=body_len C1.ok hr;have SD:=fun w3=>sealed_c ⟨(bodB c).toArray⟩ w3 (by rw[size_mk];omega);have e1:(⟨(bodB c).toArray⟩:ByteArray).data.toList=bodB c:=by simp
  rw[e1] at SD;generalize sldB (bodB c)=ZZ at *;go_enter Tryd.func12,Tryd.ntmps12;go_wp2_with fail;rw[<-hw1,<-HB0.out];clear hw1;go_wp2_with (first|(go_at_call 11;refine R1.mono ?_;rintro e w2 ⟨rfl,B2⟩;have C2:=C1.below B2;obtain⟨q0,q1,q2,q3⟩:=bx4_below ⟨k0,k1,k2,k3⟩ L1 B2)|(go_at_call 27;refine(BD _ C2).mono ?_;rintro e w3 ⟨rfl,B3⟩)|(go_at_call 26;refine(SD _).mono ?_;rintro e w4 ⟨rfl,B4⟩));go_ret2;have BB:=B1.trans ((B2.trans ((B3.trans (B4.mono B3.size)).mono B2.size)).mono B1.size);exact⟨rfl,by first|(rw[HB0.out];exact BB)|exact BB⟩
theorem sumc_c (p:Pl)(c:Cd)(w:World)(hF:Fx w)(hC:CdW w p c) :
  Calls Tryd.prog 13 #[cdV p c] w fun e w'=>e=.returned (.int .u64 (smR c))/\Below w.heap.size w w':=by
 obtain⟨w1,hw1⟩:∃w1,w1=w.alloc (.cells (cdA p c) 26):=⟨_,rfl⟩
 obtain⟨b0,hb0⟩:∃b0,b0=w.heap.size:=⟨_,rfl⟩
 have B1:Below w.heap.size w w1:=by rw[hw1];exact b1 _ _
 have K1:bx4 p c w1 b0:=by rw[hw1,hb0];exact bx4_new p c w
 have L1:b0<w1.heap.size:=by rw[hw1,hb0];simp
 have F1:=hF.below B1;have C1:=hC.below B1;have HB0:Hid (b0=w.heap.size):=hb0;clear hb0 hF hC;obtain⟨k0,k1,k2,k3⟩:=K1;have R1:=right_c p c w1 F1 C1;cases hr:rgtB c
 ·rw[hr] at R1;have fin:smR c=0:=by simp[smR,hr]
  rw[fin];go_enter Tryd.func13,Tryd.ntmps13;go_wp2_with fail;rw[<-hw1,<-HB0.out];clear hw1;go_wp2_with (go_at_call 11;refine R1.mono ?_;rintro e w2 ⟨rfl,B2⟩);go_ret;exact⟨rfl,by first|(rw[HB0.out];exact B1.trans (B2.mono B1.size))|exact B1.trans (B2.mono B1.size)⟩
 ·rw[hr] at R1;have fin:smR c=sumB (bodB c):=by simp[smR,hr]
  rw[fin];have BD:=fun w2 C2=>body_c p c w2 C2 hr;have hbl:=body_len C1.ok hr;have SD:=fun w3=>sum_c ⟨(bodB c).toArray⟩ w3 (by rw[size_mk];unfold maxLen;omega);have e1:(⟨(bodB c).toArray⟩:ByteArray).data.toList=bodB c:=by simp
  rw[e1] at SD;generalize sumB (bodB c)=ZZ at *;go_enter Tryd.func13,Tryd.ntmps13;go_wp2_with fail;rw[<-hw1,<-HB0.out];clear hw1;go_wp2_with (first|(go_at_call 11;refine R1.mono ?_;rintro e w2 ⟨rfl,B2⟩;have C2:=C1.below B2;obtain⟨q0,q1,q2,q3⟩:=bx4_below ⟨k0,k1,k2,k3⟩ L1 B2)|(go_at_call 27;refine(BD _ C2).mono ?_;rintro e w3 ⟨rfl,B3⟩)|(go_at_call 28;refine(SD _).mono ?_;rintro e w4 ⟨rfl,rfl⟩));go_ret;have BB:=B1.trans ((B2.trans (B3.mono B2.size)).mono B1.size);exact⟨rfl,by first|(rw[HB0.out];exact BB)|exact BB⟩
open Go.RowKit
abbrev St:=Option (List UInt8)
def nxt {α:Type}(one:List UInt8->Option (α × List UInt8))(st:St):St:=(st.bind one).map (·.2)
def val {α:Type}(d:α)(one:List UInt8->Option (α × List UInt8))(st:St):α:=((st.bind one).map (·.1)).getD d
theorem val_none {α:Type}(d:α)(one:List UInt8->Option (α × List UInt8)):val d one none=d:=rfl
theorem nxt_ok {α:Type}{one:List UInt8->Option (α × List UInt8)}{l r:List UInt8}{x:α}(h:one l=some (x,r)):nxt one (some l)=some r:=by simp[nxt,h]
theorem val_ok {α:Type}{d:α}{one:List UInt8->Option (α × List UInt8)}{l r:List UInt8}{x:α}(h:one l=some (x,r)):val d one (some l)=x:=by simp[val,h]
theorem nxt_no {α:Type}{one:List UInt8->Option (α × List UInt8)}{l:List UInt8}(h:one l=none):nxt one (some l)=none:=by simp[nxt,h]
theorem val_no {α:Type}{d:α}{one:List UInt8->Option (α × List UInt8)}{l:List UInt8}(h:one l=none):val d one (some l)=d:=by simp[val,h]
def lef {α:Type}(one:List UInt8->Option (α × List UInt8))(m:Nat)(xs:List α)(st:St):Option (List α × List UInt8):=(st.bind (rdN one m)).map fun y=>(xs++y.1,y.2)
theorem lef_zero {α:Type}(one:List UInt8->Option (α × List UInt8))(xs:List α)(st:St):lef one 0 xs st=st.map fun l=>(xs,l):=by
 cases st<;>simp[lef,rdN]
theorem lef_next {α:Type}(d:α)(one:List UInt8->Option (α × List UInt8))(m:Nat)(xs:List α)(st:St):lef one (m+1) xs st=lef one m (xs++[val d one st]) (nxt one st):=by
 cases st with
 | none=>rfl
 | some l =>
  cases h:one l with
  | none=>simp[lef,rdN,h,nxt]
  | some x =>
   obtain⟨x,r⟩:=x;simp only[lef,nxt,val,Option.bind_some,rdN,h,Option.map_some,Option.getD_some];cases rdN one m r with
   | none=>rfl
   | some y=>simp
theorem lef_start {α:Type}(most:Nat)(one:List UInt8->Option (α × List UInt8))(st:St):st.bind (rdL most one)=lef one (val 0 (cntR most) st) [] (nxt (cntR most) st):=by
 cases st with
 | none=>rfl
 | some l =>
  simp only[Option.bind_some,rdL];cases h:cntR most l with
  | none=>rw[nxt_no h,val_no h];rfl
  | some x =>
   obtain⟨n,r⟩:=x;rw[nxt_ok h,val_ok h];simp[lef]
theorem cnt_le (most:Nat)(st:St):val 0 (cntR most) st<=most:=by
 cases st with
 | none=>exact Nat.zero_le _
 | some l =>
  cases h:cntR most l with
  | none=>rw[val_no h];exact Nat.zero_le _
  | some x=>obtain⟨n,r⟩:=x;rw[val_ok h];exact(cntR_back h).2
theorem numR_lt (st:St):val 0 numR st<18446744073709551616:=by
 cases st with
 | none=>rw[val_none];omega
 | some l =>
  cases h:numR l with
  | none=>rw[val_no h];omega
  | some x=>obtain⟨n,r⟩:=x;rw[val_ok h];exact(numR_back h).2
theorem cnt_val (most:Nat)(st:St)(h:val 0 numR st<=most):val 0 (cntR most) st=val 0 numR st/\nxt (cntR most) st=nxt numR st:=by
 cases st with
 | none=>exact⟨rfl,rfl⟩
 | some l =>
  cases hn:numR l with
  | none =>
   have:cntR most l=none:=by simp[cntR,hn]
   rw[val_no hn,nxt_no hn,val_no this,nxt_no this];exact⟨rfl,rfl⟩
  | some x =>
   obtain⟨n,r⟩:=x;rw[val_ok hn] at h
   have:cntR most l=some (n,r):=by simp[cntR,hn,h]
   rw[val_ok hn,nxt_ok hn,val_ok this,nxt_ok this];exact⟨rfl,rfl⟩
theorem cnt_over (most:Nat)(st:St)(h:¬val 0 numR st<=most):val 0 (cntR most) st=0/\nxt (cntR most) st=none:=by
 cases st with
 | none=>exact⟨rfl,rfl⟩
 | some l =>
  cases hn:numR l with
  | none=>rw[val_no hn] at h;omega
  | some x =>
   obtain⟨n,r⟩:=x;rw[val_ok hn] at h
   have:cntR most l=none:=by simp[cntR,hn,h]
   rw[val_no this,nxt_no this];exact⟨rfl,rfl⟩
theorem wrd_val (st:St):val (0:Int) wrdR st=(val 0 numR st:Nat)/\nxt wrdR st=nxt numR st:=by
 cases st with
 | none=>exact⟨rfl,rfl⟩
 | some l=>cases h:numR l<;>simp[val,nxt,wrdR,h]
theorem con_val (st:St):val (0:Int) conR st=zgb (val 0 numR st:Nat)/\nxt conR st=nxt numR st:=by
 cases st with
 | none=>exact⟨rfl,rfl⟩
 | some l=>cases h:numR l<;>simp[val,nxt,conR,h,zgb]
theorem knd_val (mk:Nat)(st:St):val (0:Int) (kndR mk) st=(val 0 (cntR mk) st:Nat)/\nxt (kndR mk) st=nxt (cntR mk) st:=by
 cases st with
 | none=>exact⟨rfl,rfl⟩
 | some l=>cases h:cntR mk l<;>simp[val,nxt,kndR,h]
theorem nam_val (mn:Nat)(st:St):val (⟨#[]⟩:ByteArray) (namR mn) st=⟨(val [] (takR (val 0 (cntR mn) st)) (nxt (cntR mn) st)).toArray⟩/\nxt (namR mn) st=nxt (takR (val 0 (cntR mn) st)) (nxt (cntR mn) st):=by
 cases st with
 | none=>exact⟨rfl,rfl⟩
 | some l =>
  cases h:cntR mn l with
  | none=>simp[val,nxt,namR,h]
  | some x =>
   obtain⟨n,r⟩:=x;cases h2:takR n r<;>simp[val,nxt,namR,h,h2]
theorem rdC_st (mn mk:Nat)(st:St):st.bind (rdC mn mk) =
  ((nxt (fun l=>(takR 3 l).bind fun m=>if m.1=[73,67,49] then some m else none) st).bind (rdL 32768 wrdR)).bind fun a=>(rdL 32768 conR a.2).bind fun b=>(rdL 2000 (namR mn) b.2).bind fun c=>(rdL 256 (kndR mk) c.2).map fun d=>(⟨a.1,b.1,c.1,d.1⟩,d.2):=by
 cases st with
 | none=>rfl
 | some l =>
  simp only[Option.bind_some,rdC,nxt];cases h:takR 3 l with
  | none=>rfl
  | some m =>
   simp only[Option.bind_some];split<;>rfl
def Byt (w:World)(o:Nat->Nat)(v:Value)(t:List UInt8):Prop:=∃ao cap,v=.slice ao t.length cap/\Lsv w ao (byL t)/\∀ b off,t≠[]->ao=some ⟨b,off,none⟩->o b=0
theorem Byt.text {w:World}{o:Nat->Nat}{v:Value}{t:List UInt8}(h:Byt w o v t):(convert 44 9 v).run Tryd.prog w=.ok (.string ⟨t.toArray⟩) w:=by
 obtain⟨ao,cap,rfl,h,-⟩:=h;rcases h with h|⟨b,off,rfl,hlt,hc⟩
 ·have ht:t=[]:=by cases t with|nil=>rfl|cons x y=>simp[byL] at h
  subst ht;cases ao with
  | none=>exact run_convert_bytes_nil w 44 5 Tryd.underlying44 Tryd.underlying5 _ _ 9 Tryd.underlying9
  | some a=>exact run_convert_bytes_back w 44 9 5 a cap [] Tryd.underlying44 Tryd.underlying5 Tryd.underlying9 (fun j hj=>by simp at hj)
 ·exact run_convert_bytes_back w 44 9 5 ⟨b,off,none⟩ cap t Tryd.underlying44 Tryd.underlying5 Tryd.underlying9 (fun j hj=>by
   rw[Addr.add_mid];exact hc j _ (by simp[byL,hj]))
theorem Byt.step {I:Nat->Prop}{w w':World}{o o':Nat->Nat}{v:Value}{t:List UInt8}(h:Byt w o v t)(s:Step I w o w' o')(h0:¬I 0):Byt w' o' v t:=by
 obtain⟨ao,cap,rfl,h,hl⟩:=h;rcases h with h|⟨b,off,rfl,hlt,hc⟩
 ·have ht:t=[]:=by cases t with|nil=>rfl|cons x y=>simp[byL] at h
  subst ht;exact⟨ao,cap,rfl,.inl h,fun _ _ h=>absurd rfl h⟩
 ·by_cases ht:t=[]
  ·subst ht;exact⟨_,cap,rfl,.inl rfl,fun _ _ h=>absurd rfl h⟩
  ·have hb:=hl b off ht rfl;exact⟨_,cap,rfl,.inr ⟨b,off,rfl,Nat.lt_of_lt_of_le hlt s.size,fun j u hj=>(World.cell?_of_block (a:=⟨b,off+j,none⟩) (s.block b hlt (by rw[hb];exact h0))).trans (hc j u hj)⟩,fun b' off' _ h=>by cases h;rw[s.lab b hlt];exact hb⟩
theorem Byt.nil (w:World)(o:Nat->Nat):Byt w o (.slice none 0 0) []:=⟨none,0,rfl,.inl rfl,fun _ _ _ h=>by cases h⟩
theorem Byt.form {w:World}{o:Nat->Nat}{v:Value}{t:List UInt8}(h:Byt w o v t):∃ao cap,v=.slice ao t.length cap:=by
 obtain⟨ao,cap,rfl,-⟩:=h;exact⟨ao,cap,rfl⟩
def RdW (w:World)(o:Nat->Nat)(rb sb:Nat)(st:St):Prop :=
 match st with
 | none=>Blk w o 2 rb (.cells #[.slice none 0 0,.bool true] 66)
 | some l=>o sb=0/\sb<w.heap.size/\l.length<=9223372036854775807/\∃off cap,l.length<=cap/\cap<=9223372036854775807/\Blk w o 2 rb (.cells #[.slice (some ⟨sb,off,none⟩) l.length cap,.bool false] 66)/\∀ j u,(byL l)[j]?=some u->w.cell? ⟨sb,off+j,none⟩=some u
theorem set2a {w:World}{b:Nat}{x y:Value}{t:TypeId}(h:w.heap[b]?=some (.cells #[x,y] t))(v:Value):(w.setCell ⟨b,0,none⟩ v).heap[b]?=some (.cells #[v,y] t):=heap_setCell_same w b 0 _ _ _ h
theorem set2b {w:World}{b:Nat}{x y:Value}{t:TypeId}(h:w.heap[b]?=some (.cells #[x,y] t))(v:Value):(w.setCell ⟨b,1,none⟩ v).heap[b]?=some (.cells #[x,v] t):=heap_setCell_same w b 1 _ _ _ h
theorem cells2r {w:World}{b:Nat}{x y:Value}{t:TypeId}(h:w.heap[b]?=some (.cells #[x,y] t)):w.cell? ⟨b,0,none⟩=some x/\w.cell? ⟨b,1,none⟩=some y/\w.frozen? ⟨b,0,none⟩=false/\w.frozen? ⟨b,1,none⟩=false:=by
 refine⟨?_,?_,?_,?_⟩<;>simp[World.cell?,World.frozen?,h]
abbrev Ir:Nat->Prop:=fun k=>k=2
theorem RdW.lt {w:World}{o:Nat->Nat}{rb sb:Nat}{st:St}(h:RdW w o rb sb st):rb<w.heap.size:=by
 cases st with
 | none=>exact Blk.lt h
 | some l=>obtain⟨-,-,-,_,_,-,-,hb,-⟩:=h;exact hb.lt
theorem RdW.blk {w:World}{o:Nat->Nat}{rb sb:Nat}{st:St}(h:RdW w o rb sb st):∃x y,Blk w o 2 rb (.cells #[x,y] 66):=by
 cases st with
 | none=>exact⟨_,_,h⟩
 | some l=>obtain⟨-,-,-,_,_,-,-,hb,-⟩:=h;exact⟨_,_,hb⟩
theorem RdW.step {I:Nat->Prop}{w w':World}{o o':Nat->Nat}{rb sb:Nat}{st:St}(h:RdW w o rb sb st)(s:Step I w o w' o')(h2:¬I 2)(h0:¬I 0):RdW w' o' rb sb st:=by
 cases st with
 | none=>exact Blk.step h s h2
 | some l =>
  obtain⟨a,b,c,off,cap,d,e,hb,hc⟩:=h;exact⟨(s.lab sb b).trans a,Nat.lt_of_lt_of_le b s.size,c,off,cap,d,e,hb.step s h2,fun j u hj=>(World.cell?_of_block (a:=⟨sb,off+j,none⟩) (s.block sb b (by rw[a];exact h0))).trans (hc j u hj)⟩
theorem giveUp_c (w:World)(o:Nat->Nat)(rb sb:Nat)(st:St)(h:RdW w o rb sb st) :
  Calls Tryd.prog 60 #[.pointer (some ⟨rb,0,none⟩)] w fun e w'=>e=.returned (.tuple #[])/\RdW w' o rb sb none/\Step Ir w o w' o:=by
 obtain⟨x,y,hb⟩:=h.blk;obtain⟨c0,c1,f0,f1⟩:=cells2r hb.1;have hs1:=set2a hb.1 (.slice none 0 0);have hs2:=set2b hs1 (.bool true);obtain⟨d0,d1,g0,g1⟩:=cells2r hs1;have S1:Step Ir w o ((w.setCell ⟨rb,0,none⟩ (.slice none 0 0)).setCell ⟨rb,1,none⟩ (.bool true)) o:=((Step.refl Ir w o).setCell ⟨rb,0,none⟩ _ hb.2).setCell ⟨rb,1,none⟩ _ hb.2;have HR:Hid (RdW ((w.setCell ⟨rb,0,none⟩ (.slice none 0 0)).setCell ⟨rb,1,none⟩ (.bool true)) o rb sb none/\Step Ir w o ((w.setCell ⟨rb,0,none⟩ (.slice none 0 0)).setCell ⟨rb,1,none⟩ (.bool true)) o):=⟨⟨hs2,hb.2⟩,S1⟩
 clear hs1 hs2 S1 hb h;go_enter Tryd.func60,Tryd.ntmps60;go_wp2
 go_end0
 exact⟨rfl,HR.out⟩
theorem byL_take (l:List UInt8)(n:Nat):byL (l.take n)=(byL l).take n:=by simp[byL]
theorem byL_drop (l:List UInt8)(n:Nat):byL (l.drop n)=(byL l).drop n:=by simp[byL]
theorem front_c (n:Nat)(hn:n<=100000)(w:World)(o:Nat->Nat)(rb sb:Nat)(st:St)(h:RdW w o rb sb st) :
  Calls Tryd.prog 74 #[.pointer (some ⟨rb,0,none⟩),.int .i64 (n:Nat)] w fun e w'=>∃v,e=.returned v/\Byt w o v ((st.getD []).take n)/\w'=w:=by
 cases st with
 | none =>
  obtain⟨c0,c1,f0,f1⟩:=cells2r h.1;have hB:Byt w o (.slice none 0 0) (((none:St).getD []).take n):=⟨none,0,by simp,.inl (by simp[byL]),fun _ _ _ h=>by cases h⟩
  have HB2:Hid (Byt w o (.slice none 0 0) []):=(by simpa using hB:Byt w o (.slice none 0 0) [])
  have HB:Hid (Byt w o (.slice none 0 0) (((none:St).getD []).take n)):=hB;clear hB h;by_cases h0:0<n
  ·go_enter Tryd.func74,Tryd.ntmps74;go_wp2;go_ret;exact⟨_,rfl,by first|exact HB.out|exact HB2.out,rfl⟩
  ·obtain rfl:n=0:=by omega
   go_enter Tryd.func74,Tryd.ntmps74;go_wp2;go_ret;exact⟨_,rfl,by first|exact HB.out|exact HB2.out,rfl⟩
 | some l =>
  obtain⟨a,b,c,off,cap,d,e,hb,hc⟩:=h;obtain⟨c0,c1,f0,f1⟩:=cells2r hb.1;by_cases hle:n<=l.length
  ·have hB:Byt w o (.slice (some ⟨sb,off,none⟩) n n) (l.take n):=⟨some ⟨sb,off,none⟩,n,by rw[List.length_take,Nat.min_eq_left hle],.inr ⟨sb,off,rfl,b,fun j u hj=>by
    rw[byL_take,List.getElem?_take] at hj;split at hj
    ·exact hc j u hj
    ·cases hj⟩,fun b' off' _ h=>by cases h;exact a⟩
   have HB:Hid (Byt w o (.slice (some ⟨sb,off,none⟩) n n) (((some l:St).getD []).take n)):=hB;have hleI:(n:Int)<=(l.length:Int):=by omega
   have hnl:¬l.length<n:=by omega
   clear hB hb hc;go_enter Tryd.func74,Tryd.ntmps74;go_wp2;go_ret;exact⟨_,rfl,HB.out,rfl⟩
  ·have hB:Byt w o (.slice (some ⟨sb,off,none⟩) l.length l.length) (l.take n):=⟨some ⟨sb,off,none⟩,l.length,by rw[List.length_take,Nat.min_eq_right (by omega)],.inr ⟨sb,off,rfl,b,fun j u hj=>by
    rw[List.take_of_length_le (by omega)] at hj;exact hc j u hj⟩,fun b' off' _ h=>by cases h;exact a⟩
   have HB:Hid (Byt w o (.slice (some ⟨sb,off,none⟩) l.length l.length) (((some l:St).getD []).take n)):=hB;have hleI:(l.length:Int)<(n:Int):=by omega
   have hnl:l.length<n:=by omega
   clear hB hb hc;go_enter Tryd.func74,Tryd.ntmps74;go_wp2;go_ret;exact⟨_,rfl,HB.out,rfl⟩
theorem RdW.cutoff {w:World}{o:Nat->Nat}{rb sb:Nat}{l:List UInt8}{off cap:Nat}(hl:l.length<=9223372036854775807)(a:o sb=0)(b:sb<w.heap.size)(hne:sb≠rb)(d:l.length<=cap)(e:cap<=9223372036854775807)
  (hb:Blk w o 2 rb (.cells #[.slice (some ⟨sb,off,none⟩) l.length cap,.bool false] 66)) (hc:∀ j u,(byL l)[j]?=some u->w.cell? ⟨sb,off+j,none⟩=some u) (k:Nat) (hk:k<=l.length) :
  RdW (w.setCell ⟨rb,0,none⟩ (.slice (if cap=k then some ⟨sb,off,none⟩ else some ⟨sb,off+k,none⟩) (l.length-k) (cap-k))) o rb sb (some (l.drop k)):=by
 have hcell:∀ q,(w.setCell ⟨rb,0,none⟩ (.slice (if cap=k then some ⟨sb,off,none⟩ else some ⟨sb,off+k,none⟩) (l.length-k) (cap-k))).cell? ⟨sb,q,none⟩=w.cell? ⟨sb,q,none⟩:=fun q=>World.cell?_of_block (a:=⟨sb,q,none⟩) (heap_setCell_other _ _ _ _ hne);have hbb:=set2a hb.1 (.slice (if cap=k then some ⟨sb,off,none⟩ else some ⟨sb,off+k,none⟩) (l.length-k) (cap-k));by_cases hck:cap=k
 ·rw[if_pos hck] at hbb hcell ⊢;refine⟨a,by simpa using b,by simp;omega,off,cap-k,by simp;omega,by omega,⟨by rw[List.length_drop];exact hbb,hb.2⟩,fun j u hj=>?_⟩;rw[List.drop_of_length_le (by omega)] at hj;simp[byL] at hj
 ·rw[if_neg hck] at hbb hcell ⊢;refine⟨a,by simpa using b,by simp;omega,off+k,cap-k,by simp;omega,by omega,⟨by rw[List.length_drop];exact hbb,hb.2⟩,fun j u hj=>?_⟩;rw[byL_drop,List.getElem?_drop] at hj;rw[hcell,Nat.add_assoc];exact hc _ u hj
theorem num_yes {l:List UInt8}{n k:Nat}(h:tk l 0 0=(n,k,0)):val 0 numR (some l)=n/\nxt numR (some l)=some (l.drop k):=by
 have e:numR l=some (n,l.drop k):=by simp[numR,h]
 exact⟨val_ok e,nxt_ok e⟩
theorem num_no {l:List UInt8}(h:¬(tk l 0 0).2.2=0):val 0 numR (some l)=0/\nxt numR (some l)=none:=by
 have e:numR l=none:=by simp[numR,h]
 exact⟨val_no e,nxt_no e⟩
theorem rnumber_c (w:World)(o:Nat->Nat)(rb sb:Nat)(hne:sb≠rb)(st:St)(h:RdW w o rb sb st) :
  Calls Tryd.prog 62 #[.pointer (some ⟨rb,0,none⟩)] w fun e w'=>e=.returned (.int .u64 (val 0 numR st:Nat))/\RdW w' o rb sb (nxt numR st)/\Step Ir w o w' o:=by
 have HF:=front_c 10 (by omega) w o rb sb st h;have HG:=giveUp_c w o rb sb st h;have hlen:((st.getD []).take 10).length<=10:=by simp;omega
 have HT:=fun w'=>take_any ⟨((st.getD []).take 10).toArray⟩ w' (by rw[size_mk];unfold maxLen;omega);have e1:(⟨((st.getD []).take 10).toArray⟩:ByteArray).data.toList=(st.getD []).take 10:=by simp
 rw[e1,show (10:Nat)=10-0 by rfl,tk_ten _ 0 0 (by omega)] at HT;simp only[Nat.sub_zero] at HT;clear e1;by_cases hz:(tk (st.getD []) 0 0).2.2=0
 ·cases st with
  | none=>simp[tk] at hz
  | some l =>
   obtain⟨N,K,E⟩:∃N K,tk l 0 0=(N,K,0):=⟨(tk l 0 0).1,(tk l 0 0).2.1,by have e:tk l 0 0=((tk l 0 0).1,(tk l 0 0).2.1,(tk l 0 0).2.2):=rfl;rw[show (tk l 0 0).2.2=0 from hz] at e;exact e⟩
   obtain⟨_,hk10,hkl,hN,_,_⟩:=tk_back0 l N K E;obtain⟨v1,v2⟩:=num_yes E;rw[v1,v2];have HT2:∀ w',Calls Tryd.prog 76 #[.string ⟨(((some l:St).getD []).take 10).toArray⟩] w' fun e w''=>e=.returned (.tuple #[.int .u64 N,.int .i64 K,.int .i64 0])/\w''=w':=fun w'=>(HT w').mono fun e w'' ⟨g1,g2⟩=>⟨by rw[g1,show ((some l:St).getD [])=l from rfl,E];rfl,g2⟩;obtain⟨a,b,c,off,cap,d,e,hb,hc⟩:=h;obtain⟨c0,c1,f0,f1⟩:=cells2r hb.1;have hR:=RdW.cutoff c a b hne d e hb hc K hkl;have hS:Step Ir w o (w.setCell ⟨rb,0,none⟩ (.slice (if cap=K then some ⟨sb,off,none⟩ else some ⟨sb,off+K,none⟩) (l.length-K) (cap-K))) o:=(Step.refl Ir w o).setCell ⟨rb,0,none⟩ _ hb.2;clear v1 v2 HT E hz HG hb hc;by_cases hck:cap=K
   all_goals (
    first|(rw[if_pos hck] at hR hS;rw[show cap-K=0 by omega] at hR hS)|rw[if_neg hck] at hR hS
    have HR:=Lib.hid hR;have HS:=Lib.hid hS;clear hR hS;go_enter Tryd.func62,Tryd.ntmps62;go_wp2_with (first|(go_at_call 74;refine HF.mono ?_;rintro e w1 ⟨v,rfl,hbt,hww⟩;subst hww;have hcv:=hbt.text)|(go_at_call 76;refine(HT2 _).mono ?_;rintro e w2 ⟨rfl,hww⟩;subst hww));go_ret;exact⟨rfl,HR.out,HS.out⟩)
 ·have hv:val 0 numR st=0/\nxt numR st=none:=by
   cases st with
   | none=>exact⟨rfl,rfl⟩
   | some l=>exact num_no hz
  rw[hv.1,hv.2];obtain⟨F,hF0,E⟩:∃F:Nat,¬F=0/\tk (st.getD []) 0 0=(0,0,F):=by
   rcases tk_err (st.getD []) 0 0 with h1|h1|h1
   ·exact absurd h1 hz
   ·exact⟨10,by omega,h1⟩
   ·exact⟨11,by omega,h1⟩
  have hFI:¬(F:Int)=0:=by omega
  have HT2:∀ w',Calls Tryd.prog 76 #[.string ⟨((st.getD []).take 10).toArray⟩] w' fun e w''=>e=.returned (.tuple #[.int .u64 0,.int .i64 0,.int .i64 F])/\w''=w':=fun w'=>(HT w').mono fun e w'' ⟨g1,g2⟩=>⟨by rw[g1,E];rfl,g2⟩;clear hv E HT hz h;generalize (st.getD []).take 10=TT at *;go_enter Tryd.func62,Tryd.ntmps62;go_wp2_with (first|(go_at_call 74;refine HF.mono ?_;rintro e w1 ⟨v,rfl,hbt,hww⟩;subst hww;have hcv:=hbt.text)|(go_at_call 76;refine(HT2 _).mono ?_;rintro e w2 ⟨rfl,hww⟩;subst hww)|(go_at_call 60;refine HG.mono ?_;rintro e w3 ⟨rfl,hG⟩));go_ret;exact⟨rfl,hG⟩
theorem atMost_c (m:Nat)(hm:m<=100000)(w:World)(o:Nat->Nat)(rb sb:Nat)(hne:sb≠rb)(st:St)(h:RdW w o rb sb st) :
  Calls Tryd.prog 75 #[.pointer (some ⟨rb,0,none⟩),.int .i64 (m:Nat)] w fun e w'=>e=.returned (.int .i64 (val 0 (cntR m) st:Nat))/\RdW w' o rb sb (nxt (cntR m) st)/\Step Ir w o w' o:=by
 have HN:=rnumber_c w o rb sb hne st h;have hlt:=numR_lt st;by_cases hle:val 0 numR st<=m
 ·obtain⟨e1,e2⟩:=cnt_val m st hle;rw[e1,e2];generalize val 0 numR st=N at *;generalize nxt numR st=st2 at *;have h1:¬(m:Int)<(N:Int):=by omega
  clear e1 e2;go_enter Tryd.func75,Tryd.ntmps75;go_wp2_with (go_at_call 62;refine HN.mono ?_;rintro e w1 ⟨rfl,R1,S1⟩);go_ret;exact⟨by first|rfl|(simp;omega),R1,S1⟩
 ·obtain⟨e1,e2⟩:=cnt_over m st hle;rw[e1,e2];have HG:=fun w1 R1=>giveUp_c w1 o rb sb (nxt numR st) R1;generalize val 0 numR st=N at *;generalize nxt numR st=st2 at *;have h1:(m:Int)<(N:Int):=by omega
  clear e1 e2;go_enter Tryd.func75,Tryd.ntmps75;go_wp2_with (first|(go_at_call 62;refine HN.mono ?_;rintro e w1 ⟨rfl,R1,S1⟩)|(go_at_call 60;refine(HG _ R1).mono ?_;rintro e w2 ⟨rfl,R2,S2⟩));go_ret;exact⟨rfl,R2,S1.trans S2⟩
theorem rconst_c (w:World)(o:Nat->Nat)(rb sb:Nat)(hne:sb≠rb)(st:St)(h:RdW w o rb sb st) :
  Calls Tryd.prog 64 #[.pointer (some ⟨rb,0,none⟩)] w fun e w'=>e=.returned (.int .i64 (val (0:Int) conR st))/\RdW w' o rb sb (nxt conR st)/\Step Ir w o w' o:=by
 have HN:=rnumber_c w o rb sb hne st h;have hlt:=numR_lt st;obtain⟨e1,e2⟩:=con_val st;rw[e1,e2];have HZ:=fun w1=>zag_any (val 0 numR st:Nat) w1 (by omega) (by omega);have hb:=zgb_bd (val 0 numR st:Nat) (by omega) (by omega);generalize zgb (val 0 numR st:Nat)=z at *;generalize val 0 numR st=N at *;generalize nxt numR st=st2 at *;clear e1 e2;go_enter Tryd.func64,Tryd.ntmps64;go_wp2_with (first|(go_at_call 62;refine HN.mono ?_;rintro e w1 ⟨rfl,R1,S1⟩)|(go_at_call 77;refine(HZ _).mono ?_;rintro e w2 ⟨rfl,hww⟩;subst hww));go_ret;exact⟨rfl,R1,S1⟩
theorem rkind_c (w:World)(o:Nat->Nat)(rb sb:Nat)(hne:sb≠rb)(st:St)(h:RdW w o rb sb st) :
  Calls Tryd.prog 67 #[.pointer (some ⟨rb,0,none⟩)] w fun e w'=>e=.returned (.int .i64 (val (0:Int) (kndR 3) st))/\RdW w' o rb sb (nxt (kndR 3) st)/\Step Ir w o w' o:=by
 have HN:=atMost_c 3 (by omega) w o rb sb hne st h;obtain⟨e1,e2⟩:=knd_val 3 st;rw[e1,e2];generalize val 0 (cntR 3) st=N at *;generalize nxt (cntR 3) st=st2 at *;clear e1 e2;go_enter Tryd.func67,Tryd.ntmps67;go_wp2_with (go_at_call 75;refine HN.mono ?_;rintro e w1 ⟨rfl,R1,S1⟩);go_ret;exact⟨rfl,R1,S1⟩
theorem tak_yes {l:List UInt8}{n:Nat}(h:n<=l.length):val [] (takR n) (some l)=l.take n/\nxt (takR n) (some l)=some (l.drop n):=by
 have e:takR n l=some (l.take n,l.drop n):=by simp[takR,h]
 exact⟨val_ok e,nxt_ok e⟩
theorem tak_no {l:List UInt8}{n:Nat}(h:¬n<=l.length):val [] (takR n) (some l)=[]/\nxt (takR n) (some l)=none:=by
 have e:takR n l=none:=by simp[takR,h]
 exact⟨val_no e,nxt_no e⟩
theorem rtake_c (n:Nat)(hn:n<=100000)(w:World)(o:Nat->Nat)(rb sb:Nat)(hne:sb≠rb)(st:St)(h:RdW w o rb sb st) :
  Calls Tryd.prog 59 #[.pointer (some ⟨rb,0,none⟩),.int .i64 (n:Nat)] w fun e w'=>∃v,e=.returned v/\Byt w' o v (val [] (takR n) st)/\RdW w' o rb sb (nxt (takR n) st)/\Step Ir w o w' o:=by
 have HF:=front_c n hn w o rb sb st h;have HG:=giveUp_c w o rb sb st h;by_cases hsh:((st.getD []).take n).length<n
 ·have hv:val [] (takR n) st=[]/\nxt (takR n) st=none:=by
   cases st with
   | none=>exact⟨rfl,rfl⟩
   | some l=>exact tak_no (by simp at hsh;omega)
  rw[hv.1,hv.2];have hI:((((st.getD []).take n).length:Nat):Int)<(n:Int):=by omega
  clear hv h;generalize (st.getD []).take n=TT at *;go_enter Tryd.func59,Tryd.ntmps59;go_wp2_with (first|(go_at_call 74;refine HF.mono ?_;rintro e w1 ⟨v,rfl,hbt,hww⟩;subst hww;obtain⟨av,cv,rfl⟩:=hbt.form)|(go_at_call 60;refine HG.mono ?_;rintro e w3 ⟨rfl,R3,S3⟩));go_ret;exact⟨_,rfl,Byt.nil _ _,R3,S3⟩
 ·have hI:¬((((st.getD []).take n).length:Nat):Int)<(n:Int):=by omega
  cases st with
  | none =>
   obtain rfl:n=0:=by simp at hsh;omega
   have hv:val [] (takR 0) none=[]/\nxt (takR 0) none=none:=⟨rfl,rfl⟩
   rw[hv.1,hv.2];have hb:Blk w o 2 rb (.cells #[.slice none 0 0,.bool true] 66):=h;obtain⟨c0,c1,f0,f1⟩:=cells2r hb.1;have HR:Hid (RdW (w.setCell ⟨rb,0,none⟩ (.slice none 0 0)) o rb sb none):=⟨set2a hb.1 _,hb.2⟩
   have hS:Step Ir w o (w.setCell ⟨rb,0,none⟩ (.slice none 0 0)) o:=(Step.refl Ir w o).setCell ⟨rb,0,none⟩ _ hb.2;have HS:=Lib.hid hS;clear hS hb h HG hv;simp only[List.take_zero] at HF hI hsh;go_enter Tryd.func59,Tryd.ntmps59;go_wp2_with (first|(go_at_call 74;refine HF.mono ?_;rintro e w1 ⟨v,rfl,hbt,hww⟩;subst hww;obtain⟨av,cv,rfl⟩:=hbt.form));go_ret;exact⟨_,rfl,hbt.step HS.out (by decide),HR.out,HS.out⟩
  | some l =>
   have hnl:n<=l.length:=by simp at hsh;omega
   obtain⟨v1,v2⟩:=tak_yes hnl;rw[v1,v2];obtain⟨a,b,c,off,cap,d,e,hb,hc⟩:=h;obtain⟨c0,c1,f0,f1⟩:=cells2r hb.1;have hR:=RdW.cutoff c a b hne d e hb hc n hnl;have hS:Step Ir w o (w.setCell ⟨rb,0,none⟩ (.slice (if cap=n then some ⟨sb,off,none⟩ else some ⟨sb,off+n,none⟩) (l.length-n) (cap-n))) o:=(Step.refl Ir w o).setCell ⟨rb,0,none⟩ _ hb.2;have e3:((some l:St).getD []).take n=l.take n:=rfl;rw[e3] at HF hI hsh;have e4:(l.take n).length=n:=by rw[List.length_take];omega
   clear v1 v2 HG hb hc e3;have hnI:(n:Int)<=(l.length:Int):=by omega
   by_cases hck:cap=n
   all_goals (
    first|(rw[if_pos hck] at hR hS;rw[show cap-n=0 by omega] at hR hS)|rw[if_neg hck] at hR hS
    have HR:=Lib.hid hR;have HS:=Lib.hid hS;clear hR hS;go_enter Tryd.func59,Tryd.ntmps59;go_wp2_with (first|(go_at_call 74;refine HF.mono ?_;rintro e w1 ⟨v,rfl,hbt,hww⟩;subst hww;obtain⟨av,cv,rfl⟩:=hbt.form));go_ret;have hbt2:=hbt.step HS.out (by decide);rw[e4] at hbt2;exact⟨_,rfl,hbt2,HR.out,HS.out⟩)
theorem rname_c (w:World)(o:Nat->Nat)(rb sb:Nat)(hne:sb≠rb)(st:St)(h:RdW w o rb sb st) :
  Calls Tryd.prog 66 #[.pointer (some ⟨rb,0,none⟩)] w fun e w'=>e=.returned (.string (val (⟨#[]⟩:ByteArray) (namR 12) st))/\RdW w' o rb sb (nxt (namR 12) st)/\Step Ir w o w' o:=by
 have HN:=atMost_c 12 (by omega) w o rb sb hne st h;obtain⟨e1,e2⟩:=nam_val 12 st;rw[e1,e2];have hle:=cnt_le 12 st;have HT:=fun w1 R1=>rtake_c (val 0 (cntR 12) st) (by omega) w1 o rb sb hne (nxt (cntR 12) st) R1;generalize val [] (takR (val 0 (cntR 12) st)) (nxt (cntR 12) st)=TT at *;generalize nxt (takR (val 0 (cntR 12) st)) (nxt (cntR 12) st)=st3 at *;generalize val 0 (cntR 12) st=N at *;generalize nxt (cntR 12) st=st2 at *;clear e1 e2;go_enter Tryd.func66,Tryd.ntmps66;go_wp2_with (first|(go_at_call 75;refine HN.mono ?_;rintro e w1 ⟨rfl,R1,S1⟩)|(go_at_call 59;refine(HT _ R1).mono ?_;rintro e w2 ⟨v,rfl,hbt,R2,S2⟩;have hcv:=hbt.text));go_ret;exact⟨rfl,R2,S1.trans S2⟩
end Go.Proofs.YtdhhnhjolmnkjaaDoor

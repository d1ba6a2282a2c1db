import Derived.Test.YtlojiclhoiddlaaDoorApp1
set_option maxRecDepth 100000
set_option maxHeartbeats 8000000
namespace Go.Proofs.YtlojiclhoiddlaaDoor
open Go.ChangeShapes Go.WideShapes Go.ChangeAt Go.RowKit
set_option linter.unusedVariables false
set_option linter.unusedSimpArgs false
theorem words_okg (l:List Rw):∀ u ∈ l.map wdN,0<=u/\u<18446744073709551616:=fun u hu=>by
 obtain⟨r,_,rfl⟩:=List.mem_map.1 hu;exact wdN_bd r
abbrev fewS:ByteArray:=⟨#[102,101,119]⟩
abbrev oddS:ByteArray:=⟨#[111,100,100]⟩
abbrev noneS:ByteArray:=⟨#[110,111,110,101]⟩
abbrev k3g:Array Value:=#[.int .i64 1,.int .i64 2,.int .i64 3]
theorem k3g_lsv {w:World}{g:Nat}{t:TypeId}{p:Nat × Nat}(hh:w.heap[g]?=some (.cells k3g t p))(hg:g<w.heap.size):Lsv w (some ⟨g,0,none⟩) (isV [1,2,3]):=by
 refine .inr ⟨g,0,rfl,hg,fun j x hx=>?_⟩;unfold World.cell?;rw[hh]
 match j,hx with
 | 0,hx=>simp[isV] at hx;subst hx;rfl
 | 1,hx=>simp[isV] at hx;subst hx;rfl
 | 2,hx=>simp[isV] at hx;subst hx;rfl
theorem few_lsv {w:World}{g:Nat}{t:TypeId}{p:Nat × Nat}(hh:w.heap[g]?=some (.cells #[.string fewS] t p))(hg:g<w.heap.size):Lsv w (some ⟨g,0,none⟩) (nsV [fewS]):=by
 refine .inr ⟨g,0,rfl,hg,fun j x hx=>?_⟩;unfold World.cell?;rw[hh]
 match j,hx with
 | 0,hx=>simp[nsV] at hx;subst hx;rfl
theorem k4g_lsv {w:World}{g:Nat}{t:TypeId}{p:Nat × Nat}(hh:w.heap[g]?=some (.cells #[.int .i64 1,.int .i64 2,.int .i64 3,.int .i64 2] t p))(hg:g<w.heap.size):Lsv w (some ⟨g,0,none⟩) (isV [1,2,3,2]):=by
 refine .inr ⟨g,0,rfl,hg,fun j x hx=>?_⟩;unfold World.cell?;rw[hh]
 match j,hx with
 | 0,hx=>simp[isV] at hx;subst hx;rfl
 | 1,hx=>simp[isV] at hx;subst hx;rfl
 | 2,hx=>simp[isV] at hx;subst hx;rfl
 | 3,hx=>simp[isV] at hx;subst hx;rfl
theorem n3g_lsv {w:World}{g:Nat}{t:TypeId}{p:Nat × Nat}(hh:w.heap[g]?=some (.cells #[.string fewS,.string oddS,.string noneS] t p))(hg:g<w.heap.size):Lsv w (some ⟨g,0,none⟩) (nsV [fewS,oddS,noneS]):=by
 refine .inr ⟨g,0,rfl,hg,fun j x hx=>?_⟩;unfold World.cell?;rw[hh]
 match j,hx with
 | 0,hx=>simp[nsV] at hx;subst hx;rfl
 | 1,hx=>simp[nsV] at hx;subst hx;rfl
 | 2,hx=>simp[nsV] at hx;subst hx;rfl
theorem lsv_set {w:World}{b q j:Nat}{v:Value}{xs:List Value}(h:Lsv w (some ⟨b,0,none⟩) xs)(hne:b≠q):Lsv (w.setCell ⟨q,j,none⟩ v) (some ⟨b,0,none⟩) xs:=by
 rcases h with h|⟨b',off,e,hlt,hc⟩
 ·exact .inl h
 ·cases e;exact .inr ⟨b,0,rfl,by simpa using hlt,fun i x hx=>(World.cell?_of_block (a:=⟨b,0+i,none⟩) (heap_setCell_other _ _ _ _ hne)).trans (hc i x hx)⟩
def cdS (l:List Rw)(cs:List Int):Cd:=⟨l.map wdN,cs,[fewS],[1,2,3]⟩
def cdT (l:List Rw)(cs:List Int):Cd:=⟨l.map wdN,cs,[fewS,oddS,noneS],[1,2,3,2]⟩
theorem cdS_ok {l:List Rw}{cs:List Int}(okS:∀ u ∈ cs,-9223372036854775808<=u/\u<=9223372036854775807):(cdS l cs).Ok:=by
 refine⟨words_okg l,okS,fun u hu=>?_,fun u hu=>?_⟩
 ·simp[cdS] at hu;omega
 ·simp[cdS] at hu;subst hu;decide
theorem cdT_ok {l:List Rw}{cs:List Int}(okS:∀ u ∈ cs,-9223372036854775808<=u/\u<=9223372036854775807):(cdT l cs).Ok:=by
 refine⟨words_okg l,okS,fun u hu=>?_,fun u hu=>?_⟩
 ·simp[cdT] at hu;omega
 ·simp[cdT] at hu;rcases hu with rfl|rfl|rfl<;>decide
theorem cdT_vrf {l:List Rw}{cs ms:List Int}(okS:∀ u ∈ cs,-9223372036854775808<=u/\u<=9223372036854775807)(hl:cs.length+ms.length<=1000)(h:(vrfA (cdS l cs)).2.1≠180):vrfA (cdT l (cs++ms))=vrfA (cdS l cs):=by
 refine vrf_more (cdS_ok okS) rfl ⟨ms,rfl⟩ (by simp[cdS,cdT]) ⟨[2],rfl⟩ ?_ h;have h1:[fewS,oddS,noneS].all (fun s=>nameB s.data.toList)=true:=by decide +kernel
 have h2:([1,2,3,2]:List Int).all kndB=true:=by decide +kernel
 unfold lstB lenB cdT;simp only;rw[h1,h2];simp;omega
theorem resV_eq (a b c e n:Nat):resV ((a,b,c),e,n)=.tuple #[.agg #[.int .i64 (a:Nat),.int .i64 (b:Nat),.int .i64 (c:Nat)],.int .i64 (e:Nat),.int .i64 (n:Nat)]:=rfl
theorem guardShifts_walk (aR:Option Addr)(cR:Nat)(l:List Rw)(aS:Option Addr)(cS:Nat)(cs:List Int)(aM:Option Addr)(cM:Nat)(ms:List Int)(w:World)(hF:Fx w)(hT:Tzg w)
  (hR:RawW w aR l) (okR:∀ r ∈ l,r.Ok) (lR:l.length*24<=140737488351232) (hS:Lsv w aS (isV cs)) (okS:∀ u ∈ cs,-9223372036854775808<=u/\u<=9223372036854775807) (lS:cs.length*8<=140737488351232)
  (hM:Lsv w aM (isV ms)) (okM:∀ u ∈ ms,-9223372036854775808<=u/\u<=9223372036854775807) (lM:ms.length*8<=140737488351232) :
  Calls Tryd.prog 7 #[.slice aR l.length cR,.slice aS cs.length cS,.slice aM ms.length cM] w fun e w'=>e=.returned (.bool true)/\Below w.heap.size w w':=by
 obtain⟨g,hg⟩:∃g,g=w.heap.size:=⟨_,rfl⟩
 have HG:=Lib.hid hg;have HA:=awake_c w hF hT;go_enter Tryd.func7,Tryd.ntmps7;go_wp2_with fail;refine HA.mono ?_;rintro e w0 ⟨rfl,B0⟩;have F0:=hF.below B0;have T0:=hT.below B0;have R0:=hR.below B0;have S0:=hS.below B0;have M0:=hM.below B0;have BB0:Below g w w0:=by rw[hg];exact B0
 have z0:=B0.size;rw[<-hg] at z0;obtain⟨g1,hg1⟩:∃g1,g1=w0.heap.size:=⟨_,rfl⟩
 obtain⟨w1,hw1⟩:∃w1,w1=(w0.alloc (.cells #[.string fewS] 9)).alloc (.cells k3g 3):=⟨_,rfl⟩
 have B1:Below w0.heap.size w0 w1:=by rw[hw1];exact((Below.refl _ w0).alloc (Nat.le_refl _) _).alloc (by simp) _
 have s1:w1.heap.size=g1+2:=by rw[hw1,hg1];simp
 have N1:Lsv w1 (some ⟨g1,0,none⟩) (nsV [fewS]):=by
  refine few_lsv (t:=9) (p:=(0,0)) ?_ (by omega);rw[hw1,hg1];exact(Below.heap_alloc _ _ _ (by simp)).trans (heap_alloc_new _ _)
 have K1:Lsv w1 (some ⟨g1+1,0,none⟩) (isV [1,2,3]):=by
  refine k3g_lsv (t:=3) (p:=(0,0)) ?_ (by omega)
  have:=heap_alloc_new (w0.alloc (.cells #[.string fewS] 9)) (.cells k3g 3)
  rw[hw1,hg1];simpa using this
 have F1:=F0.below B1;have T1:=T0.below B1;have BB1:=bdt BB0 B1 z0;have z1:=Nat.le_trans z0 B1.size;have S1:=S0.below B1;have M1:=M0.below B1;have HM:=mk_c w1 aR cR l (.slice aS cs.length cS) (.slice (some ⟨g1,0,none⟩) 1 1) (.slice (some ⟨g1+1,0,none⟩) 3 3) (R0.below B1) okR (by omega) ⟨_,_,_,rfl⟩ ⟨_,_,_,rfl⟩ ⟨_,_,_,rfl⟩;have HG1:=Lib.hid hg1;clear HA hR hF hT hS hM B0 hg F0 T0 R0 S0 M0 BB0 B1 hg1;go_wp2_with fail;rw[<-hw1,<-HG1.out];clear hw1;refine HM.mono ?_;rintro e w2 ⟨aw,cw,rfl,LW,B2⟩;obtain⟨c,hc⟩:∃c:Cd,c=cdS l cs:=⟨_,rfl⟩
 obtain⟨p,hp⟩:∃p:Pl,p=⟨aw,cw,aS,cS,some ⟨g1,0,none⟩,1,some ⟨g1+1,0,none⟩,3⟩:=⟨_,rfl⟩
 have C2:CdW w2 p c:=by
  rw[hc,hp];exact⟨cdS_ok okS,LW,S1.below B2,N1.below B2,K1.below B2,by simp[cdS];omega,by simp[cdS];omega,by simp[cdS],by simp[cdS]⟩
 have F2:=F1.below B2;have T2:=T1.below B2;have M2:=M1.below B2;have BB2:=bdt BB1 B2 z1;have z2:=Nat.le_trans z1 B2.size;have hv:(.agg #[.slice aw l.length cw,.slice aS cs.length cS,.slice (some ⟨g1,0,none⟩) 1 1,.slice (some ⟨g1+1,0,none⟩) 3 3]:Value)=cdV p c:=by rw[hp,hc];simp[cdV,cdA,cdS]
 rw[hv];have HC:=Lib.hid hc;have HP:=Lib.hid hp;clear HM LW B2 F1 T1 M1 S1 N1 K1 hv BB1 hc hp;obtain⟨w4,hw4⟩:∃w4,w4=w2.alloc (.cells (cdA p c) 26):=⟨_,rfl⟩
 obtain⟨g4,hg4⟩:∃g4,g4=w2.heap.size:=⟨_,rfl⟩
 have B4:Below w2.heap.size w2 w4:=by rw[hw4];exact b1 _ _
 have K4:bx4 p c w4 g4:=by rw[hw4,hg4];exact bx4_new p c w2
 have L4:g4<w4.heap.size:=by rw[hw4,hg4];simp
 have C4:=C2.below B4;have F4:=F2.below B4;have T4:=T2.below B4;have M4:=M2.below B4;have BB4:=bdt BB2 B4 z2;have z4:=Nat.le_trans z2 B4.size;have HG4:=Lib.hid hg4;obtain⟨⟨⟨st,rd,kd⟩,er,at_⟩,hres⟩:∃r,vrfA c=r:=⟨_,rfl⟩
 have HV:=verify_c w4 p c F4 T4 C4;rw[hres,resV_eq] at HV;have HRES:=Lib.hid hres;clear C2 F2 T2 B4 hg4 BB2 hres M2;go_upto_region 3 with fail;rw[<-hw4,<-HG4.out];clear hw4;obtain⟨k0,k1,k2,k3⟩:=K4;go_wp2_with fail;refine HV.mono ?_;rintro e w5 ⟨rfl,B5⟩;have K5:=bx4_below ⟨k0,k1,k2,k3⟩ L4 B5;have C5:=C4.below B5;have F5:=F4.below B5;have T5:=T4.below B5;have M5:=M4.below B5;have BB5:=bdt BB4 B5 z4;have z5:=Nat.le_trans z4 B5.size;have L5:=Nat.lt_of_lt_of_le L4 B5.size;clear HV B5 F4 T4 C4 M4 k0 k1 k2 k3 BB4 L4;obtain⟨w6,hw6⟩:∃w6,w6=w5.alloc (.cells (lmA (st,rd,kd)) 29):=⟨_,rfl⟩
 obtain⟨g6,hg6⟩:∃g6,g6=w5.heap.size:=⟨_,rfl⟩
 have B6:Below w5.heap.size w5 w6:=by rw[hw6];exact b1 _ _
 have J6:bx3 (st,rd,kd) w6 g6:=by rw[hw6,hg6];exact bx3_new (st,rd,kd) w5
 have I6:g6<w6.heap.size:=by rw[hw6,hg6];simp
 have K6:=bx4_below K5 L5 B6;have L6:=Nat.lt_of_lt_of_le L5 B6.size;have C6:=C5.below B6;have F6:=F5.below B6;have T6:=T5.below B6;have M6:=M5.below B6;have BB6:=bdt BB5 B6 z5;have z6:=Nat.le_trans z5 B6.size;have HG6:=Lib.hid hg6;clear F5 T5 C5 M5 K5 B6 hg6 BB5 L5;go_upto_region 4 with fail;rw[<-hw6,<-HG6.out];clear hw6;have hend:Below w.heap.size w w6:=by rw[<-HG.out];exact BB6
 have HEND:=Lib.hid hend;clear hend;by_cases h180:er=180
 ·subst h180;clear HRES K6 C6 J6;go_wp2;go_ret;exact⟨rfl,HEND.out⟩
 ·have hei:¬((er:Nat):Int)=180:=by omega
  have hei2:((((er:Nat):Int))==180)=false:=by simp only[beq_eq_false_iff_ne,ne_eq];omega
  by_cases hlen:1000<cs.length+ms.length
  ·have hlI:(1000:Int)<(cs.length:Int)+(ms.length:Int):=by omega
   clear HRES K6 C6 J6;go_wp2;go_ret;exact⟨rfl,HEND.out⟩
  ·have hlI:¬(1000:Int)<(cs.length:Int)+(ms.length:Int):=by omega
   obtain⟨w7,hw7⟩:∃w7,w7=w6.alloc (.cells (cdA p c) 26):=⟨_,rfl⟩
   obtain⟨g7,hg7⟩:∃g7,g7=w6.heap.size:=⟨_,rfl⟩
   have HG7:=Lib.hid hg7;obtain⟨k0,k1,k2,k3⟩:=K6;clear HEND;obtain⟨i1,hi1,zb0,zb1,zb2⟩:=info_parts infoI;have G7:Blk w7 (fun k=>if k=g7 then 9 else 0) 9 g7 (.cells (cdA p c) 26):=⟨by rw[hw7,hg7];exact heap_alloc_new _ _,by simp⟩
   obtain⟨o,ho⟩:∃o:Nat->Nat,o=fun k=>if k=g7 then 9 else 0:=⟨_,rfl⟩
   rw[<-ho] at G7;have hol:∀ k,k<w6.heap.size->o k=0:=fun k hk=>by rw[ho,hg7];simp;omega
   have B7:Below w6.heap.size w6 w7:=by rw[hw7];exact b1 _ _
   have s7:w7.heap.size=g7+1:=by rw[hw7,hg7];simp
   have S6:Lsv w6 aS (isV cs):=by have:=C6.cs;rw[HC.out,HP.out] at this;exact this
   have Q6:Lsv w6 p.aw (wsV (l.map wdN)):=by have:=C6.ws;rw[HC.out] at this;exact this
   have BST:∀ {I:Nat->Prop}{wx:World}{ox:Nat->Nat},Step I w7 o wx ox->¬I 0->Below w6.heap.size w6 wx:=fun {I wx ox} s hi =>
    ⟨s.os.trans B7.os,s.tape.trans B7.tape,s.output.trans B7.output,Nat.le_trans B7.size s.size,fun k hk=>(s.block k (Nat.lt_of_lt_of_le hk B7.size) (by rw[hol k hk];exact hi)).trans (B7.block k hk)⟩
   have NW:∀ {wx:World}{xs:List Value}{ao:Option Addr},Lsv w6 ao xs->Below w6.heap.size w6 wx->0<xs.length->∃ad,ao=some ad/\∀ j u,xs[j]?=some u->wx.cell? (ad.add j)=some u:=fun {wx xs ao} h B hx=>by
    rcases h.below B with h|⟨b,off,rfl,hlt,hc⟩
    ·subst h;simp at hx
    ·exact⟨_,rfl,fun j u hj=>by rw[Addr.add_mid];exact hc j u hj⟩
   have hl1:(isV cs).length=cs.length:=by simp[isV]
   have hl2:(isV ms).length=ms.length:=by simp[isV]
   have h1c:∀ (zs:List Int),∀ u ∈ isV zs,u.oneCell'=true:=fun zs u hu=>by simp only[isV,List.mem_map] at hu;obtain⟨_,_,rfl⟩:=hu;rfl
   have n1:=NW (wx:=w7) S6 B7;rw[hl1] at n1;go_upto_region 8 with fail;rw[<-hw7,<-HG7.out];clear hw7 hg7 ho;go_wp2_with (first|(at_builtin;refine wpList_append_any rfl _ _ 23 rfl 3 i1 (.int .i64 0) 1 8 Tryd.underlying23 hi1 zb0 zb1 zb2 rfl (by decide) o 4 (.slice none 0 0) 0 [] rfl (Row.nil _ _ _ _ _) aS cs.length _ (isV cs) rfl (by rw[hl1,Nat.mul_one]) n1 (h1c _) ?a0 ?b0 ?_)|go_in)
   case a0=>unfold maxLen;omega
   case b0=>omega
   intro ao0 cp0 wb ob RB SB
   (try rw[List.nil_append,Nat.zero_add] at RB)
   have n2:=NW (wx:=wb) M6 (BST SB (by decide));rw[hl2] at n2;go_wp2_with (first|(at_builtin;refine wpList_append_any rfl _ _ 23 rfl 3 i1 (.int .i64 0) 1 8 Tryd.underlying23 hi1 zb0 zb1 zb2 rfl (by decide) ob 4 _ cs.length (isV cs) (by first|rfl|(simp;done)) RB aM ms.length _ (isV ms) rfl (by rw[hl2,Nat.mul_one]) n2 (h1c _) ?c0 ?d0 ?_)|go_in)
   case c0=>unfold maxLen;omega
   case d0=>omega
   intro ao cp wa oa RA SA;have SX:Step (fun k=>k=4\/k=9) w7 o wa oa:=(SB.mono (fun k hk=>.inl hk)).trans (SA.mono (fun k hk=>.inl hk));have GA:=(G7.step SB (by decide)).step SA (by decide);obtain⟨⟨u0,u1,u2,u3⟩,uf⟩:=cells4 GA.1;have uf1:=uf 1;have hisv:isV cs++isV ms=isV (cs++ms):=by simp[isV]
   rw[hisv] at RA;have hDA:oa g7=9:=GA.2;obtain⟨w8,hw8⟩:∃w8,w8=wa.setCell ⟨g7,1,none⟩ (.slice ao (cs.length+ms.length) cp):=⟨_,rfl⟩
   have H8:w8.heap[g7]?=some (.cells #[.slice p.aw c.ws.length p.cw,.slice ao (cs.length+ms.length) cp,.slice p.an c.ns.length p.cn,.slice p.ak c.ks.length p.ck] 26):=by rw[hw8];exact heap_setCell_same _ _ 1 _ _ _ GA.1
   have S8:Step (fun k=>k=4\/k=9) w7 o w8 oa:=by rw[hw8];exact SX.setCell _ _ (.inr hDA)
   have R8:Row w8 oa 4 3 1 (.slice ao (cs.length+ms.length) cp) (cs.length+ms.length) (isV (cs++ms)):=by rw[hw8];exact RA.step ((Step.refl (fun k=>k=9) wa oa).setCell ⟨g7,1,none⟩ _ hDA) (by decide)
   clear RA SA RB SB SX n1 n2 G7;go_upto_region 9 with fail;rw[<-hw8];clear hw8 u0 u1 u2 u3 uf uf1 GA;obtain⟨g9,hg9⟩:∃g9,g9=w8.heap.size:=⟨_,rfl⟩
   obtain⟨w9,hw9⟩:∃w9,w9=(w8.setCell ⟨g7,2,none⟩ (.slice (some ⟨g9,0,none⟩) 3 3)).alloc (.cells #[.string fewS,.string oddS,.string noneS] 9):=⟨_,rfl⟩
   have h7l:g7<w8.heap.size:=(Array.getElem?_eq_some_iff.1 H8).1;have H9a:(w8.alloc (.cells #[.string fewS,.string oddS,.string noneS] 9)).heap[g7]?=some (.cells #[.slice p.aw c.ws.length p.cw,.slice ao (cs.length+ms.length) cp,.slice p.an c.ns.length p.cn,.slice p.ak c.ks.length p.ck] 26):=(Below.heap_alloc _ _ _ h7l).trans H8;have H9:w9.heap[g7]?=some (.cells #[.slice p.aw c.ws.length p.cw,.slice ao (cs.length+ms.length) cp,.slice (some ⟨g9,0,none⟩) 3 3,.slice p.ak c.ks.length p.ck] 26):=by rw[hw9];exact(Below.heap_alloc _ _ _ (by simpa using h7l)).trans (heap_setCell_same _ _ 2 _ _ _ H8)
   have S9:Step (fun k=>k=4\/k=9) w7 o w9 oa:=by rw[hw9];exact(S8.setCell ⟨g7,2,none⟩ _ (.inr hDA)).trans (Step.ofBelow oa (b1 _ _))
   have R9:Row w9 oa 4 3 1 (.slice ao (cs.length+ms.length) cp) (cs.length+ms.length) (isV (cs++ms)):=by
    rw[hw9];exact(R8.step ((Step.refl (fun k=>k=9) _ oa).setCell ⟨g7,2,none⟩ _ hDA) (by decide)).step (Step.ofBelow (I:=fun _=>False) oa (b1 _ _)) (fun h=>h)
   have N9:Lsv w9 (some ⟨g9,0,none⟩) (nsV [fewS,oddS,noneS]):=by
    rw[hw9];refine n3g_lsv (t:=9) (p:=(0,0)) ?_ (by rw[hg9];simp)
    have:=heap_alloc_new (w8.setCell ⟨g7,2,none⟩ (.slice (some ⟨g9,0,none⟩) 3 3)) (.cells #[.string fewS,.string oddS,.string noneS] 9)
    rw[hg9] at this ⊢;simpa using this
   have s9:w9.heap.size=g9+1:=by rw[hw9,hg9];simp
   obtain⟨⟨u0,u1,u2,u3⟩,uf⟩:=cells4 H8;obtain⟨⟨v0,v1,v2,v3⟩,vf⟩:=cells4 H9a;have uf2:=uf 2;have vf2:=vf 2;have HG9:=Lib.hid hg9;have HW9:=Lib.hid hw9;clear hg9 hw9 H9a H8 S8 R8;go_upto_region 10 with fail;rw[<-HG9.out,<-HW9.out];clear u0 u1 u2 u3 uf uf2 v0 v1 v2 v3 vf vf2;obtain⟨gX,hgX⟩:∃gX,gX=w9.heap.size:=⟨_,rfl⟩
   obtain⟨wX,hwX⟩:∃wX,wX=(w9.setCell ⟨g7,3,none⟩ (.slice (some ⟨gX,0,none⟩) 4 4)).alloc (.cells #[.int .i64 1,.int .i64 2,.int .i64 3,.int .i64 2] 3):=⟨_,rfl⟩
   have h7X:g7<w9.heap.size:=(Array.getElem?_eq_some_iff.1 H9).1;have HXa:(w9.alloc (.cells #[.int .i64 1,.int .i64 2,.int .i64 3,.int .i64 2] 3)).heap[g7]?=some (.cells #[.slice p.aw c.ws.length p.cw,.slice ao (cs.length+ms.length) cp,.slice (some ⟨g9,0,none⟩) 3 3,.slice p.ak c.ks.length p.ck] 26):=(Below.heap_alloc _ _ _ h7X).trans H9;have HX:wX.heap[g7]?=some (.cells #[.slice p.aw c.ws.length p.cw,.slice ao (cs.length+ms.length) cp,.slice (some ⟨g9,0,none⟩) 3 3,.slice (some ⟨gX,0,none⟩) 4 4] 26):=by rw[hwX];exact(Below.heap_alloc _ _ _ (by simpa using h7X)).trans (heap_setCell_same _ _ 3 _ _ _ H9)
   have SX:Step (fun k=>k=4\/k=9) w7 o wX oa:=by rw[hwX];exact(S9.setCell ⟨g7,3,none⟩ _ (.inr hDA)).trans (Step.ofBelow oa (b1 _ _))
   have RX:Row wX oa 4 3 1 (.slice ao (cs.length+ms.length) cp) (cs.length+ms.length) (isV (cs++ms)):=by
    rw[hwX];exact(R9.step ((Step.refl (fun k=>k=9) _ oa).setCell ⟨g7,3,none⟩ _ hDA) (by decide)).step (Step.ofBelow (I:=fun _=>False) oa (b1 _ _)) (fun h=>h)
   have NX:Lsv wX (some ⟨g9,0,none⟩) (nsV [fewS,oddS,noneS]):=by
    rw[hwX];exact(lsv_set N9 (by have:=HG9.out;omega)).below (b1 _ _)
   have KX:Lsv wX (some ⟨gX,0,none⟩) (isV [1,2,3,2]):=by
    rw[hwX];refine k4g_lsv (t:=3) (p:=(0,0)) ?_ (by rw[hgX];simp)
    have:=heap_alloc_new (w9.setCell ⟨g7,3,none⟩ (.slice (some ⟨gX,0,none⟩) 4 4)) (.cells #[.int .i64 1,.int .i64 2,.int .i64 3,.int .i64 2] 3)
    rw[hgX] at this ⊢;simpa using this
   obtain⟨⟨u0,u1,u2,u3⟩,uf⟩:=cells4 H9;obtain⟨⟨v0,v1,v2,v3⟩,vf⟩:=cells4 HXa;have uf3:=uf 3;have vf3:=vf 3;have HGX:=Lib.hid hgX;have HWX:=Lib.hid hwX;have BX:=BST SX (by decide);have FX:=F6.below BX;have TX:=T6.below BX;have JX:=bx3_below J6 I6 BX;have IX:=Nat.lt_of_lt_of_le I6 BX.size;have BBX:=bdt BB6 BX z6;have zX:=Nat.le_trans z6 BX.size;obtain⟨q,hq⟩:∃q:Pl,q=⟨p.aw,p.cw,ao,cp,some ⟨g9,0,none⟩,3,some ⟨gX,0,none⟩,4⟩:=⟨_,rfl⟩
   obtain⟨d,hd⟩:∃d:Cd,d=cdT l (cs++ms):=⟨_,rfl⟩
   have CX:CdW wX q d:=by
    rw[hq,hd];exact⟨cdT_ok (fun u hu=>(List.mem_append.1 hu).elim (okS u) (okM u)),Q6.below BX,RX.lsv,NX,KX,by simp[cdT];omega,by simp[cdT];omega,by simp[cdT],by simp[cdT]⟩
   have HV:=verify_c wX q d FX TX CX;have hvd:vrfA d=((st,rd,kd),er,at_):=by
    have h1:=HRES.out;rw[HC.out] at h1;rw[hd,cdT_vrf okS (by omega) (by rw[h1];exact h180),h1]
   have ev:cdV q d=.agg #[.slice p.aw c.ws.length p.cw,.slice ao (cs.length+ms.length) cp,.slice (some ⟨g9,0,none⟩) 3 3,.slice (some ⟨gX,0,none⟩) 4 4]:=by rw[hq,hd,HC.out];simp[cdV,cdA,cdT,cdS]
   rw[hvd,resV_eq,ev] at HV;clear s9 hgX hwX HXa H9 S9 R9 N9 RX NX KX CX FX TX Q6 S6 SX hq hd hvd ev J6 BST NW M6 B7 BB6;go_upto_region 11 with fail;rw[<-HGX.out,<-HWX.out];clear u0 u1 u2 u3 uf uf3 v0 v1 v2 v3 vf vf3;obtain⟨⟨u0,u1,u2,u3⟩,uf⟩:=cells4 HX;clear HX;go_wp2_with fail;refine HV.mono ?_;rintro e wB ⟨rfl,BB⟩;have JB:=bx3_below JX IX BB;have IB:=Nat.lt_of_lt_of_le IX BB.size;have BBB:=bdt BBX BB zX;have zB:=Nat.le_trans zX BB.size;clear HV BB u0 u1 u2 u3 uf JX IX BBX;obtain⟨gC,hgC⟩:∃gC,gC=wB.heap.size:=⟨_,rfl⟩
   obtain⟨wC,hwC⟩:∃wC,wC=wB.alloc (.cells (lmA (st,rd,kd)) 29):=⟨_,rfl⟩
   have BC:Below wB.heap.size wB wC:=by rw[hwC];exact b1 _ _
   obtain⟨y0,y1,y2⟩:bx3 (st,rd,kd) wC gC:=by rw[hwC,hgC];exact bx3_new (st,rd,kd) wB
   obtain⟨x0,x1,x2⟩:=bx3_below JB IB BC;have hend:Below w.heap.size w wC:=by rw[<-HG.out];exact bdt BBB BC zB
   have HEND:=Lib.hid hend;have HGC:=Lib.hid hgC;clear hend JB IB BBB BC hgC;go_upto_region 12 with fail;rw[<-hwC,<-HGC.out];clear hwC;go_wp2;go_ret;exact⟨by simp,HEND.out⟩
end Go.Proofs.YtlojiclhoiddlaaDoor

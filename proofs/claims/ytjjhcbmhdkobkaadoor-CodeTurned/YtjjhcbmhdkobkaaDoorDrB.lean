import Derived.Test.YtjjhcbmhdkobkaaDoorReD
import Derived.Deep.RegionLaw
set_option maxRecDepth 100000
set_option maxHeartbeats 8000000
namespace Go.Proofs.YtjjhcbmhdkobkaaDoor
open Go.ChangeShapes Go.WideShapes Go.ChangeAt Go.RowKit
set_option linter.unusedVariables false
set_option linter.unusedSimpArgs false
abbrev Id7:Nat->Prop:=fun k=>2<=k/\k<=7
theorem s40 {w:World}{b:Nat}{x y z u:Value}{t:TypeId}(h:w.heap[b]?=some (.cells #[x,y,z,u] t))(v:Value):(w.setCell ⟨b,0,none⟩ v).heap[b]?=some (.cells #[v,y,z,u] t):=heap_setCell_same w b 0 _ _ _ h
theorem s41 {w:World}{b:Nat}{x y z u:Value}{t:TypeId}(h:w.heap[b]?=some (.cells #[x,y,z,u] t))(v:Value):(w.setCell ⟨b,1,none⟩ v).heap[b]?=some (.cells #[x,v,z,u] t):=heap_setCell_same w b 1 _ _ _ h
theorem s42 {w:World}{b:Nat}{x y z u:Value}{t:TypeId}(h:w.heap[b]?=some (.cells #[x,y,z,u] t))(v:Value):(w.setCell ⟨b,2,none⟩ v).heap[b]?=some (.cells #[x,y,v,u] t):=heap_setCell_same w b 2 _ _ _ h
theorem s43 {w:World}{b:Nat}{x y z u:Value}{t:TypeId}(h:w.heap[b]?=some (.cells #[x,y,z,u] t))(v:Value):(w.setCell ⟨b,3,none⟩ v).heap[b]?=some (.cells #[x,y,z,v] t):=heap_setCell_same w b 3 _ _ _ h
structure Dsd (w0:World)(o0:Nat->Nat)(gc rb:Nat)(s:ByteArray)(wr:World)(o:Nat->Nat)(va vb vc vd:Value)(st:St):Prop where
 bx:Blk wr o 7 gc (.cells #[va,vb,vc,vd] 26)
 rd:RrW wr o rb s st
 sp:Step Id7 w0 o0 wr o
theorem Dsd.step {I:Nat->Prop}{w0 w w':World}{o0 o o':Nat->Nat}{gc rb:Nat}{s:ByteArray}{va vb vc vd:Value}{st:St}(h:Dsd w0 o0 gc rb s w o va vb vc vd st)(x:Step I w o w' o')(h2:¬I 2)(h7:¬I 7)(hi:∀ k,I k->Id7 k):Dsd w0 o0 gc rb s w' o' va vb vc vd st :=
 ⟨h.bx.step x h7,h.rd.step x h2,h.sp.trans (x.mono hi)⟩
theorem Dsd.ok {w0 w:World}{o0 o:Nat->Nat}{gc rb:Nat}{s:ByteArray}{va vb vc vd:Value}{st:St}(h:Dsd w0 o0 gc rb s w o va vb vc vd st):w.cell? ⟨rb,2,none⟩=some (.bool st.isSome):=by
 have:=h.rd
 cases st with
 | none=>obtain⟨a,ha,hb⟩:=this;exact(cells3r hb.1).2.2.1
 | some l=>obtain⟨a,ha,hl,hb⟩:=this;exact(cells3r hb.1).2.2.1
theorem Dsd.count {w0 w:World}{o0 o:Nat->Nat}{gc rb:Nat}{s:ByteArray}{va vb vc vd:Value}{st:St}(h:Dsd w0 o0 gc rb s w o va vb vc vd st)(hs:s.size<=9223372036854775807)(m:Nat)(hm:m<=100000) :
  Calls Tryd.prog 35 #[.pointer (some ⟨rb,0,none⟩),.int .i64 (m:Nat)] w fun e w'=>e=.returned (.int .i64 (val 0 (cntR m) st:Nat))/\Dsd w0 o0 gc rb s w' o va vb vc vd (nxt (cntR m) st)/\Step Ir w o w' o :=
 (rcount_c m hm w o rb s hs st h.rd).mono fun e w' ⟨g1,g2,g3⟩=>⟨g1,⟨h.bx.step g3 (by decide),g2,h.sp.trans (g3.mono (fun k hk=>by show 2<=k/\k<=7;have:k=2:=hk;omega))⟩,g3⟩
theorem Dsd.num {w0 w:World}{o0 o:Nat->Nat}{gc rb:Nat}{s:ByteArray}{va vb vc vd:Value}{st:St}(h:Dsd w0 o0 gc rb s w o va vb vc vd st)(hs:s.size<=9223372036854775807) :
  Calls Tryd.prog 36 #[.pointer (some ⟨rb,0,none⟩)] w fun e w'=>e=.returned (.int .u64 (val 0 numR st:Nat))/\Dsd w0 o0 gc rb s w' o va vb vc vd (nxt numR st)/\Step Ir w o w' o :=
 (rnum_c w o rb s hs st h.rd).mono fun e w' ⟨g1,g2,g3⟩=>⟨g1,⟨h.bx.step g3 (by decide),g2,h.sp.trans (g3.mono (fun k hk=>by show 2<=k/\k<=7;have:k=2:=hk;omega))⟩,g3⟩
theorem sno {I:Nat->Prop}{w:World}{o:Nat->Nat}:Step I w o w.drew o:=(Step.refl I w o).drew
theorem lef_none {α:Type}(one:List UInt8->Option (α × List UInt8))(m:Nat)(xs:List α):lef one m xs none=none:=rfl
theorem head_no {s:ByteArray}(h:¬(3<=s.size/\s.extract 0 3=⟨#[73,67,49]⟩))(d:Cd):¬IsE s.data.toList d:=by
 intro hd;apply h;have hb:=hd.2.2;have hl:s.data.toList.length=s.size:=Array.length_toList;have e:s.data.toList=[73,67,49]++(s.data.toList.drop 3):=by
  rw[<-hb];simp[encB,sldB,bodB]
 have h3:3<=s.size:=by
  have:=congrArg List.length e
  rw[List.length_append,hl] at this;simp at this;omega
 refine⟨h3,?_⟩;apply ByteArray.ext;apply Array.ext';rw[ByteArray.data_extract,Array.toList_extract,e];simp
theorem head_yes {s:ByteArray}(h3:3<=s.size)(h:s.extract 0 3=⟨#[73,67,49]⟩):nxt (fun l=>(takR 3 l).bind fun m=>if m.1=[73,67,49] then some m else none) (some s.data.toList)=some (s.data.toList.drop 3):=by
 have hl:s.data.toList.length=s.size:=Array.length_toList;have e:s.data.toList.take 3=[73,67,49]:=by
  have:=congrArg (fun z:ByteArray=>z.data.toList) h
  simp only[ByteArray.data_extract,Array.toList_extract] at this;simpa using this
 have t:takR 3 s.data.toList=some ([73,67,49],s.data.toList.drop 3):=by
  unfold takR;rw[if_pos (by omega),e]
 unfold nxt;simp[t]
theorem RrW.at {w:World}{o:Nat->Nat}{rb:Nat}{s:ByteArray}{st:St}(h:RrW w o rb s st):∃a:Nat,a<=s.size/\Blk w o 2 rb (.cells #[.string s,.int .i64 (a:Nat),.bool st.isSome] 60)/\∀ l,st=some l->l=s.data.toList.drop a:=by
 cases st with
 | none=>obtain⟨a,ha,hb⟩:=h;exact⟨a,ha,hb,fun l h=>by cases h⟩
 | some l=>obtain⟨a,ha,hl,hb⟩:=h;exact⟨a,ha,hb,fun l' h=>by cases h;exact hl⟩
theorem cnt_none (m:Nat)(st:St)(h:nxt (cntR m) st=none):val 0 (cntR m) st=0:=by
 cases st with
 | none=>rfl
 | some l =>
  cases hc:cntR m l with
  | none=>exact val_no hc
  | some x=>obtain⟨n,r⟩:=x;rw[nxt_ok hc] at h;cases h
theorem ext_mid (s:ByteArray)(a K:Nat):(s.extract a (a+K)).data.toList=(s.data.toList.drop a).take K:=by
 rw[ByteArray.data_extract,Array.toList_extract,List.extract_eq_take_drop]
 congr 1
 omega
theorem tak_text {s:ByteArray}{st:St}{a K:Nat}(hl:∀ l,st=some l->l=s.data.toList.drop a)(hK:K<=s.size-a)(h0:st=none->K=0):(⟨(val [] (takR K) st).toArray⟩:ByteArray)=s.extract a (a+K) /\
  ∀ (w':World) (o':Nat->Nat) (rb:Nat),a<=s.size->Blk w' o' 2 rb (.cells #[.string s,.int .i64 ((a+K:Nat):Int),.bool st.isSome] 60)->RrW w' o' rb s (nxt (takR K) st):=by
 have hln:s.data.toList.length=s.size:=Array.length_toList;cases st with
 | none =>
  obtain rfl:=h0 rfl;refine⟨?_,fun w' o' rb ha hb=>⟨a+0,by omega,hb⟩⟩;apply ByteArray.ext;apply Array.ext';rw[ext_mid];simp[val]
 | some l =>
  have e:=hl l rfl;have hle:K<=l.length:=by rw[e,List.length_drop];omega
  obtain⟨v1,v2⟩:=tak_yes hle;rw[v1,v2];refine⟨?_,fun w' o' rb ha hb=>⟨a+K,by omega,by rw[e,List.drop_drop],hb⟩⟩;apply ByteArray.ext;apply Array.ext';rw[ext_mid,e]
theorem tak_bad {s:ByteArray}{st:St}{a K:Nat}(hl:∀ l,st=some l->l=s.data.toList.drop a)(hK:¬K<=s.size-a)(h0:st=none->K=0):nxt (takR K) st=none:=by
 have hln:s.data.toList.length=s.size:=Array.length_toList;cases st with
 | none=>rfl
 | some l =>
  have e:=hl l rfl;exact(tak_no (by rw[e,List.length_drop];omega)).2
theorem four {st0 t1 t2 t3 t4:St}{A B D:List UInt8->Option (List Int × List UInt8)}{C:List UInt8->Option (List ByteArray × List UInt8)}{x1 x2 x4:List Int}{x3:List ByteArray}
  (E1:st0.bind A=t1.map (fun l=>(x1,l))) (E2:t1.bind B=t2.map (fun l=>(x2,l))) (E3:t2.bind C=t3.map (fun l=>(x3,l))) (E4:t3.bind D=t4.map (fun l=>(x4,l))) :
  ((st0.bind A).bind fun a=>(B a.2).bind fun b=>(C b.2).bind fun c=>(D c.2).map fun d=>((⟨a.1,b.1,c.1,d.1⟩:Cd),d.2))=t4.map (fun l=>((⟨x1,x2,x3,x4⟩:Cd),l)):=by
 rw[E1];cases t1 with
 | none=>cases t2 with
  | none=>cases t3 with
   | none=>cases t4 with
    | none=>rfl
    | some l=>simp at E4
   | some l=>simp at E3
  | some l=>simp at E2
 | some l1 =>
  simp only[Option.bind_some] at E2;simp only[Option.map_some,Option.bind_some];rw[E2];cases t2 with
  | none=>cases t3 with
   | none=>cases t4 with
    | none=>rfl
    | some l=>simp at E4
   | some l=>simp at E3
  | some l2 =>
   simp only[Option.bind_some] at E3;simp only[Option.map_some,Option.bind_some];rw[E3];cases t3 with
   | none=>cases t4 with
    | none=>rfl
    | some l=>simp at E4
   | some l3 =>
    simp only[Option.bind_some] at E4;simp only[Option.map_some,Option.bind_some];rw[E4];cases t4<;>rfl
theorem rdecode_c (s:ByteArray)(w:World)(hs:s.size<=9223372036854775807) :
  Calls Tryd.prog 19 #[.string s] w (DecOut s.data.toList w):=by
 obtain⟨iw,iw1,iw2,iw3,iw4⟩:=info_parts infoW;obtain⟨ii,ii1,ii2,ii3,ii4⟩:=info_parts infoI;obtain⟨is,is1,is2,is3,is4⟩:=info_parts infoS;obtain⟨g1,hg1⟩:∃g1,g1=w.heap.size:=⟨_,rfl⟩
 obtain⟨w2,hw2⟩:∃w2,w2=(w.alloc (.cells nil4 26)).alloc (.cells nil4 26):=⟨_,rfl⟩
 have B2:Below g1 w w2:=by rw[hw2,hg1];exact((Below.refl _ w).alloc (Nat.le_refl _) _).alloc (by simp) _
 have z2:w2.heap.size=g1+2:=by rw[hw2,hg1];simp
 have G2:w2.heap[g1]?=some (.cells nil4 26):=by rw[hw2,hg1];exact(heap_alloc_old _ _ (by simp)).trans (heap_alloc_new _ _)
 have C2:w2.heap[g1+1]?=some (.cells nil4 26):=by
  have:=heap_alloc_new (w.alloc (.cells nil4 26)) (.cells nil4 26)
  rw[hw2,hg1];simpa using this
 obtain⟨w3,hw3⟩:∃w3,w3=w2.alloc (.cells #[.string s,.int .i64 3,.bool true] 60):=⟨_,rfl⟩
 have B3:Below w2.heap.size w2 w3:=by rw[hw3];exact b1 _ _
 obtain⟨o0,ho0⟩:∃o0:Nat->Nat,o0=fun k=>if k=g1+2 then 2 else if k=g1+1 then 7 else 0:=⟨_,rfl⟩
 have hol:∀ k,k<g1+1->o0 k=0:=fun k hk=>by rw[ho0];show (if k=g1+2 then 2 else if k=g1+1 then 7 else 0)=0;rw[if_neg (by omega),if_neg (by omega)]
 have R3:w3.heap[g1+2]?=some (.cells #[.string s,.int .i64 3,.bool true] 60):=by
  rw[hw3,show g1+2=w2.heap.size by omega];exact heap_alloc_new _ _
 have B3':Below g1 w w3:=B2.trans (B3.mono (by omega));have G3:=(B3.block g1 (by omega)).trans G2;have HZ3:Hid (g1+3<=w3.heap.size):=by show _<=_;rw[hw3];simp[z2]
 have HG1:=Lib.hid hg1;obtain⟨⟨c0,c1,c2,c3⟩,cf⟩:=cells4 C2;obtain⟨⟨d0,d1,d2,d3⟩,df⟩:=cells4 G2;have df0:=df 0;have df1:=df 1;have df2:=df 2;have df3:=df 3;by_cases hh:3<=s.size/\s.extract 0 3=⟨#[73,67,49]⟩
 ·obtain⟨h3,hx⟩:=hh;have h3I:¬(s.size:Int)<3:=by omega
  have h3J:(3:Int)<=(s.size:Int):=by omega
  have h3N:¬s.size<3:=by omega
  have D3:Dsd w3 o0 (g1+1) (g1+2) s w3 o0 (.slice none 0 0) (.slice none 0 0) (.slice none 0 0) (.slice none 0 0) (some (s.data.toList.drop 3)) :=
   ⟨⟨(B3.block (g1+1) (by omega)).trans C2,by rw[ho0];simp⟩,⟨3,h3,rfl,R3,by rw[ho0];simp⟩,Step.refl _ _ _⟩
  have HRD:Hid ((some s.data.toList:St).bind (rdC 2000 256)=((some (s.data.toList.drop 3):St).bind (rdL 32768 wrdR)).bind fun a=>(rdL 32768 conR a.2).bind fun b=>(rdL 2000 (namR 2000) b.2).bind fun c=>(rdL 256 (kndR 256) c.2).map fun d=>(⟨a.1,b.1,c.1,d.1⟩,d.2)):=by
   show _=_;rw[rdC_st,head_yes h3 hx]
  generalize (some (s.data.toList.drop 3):St)=st0 at *;have HN:=D3.count hs 32768 (by omega);have HST:=lef_start 32768 wrdR st0;have hcl:=cnt_le 32768 st0;generalize val 0 (cntR 32768) st0=N at *;generalize nxt (cntR 32768) st0=st1 at *;have HH:=Lib.hid HST;clear HST hg1 ho0 R3 D3 B2 B3;go_enter Tryd.func19,Tryd.ntmps19;go_upto_region 4 with fail;rw[<-hw2];clear hw2;go_wp2_with fail;rw[<-hw3,<-HG1.out];clear hw3;refine HN.mono ?_;rintro e w4 ⟨rfl,D1,S1⟩;clear HN
  go_upto_block 0 with fail
  go_cut [] (fun wx=>∃(xs:List Int) (va:Value) (o3:Nat->Nat) (st3:St),Row wx o3 3 33 1 va xs.length (wsV xs)/\Dsd w3 o0 (g1+1) (g1+2) s wx o3 va (.slice none 0 0) (.slice none 0 0) (.slice none 0 0) st3/\Hid (st0.bind (rdL 32768 wrdR)=st3.map (fun l=>(xs,l)))/\xs.length<=32768)
  case first =>
   go_wp2_with fail;go_loopw [7] (fun vi wr=>∃(k:Nat) (xs:List Int) (va:Value) (o3:Nat->Nat) (st3:St),vi=.int .i64 (k:Nat)/\k<=N/\xs.length=k/\Row wr o3 3 33 1 va k (wsV xs)/\Dsd w3 o0 (g1+1) (g1+2) s wr o3 va (.slice none 0 0) (.slice none 0 0) (.slice none 0 0) st3/\Hid (st0.bind (rdL 32768 wrdR)=lef wrdR (N-k) xs st3)) (fun vi _=>N-(intOf vi).toNat)
   case atStart=>exact⟨0,[],.slice none 0 0,o0,st1,by go_num,by omega,rfl,Row.nil _ _ _ _ _,D1,HH.out⟩
   case round =>
    clear HH D1 S1;obtain⟨k,xs,va,o3,st3,rfl,hk,hxl,R3,D3,HL⟩:=hrel;have hok:=D3.ok;by_cases hgo:st3.isSome=true/\k<N
    ·obtain⟨hgs,hlt⟩:=hgo;rw[hgs] at hok;have hkI:(k:Int)<(N:Int):=by omega
     cases st3 with
     | none=>cases hgs
     | some l =>
      obtain⟨v1,v2⟩:=wrd_val (some l);have HO:=(D3.step (sno (I:=fun _=>False)) id id (fun k hk=>hk.elim)).num hs;rw[<-v2,<-v1] at HO;clear v1 v2;have HL2:Hid (st0.bind (rdL 32768 wrdR)=lef wrdR (N-(k+1)) (xs++[val (0:Int) wrdR (some l)]) (nxt wrdR (some l))):=by
       show _=_;rw[<-lef_next,show N-(k+1)+1=N-k by omega];exact HL.out
      generalize val (0:Int) wrdR (some l)=x at *;generalize nxt wrdR (some l)=st4 at *;have D3d:=D3.step (sno (I:=fun _=>False)) id id (fun k hk=>hk.elim);obtain⟨⟨q0,q1,q2,q3⟩,qf⟩:=cells4 D3d.bx.1;have bA:k+1<=maxLen:=by unfold maxLen;omega
      have bB:(k+1)*8<=140737488355328:=by omega
      clear HL;go_wp2_with fail;go_region_law (first|(go_simp;go_at_call 36;refine HO.mono ?_;rintro e w4 ⟨rfl,D4,S4⟩;have R4:=(R3.step (sno (I:=fun _=>False)) id).step S4 (by decide);have D4a:=D4.step (Step.ofBelow (I:=fun _=>False) o3 (b1 w4 (.cells #[.int .u64 x] 33))) id id (fun k hk=>hk.elim);obtain⟨⟨a0,a1,a2,a3⟩,af⟩:=cells4 D4.bx.1;obtain⟨⟨e0,e1,e2,e3⟩,ef⟩:=cells4 D4a.bx.1)|(refine step_append_lab rfl (.tmp 41) (.tmp 44) 22 rfl 33 iw (.int .u64 0) 1 8 Tryd.underlying22 iw1 iw2 iw3 iw4 rfl (by decide) o3 3 va k (wsV xs) (by simp[Act.eval,Act.put]) (R4.step (Step.ofBelow (I:=fun _=>False) o3 (b1 _ _)) id) ⟨w4.heap.size,0,none⟩ 1 1 [.int .u64 x] (by simp[Act.eval,Act.put]) rfl (new_one w4 _ _) (one_one _ rfl) (by decide) bA bB ?_;intro g5 c5 w5 o5 R5 S5;have D5:=D4a.step S5 (by decide) (by decide) (fun k hk=>by show 2<=k/\k<=7;have:k=3:=hk;omega);obtain⟨⟨h0,h1,h2,h3⟩,hf⟩:=cells4 D5.bx.1;have hff:=hf 0))
      all_goals (
       have R6:Row w5 o5 3 33 1 (.slice (some ⟨g5,0,none⟩) (k+1) c5) (k+1) (wsV (xs++[x])):=(by
        have e:wsV (xs++[x])=wsV xs++[.int .u64 x]:=by simp[wsV]
        rw[e];exact R5)
       have hxl2:(xs++[x]).length=k+1:=by simp[hxl]
       have HD:Hid (Blk (w5.setCell ⟨g1+1,0,none⟩ (.slice (some ⟨g5,0,none⟩) (k+1) c5)) o5 7 (g1+1) (.cells #[.slice (some ⟨g5,0,none⟩) (k+1) c5,.slice none 0 0,.slice none 0 0,.slice none 0 0] 26)/\Step (fun k=>k=7) w5 o5 (w5.setCell ⟨g1+1,0,none⟩ (.slice (some ⟨g5,0,none⟩) (k+1) c5)) o5):=⟨⟨s40 D5.bx.1 _,D5.bx.2⟩,(Step.refl _ w5 o5).setCell ⟨g1+1,0,none⟩ _ D5.bx.2⟩
       clear R5 R4 D4 D4a S4 D3 D3d R3 HO S5;go_wp2;go_roundw
       case rel =>
        (try ((repeat apply Exists.intro);refine⟨?_,rfl⟩))
        obtain⟨HDa,HDb⟩:=HD.out;exact⟨k+1,xs++[x],_,o5,st4,by go_num,by omega,hxl2,R6.step HDb (by decide),⟨HDa,D5.rd.step HDb (by decide),D5.sp.trans (HDb.mono (fun k hk=>by show 2<=k/\k<=7;have:k=7:=hk;omega))⟩,HL2.out⟩
       case measure=>simp[intOf];omega)
    ·have HE:Hid (st0.bind (rdL 32768 wrdR)=st3.map (fun l=>(xs,l))):=by
      show _=_;rw[HL.out];cases st3 with
      | none=>rfl
      | some l=>rw[show N-k=0 by simp at hgo;omega,lef_zero]
     have hbk:¬((k:Int)<(N:Int))\/((k:Int)<(N:Int)/\st3.isSome=false):=by
      cases st3 with
      | none=>by_cases h:(k:Int)<(N:Int);exact .inr ⟨h,rfl⟩;exact .inl h
      | some l=>exact .inl (by simp at hgo;omega)
     clear HL hgo;subst hxl;rcases hbk with hb|⟨hb,hb2⟩
     ·clear hok;go_wp2;go_meet;exact⟨xs,va,o3,st3,R3,D3,HE.out,by omega⟩
     ·rw[hb2] at hok;go_wp2;go_meet;exact⟨xs,va,o3,st3,R3,D3,HE.out,by omega⟩
  case rest =>
   obtain⟨x1,v1,o11,t1,P1,D10,E1,l1⟩:=hcut;clear HH D1 S1;have HN:=D10.count hs 32768 (by omega);have HST:=lef_start 32768 conR t1;have hcl:=cnt_le 32768 t1;generalize val 0 (cntR 32768) t1=N at *;generalize nxt (cntR 32768) t1=st1 at *;have HH:=Lib.hid HST;clear HST D10
   go_upto_block 2 with (first|(go_at_call 35;refine HN.mono ?_;rintro e w4 ⟨rfl,D1,S1⟩;have P1:=P1.step S1 (by decide);clear HN))
   go_cut [] (fun wx=>∃(xs:List Int) (va:Value) (o3:Nat->Nat) (st3:St),Row wx o3 4 3 1 va xs.length (isV xs)/\Row wx o3 3 33 1 v1 x1.length (wsV x1)/\Dsd w3 o0 (g1+1) (g1+2) s wx o3 v1 va (.slice none 0 0) (.slice none 0 0) st3/\Hid (t1.bind (rdL 32768 conR)=st3.map (fun l=>(xs,l)))/\xs.length<=32768)
   case first =>
    go_wp2_with fail;go_loopw [8] (fun vi wr=>∃(k:Nat) (xs:List Int) (va:Value) (o3:Nat->Nat) (st3:St),vi=.int .i64 (k:Nat)/\k<=N/\xs.length=k/\Row wr o3 4 3 1 va k (isV xs)/\Row wr o3 3 33 1 v1 x1.length (wsV x1)/\Dsd w3 o0 (g1+1) (g1+2) s wr o3 v1 va (.slice none 0 0) (.slice none 0 0) st3/\Hid (t1.bind (rdL 32768 conR)=lef conR (N-k) xs st3)) (fun vi _=>N-(intOf vi).toNat)
    case atStart=>exact⟨0,[],.slice none 0 0,o11,st1,by go_num,by omega,rfl,Row.nil _ _ _ _ _,P1,D1,HH.out⟩
    case round =>
     clear HH D1 S1 P1;obtain⟨k,xs,va,o3,st3,rfl,hk,hxl,R3,P1,D3,HL⟩:=hrel;have hok:=D3.ok;by_cases hgo:st3.isSome=true/\k<N
     ·obtain⟨hgs,hlt⟩:=hgo;rw[hgs] at hok;have hkI:(k:Int)<(N:Int):=by omega
      cases st3 with
      | none=>cases hgs
      | some l =>
       obtain⟨v1,v2⟩:=con_val (some l);have hN:=numR_lt (some l);have HO:=(D3.step (sno (I:=fun _=>False)) id id (fun k hk=>hk.elim)).num hs;have HZ:=fun w1=>rzag_any (val 0 numR (some l):Nat) w1 (by omega) (by omega);rw[<-v1] at HZ;rw[<-v2] at HO;generalize val 0 numR (some l)=NN at *;clear v1 v2;have HL2:Hid (t1.bind (rdL 32768 conR)=lef conR (N-(k+1)) (xs++[val (0:Int) conR (some l)]) (nxt conR (some l))):=by
        show _=_;rw[<-lef_next,show N-(k+1)+1=N-k by omega];exact HL.out
       generalize val (0:Int) conR (some l)=x at *;generalize nxt conR (some l)=st4 at *;have D3d:=D3.step (sno (I:=fun _=>False)) id id (fun k hk=>hk.elim);obtain⟨⟨q0,q1,q2,q3⟩,qf⟩:=cells4 D3d.bx.1;have bA:k+1<=maxLen:=by unfold maxLen;omega
       have bB:(k+1)*8<=140737488355328:=by omega
       clear HL;go_wp2_with fail;go_region_law (first|(go_simp;go_at_call 36;refine HO.mono ?_;rintro e w4 ⟨rfl,D4,S4⟩;have R4:=(R3.step (sno (I:=fun _=>False)) id).step S4 (by decide);have D4a:=D4.step (Step.ofBelow (I:=fun _=>False) o3 (b1 w4 (.cells #[.int .i64 x] 3))) id id (fun k hk=>hk.elim);obtain⟨⟨a0,a1,a2,a3⟩,af⟩:=cells4 D4.bx.1;obtain⟨⟨e0,e1,e2,e3⟩,ef⟩:=cells4 D4a.bx.1)|(go_simp;go_at_call 37;refine(HZ _).mono ?_;rintro e w4b ⟨rfl,hww⟩;subst w4b)|(refine step_append_lab rfl (.tmp 61) (.tmp 65) 23 rfl 3 ii (.int .i64 0) 1 8 Tryd.underlying23 ii1 ii2 ii3 ii4 rfl (by decide) o3 4 va k (isV xs) (by simp[Act.eval,Act.put]) (R4.step (Step.ofBelow (I:=fun _=>False) o3 (b1 _ _)) id) ⟨w4.heap.size,0,none⟩ 1 1 [.int .i64 x] (by simp[Act.eval,Act.put]) rfl (new_one w4 _ _) (one_one _ rfl) (by decide) bA bB ?_;intro g5 c5 w5 o5 R5 S5;have D5:=D4a.step S5 (by decide) (by decide) (fun k hk=>by show 2<=k/\k<=7;have:k=4:=hk;omega);obtain⟨⟨h0,h1,h2,h3⟩,hf⟩:=cells4 D5.bx.1;have hff:=hf 1;have P1n:=(((P1.step (sno (I:=fun _=>False)) id).step S4 (by decide)).step (Step.ofBelow (I:=fun _=>False) o3 (b1 _ _)) id).step S5 (by decide)))
       all_goals (
        have R6:Row w5 o5 4 3 1 (.slice (some ⟨g5,0,none⟩) (k+1) c5) (k+1) (isV (xs++[x])):=(by
         have e:isV (xs++[x])=isV xs++[.int .i64 x]:=by simp[isV]
         rw[e];exact R5)
        have hxl2:(xs++[x]).length=k+1:=by simp[hxl]
        have HD:Hid (Blk (w5.setCell ⟨g1+1,1,none⟩ (.slice (some ⟨g5,0,none⟩) (k+1) c5)) o5 7 (g1+1) (.cells #[v1,.slice (some ⟨g5,0,none⟩) (k+1) c5,.slice none 0 0,.slice none 0 0] 26)/\Step (fun k=>k=7) w5 o5 (w5.setCell ⟨g1+1,1,none⟩ (.slice (some ⟨g5,0,none⟩) (k+1) c5)) o5):=⟨⟨s41 D5.bx.1 _,D5.bx.2⟩,(Step.refl _ w5 o5).setCell ⟨g1+1,1,none⟩ _ D5.bx.2⟩
        clear R5 R4 D4 D4a S4 D3 D3d R3 HO S5;go_wp2;go_roundw
        case rel =>
         (try ((repeat apply Exists.intro);refine⟨?_,rfl⟩))
         obtain⟨HDa,HDb⟩:=HD.out;exact⟨k+1,xs++[x],_,o5,st4,by go_num,by omega,hxl2,R6.step HDb (by decide),P1n.step HDb (by decide),⟨HDa,D5.rd.step HDb (by decide),D5.sp.trans (HDb.mono (fun k hk=>by show 2<=k/\k<=7;have:k=7:=hk;omega))⟩,HL2.out⟩
        case measure=>simp[intOf];omega)
     ·have HE:Hid (t1.bind (rdL 32768 conR)=st3.map (fun l=>(xs,l))):=by
       show _=_;rw[HL.out];cases st3 with
       | none=>rfl
       | some l=>rw[show N-k=0 by simp at hgo;omega,lef_zero]
      have hbk:¬((k:Int)<(N:Int))\/((k:Int)<(N:Int)/\st3.isSome=false):=by
       cases st3 with
       | none=>by_cases h:(k:Int)<(N:Int);exact .inr ⟨h,rfl⟩;exact .inl h
       | some l=>exact .inl (by simp at hgo;omega)
      clear HL hgo;subst hxl;rcases hbk with hb|⟨hb,hb2⟩
      ·clear hok;go_wp2;go_meet;exact⟨xs,va,o3,st3,R3,P1,D3,HE.out,by omega⟩
      ·rw[hb2] at hok;go_wp2;go_meet;exact⟨xs,va,o3,st3,R3,P1,D3,HE.out,by omega⟩
   case rest =>
    obtain⟨x2,v2,o12,t2,P2,P1,D20,E2,l2⟩:=hcut;clear HH D1 S1;have HN:=D20.count hs 2000 (by omega);have HST:=lef_start 2000 (namR 2000) t2;have hcl:=cnt_le 2000 t2;generalize val 0 (cntR 2000) t2=N at *;generalize nxt (cntR 2000) t2=st1 at *;have HH:=Lib.hid HST;clear HST D20
    go_upto_block 4 with (first|(go_at_call 35;refine HN.mono ?_;rintro e w4 ⟨rfl,D1,S1⟩;have P1:=P1.step S1 (by decide);have P2:=P2.step S1 (by decide);clear HN))
    go_cut [] (fun wx=>∃(xs:List ByteArray) (va:Value) (o3:Nat->Nat) (st3:St),Row wx o3 5 9 1 va xs.length (nsV xs)/\Row wx o3 3 33 1 v1 x1.length (wsV x1)/\Row wx o3 4 3 1 v2 x2.length (isV x2)/\Dsd w3 o0 (g1+1) (g1+2) s wx o3 v1 v2 va (.slice none 0 0) st3/\Hid (t2.bind (rdL 2000 (namR 2000))=st3.map (fun l=>(xs,l)))/\xs.length<=2000)
    case first =>
     go_wp2_with fail;go_loopw [9] (fun vi wr=>∃(k:Nat) (xs:List ByteArray) (va:Value) (o3:Nat->Nat) (st3:St),vi=.int .i64 (k:Nat)/\k<=N/\xs.length=k/\Row wr o3 5 9 1 va k (nsV xs)/\Row wr o3 3 33 1 v1 x1.length (wsV x1)/\Row wr o3 4 3 1 v2 x2.length (isV x2)/\Dsd w3 o0 (g1+1) (g1+2) s wr o3 v1 v2 va (.slice none 0 0) st3/\Hid (t2.bind (rdL 2000 (namR 2000))=lef (namR 2000) (N-k) xs st3)) (fun vi _=>N-(intOf vi).toNat)
     case atStart=>exact⟨0,[],.slice none 0 0,o12,st1,by go_num,by omega,rfl,Row.nil _ _ _ _ _,P1,P2,D1,HH.out⟩
     case round =>
      clear HH D1 S1 P1 P2;obtain⟨k,xs,va,o3,st3,rfl,hk,hxl,R3,P1,P2,D3,HL⟩:=hrel;have hok:=D3.ok;by_cases hgo:st3.isSome=true/\k<N
      ·obtain⟨hgs,hlt⟩:=hgo;rw[hgs] at hok;have hkI:(k:Int)<(N:Int):=by omega
       cases st3 with
       | none=>cases hgs
       | some l =>
        have HO:=D3.count hs 2000 (by omega);obtain⟨n1,n2⟩:=nam_val 2000 (some l);have hKc:=cnt_le 2000 (some l);have hK0:=cnt_none 2000 (some l);have HL2:t2.bind (rdL 2000 (namR 2000))=lef (namR 2000) (N-(k+1)) (xs++[val (⟨#[]⟩:ByteArray) (namR 2000) (some l)]) (nxt (namR 2000) (some l)):=by
         rw[<-lef_next,show N-(k+1)+1=N-k by omega];exact HL.out
        rw[n1,n2] at HL2;generalize val 0 (cntR 2000) (some l)=K at *;generalize nxt (cntR 2000) (some l)=st5 at *;have HL3:=Lib.hid HL2;clear HL HL2 n1 n2;go_upto_region 20 with (first|(go_at_call 35;refine HO.mono ?_;rintro e w4 ⟨rfl,D4,S4⟩))
        obtain⟨a5,ha5,hb5,hl5⟩:=D4.rd.at;obtain⟨u0,u1,u2,uf1,uf2⟩:=cells3r hb5.1;by_cases hK:K<=s.size-a5
        ·obtain⟨T1,T2⟩:=tak_text hl5 hK hK0;rw[T1] at HL3;obtain⟨q,hq⟩:∃q,q=a5+K:=⟨_,rfl⟩
         rw[<-hq] at HL3 T2;have hq1:(a5:Int)+(K:Int)=(q:Int):=by omega
         have hq2:(q:Int)<=(s.size:Int):=by omega
         have hq3:(a5:Int)<=(q:Int):=by omega
         have hq4:¬((s.size:Int)-(a5:Int)<(K:Int)):=by omega
         have hq5:IntKind.i64.wrap ((a5:Int)+(K:Int))=(q:Int):=by rw[IntKind.wrap_i64];omega
         have hq6:IntKind.i64.wrap (q:Int)=(q:Int):=by rw[IntKind.wrap_i64];omega
         obtain⟨x,hx5⟩:∃x,s.extract a5 q=x:=⟨_,rfl⟩
         rw[hx5] at HL3;generalize nxt (takR K) st5=st6 at *;have T2:=Lib.hid T2;clear T1 hl5 hq hK hK0;have D4d:=D4.step (sno (I:=fun _=>False)) id id (fun k hk=>hk.elim);have R4:=R3.step S4 (by decide);have D4a:=D4.step (Step.ofBelow (I:=fun _=>False) o3 (b1 w4 (.cells #[.string x] 9))) id id (fun k hk=>hk.elim);obtain⟨⟨a0,a1,a2,a3⟩,af⟩:=cells4 D4d.bx.1;obtain⟨⟨e0,e1,e2,e3⟩,ef⟩:=cells4 D4a.bx.1;have bA:k+1<=maxLen:=by unfold maxLen;omega
         have bB:(k+1)*16<=140737488355328:=by omega
         obtain⟨r0,r1,r2,rf1,rf2⟩:=cells3r (hb5.step (sno (I:=fun _=>False)) id).1;obtain⟨y0,y1,y2,yf1,yf2⟩:=cells3r (hb5.step (Step.ofBelow (I:=fun _=>False) o3 (b1 w4 (.cells #[.string x] 9))) id).1;go_wp2_with fail;go_region_law (refine step_append_lab rfl (.tmp 96) (.tmp 109) 24 rfl 9 is (.string ⟨#[]⟩) 1 16 Tryd.underlying24 is1 is2 is3 is4 rfl (by decide) o3 5 va k (nsV xs) (by simp[Act.eval,Act.put]) ((R4.step (Step.ofBelow (I:=fun _=>False) o3 (b1 _ _)) id).step (sno (I:=fun _=>False)) id) ⟨w4.heap.size,0,none⟩ 1 1 [.string x] (by simp[Act.eval,Act.put]) rfl (new_one w4 _ _) (one_one _ rfl) (by decide) bA bB ?_;intro g5 c5 w5 o5 R5 S5;have D5:=(D4a.step (sno (I:=fun _=>False)) id id (fun k hk=>hk.elim)).step S5 (by decide) (by decide) (fun k hk=>by show 2<=k/\k<=7;have:k=5:=hk;omega);obtain⟨⟨h0,h1,h2,h3⟩,hf⟩:=cells4 D5.bx.1;have hff:=hf 2;have hb6:=((hb5.step (Step.ofBelow (I:=fun _=>False) o3 (b1 w4 (.cells #[.string x] 9))) id).step (sno (I:=fun _=>False)) id).step S5 (by decide))
         all_goals (
          have R6:Row w5 o5 5 9 1 (.slice (some ⟨g5,0,none⟩) (k+1) c5) (k+1) (nsV (xs++[x])):=(by
           have e:nsV (xs++[x])=nsV xs++[.string x]:=by simp[nsV]
           rw[e];exact R5)
          have hxl2:(xs++[x]).length=k+1:=by simp[hxl]
          have P1n:=(((P1.step S4 (by decide)).step (Step.ofBelow (I:=fun _=>False) o3 (b1 w4 (.cells #[.string x] 9))) id).step (sno (I:=fun _=>False)) id).step S5 (by decide);have P2n:=(((P2.step S4 (by decide)).step (Step.ofBelow (I:=fun _=>False) o3 (b1 w4 (.cells #[.string x] 9))) id).step (sno (I:=fun _=>False)) id).step S5 (by decide);obtain⟨w6,hw6⟩:∃w6,w6=w5.setCell ⟨g1+1,2,none⟩ (.slice (some ⟨g5,0,none⟩) (k+1) c5):=⟨_,rfl⟩
          have S6:Step (fun k=>k=7) w5 o5 w6 o5:=(by rw[hw6];exact(Step.refl _ w5 o5).setCell ⟨g1+1,2,none⟩ _ D5.bx.2)
          have D6:Blk w6 o5 7 (g1+1) (.cells #[v1,v2,.slice (some ⟨g5,0,none⟩) (k+1) c5,.slice none 0 0] 26):=(by rw[hw6];exact⟨s42 D5.bx.1 _,D5.bx.2⟩)
          have hb7:=hb6.step S6 (by decide);obtain⟨m0,m1,m2,mf1,mf2⟩:=cells3r hb7.1;have HD:Hid (Blk (w6.setCell ⟨g1+2,1,none⟩ (.int .i64 (q:Int))) o5 2 (g1+2) (.cells #[.string s,.int .i64 (q:Int),.bool st5.isSome] 60)/\Step (fun k=>k=2) w6 o5 (w6.setCell ⟨g1+2,1,none⟩ (.int .i64 (q:Int))) o5):=⟨⟨set3b hb7.1 _,hb7.2⟩,(Step.refl _ w6 o5).setCell ⟨g1+2,1,none⟩ _ hb7.2⟩
          clear R5 R4 D4 D4a D4d S4 D3 R3 HO S5 hb5 hb6 hb7 u0 u1 u2 uf1 uf2 r0 r1 r2 rf1 rf2 y0 y1 y2 yf1 yf2;go_upto_region 23 with fail;rw[<-hw6];clear hw6;go_wp2;go_roundw
          case rel =>
           (try ((repeat apply Exists.intro);refine⟨?_,rfl⟩))
           obtain⟨HDa,HDb⟩:=HD.out;have S7:=S6.mono (J:=Id7) (fun k hk=>by show 2<=k/\k<=7;have:k=7:=hk;omega);exact⟨k+1,xs++[x],_,o5,st6,by go_num,by omega,hxl2,(R6.step S6 (by decide)).step HDb (by decide),(P1n.step S6 (by decide)).step HDb (by decide),(P2n.step S6 (by decide)).step HDb (by decide),⟨D6.step HDb (by decide),T2.out _ _ _ ha5 HDa,(D5.sp.trans S7).trans (HDb.mono (fun k hk=>by show 2<=k/\k<=7;have:k=2:=hk;omega))⟩,HL3.out⟩
          case measure=>simp[intOf];omega)
        ·have T1:=tak_bad hl5 hK hK0;rw[T1,lef_none] at HL3;have hq4:(s.size:Int)-(a5:Int)<(K:Int):=by omega
         have HD:Hid (RrW (w4.setCell ⟨g1+2,2,none⟩ (.bool false)) o3 (g1+2) s none/\Step (fun k=>k=2) w4 o3 (w4.setCell ⟨g1+2,2,none⟩ (.bool false)) o3):=⟨⟨a5,ha5,set3c hb5.1 _,hb5.2⟩,(Step.refl _ w4 o3).setCell ⟨g1+2,2,none⟩ _ hb5.2⟩
         have R4:=R3.step S4 (by decide);have P1n:=P1.step S4 (by decide);have P2n:=P2.step S4 (by decide);clear T1 hl5 hb5 HO D3 R3 hK hK0;subst hxl;go_wp2;go_meet;obtain⟨HDa,HDb⟩:=HD.out;exact⟨xs,va,o3,none,R4.step HDb (by decide),P1n.step HDb (by decide),P2n.step HDb (by decide),⟨D4.bx.step HDb (by decide),HDa,D4.sp.trans (HDb.mono (fun k hk=>by show 2<=k/\k<=7;have:k=2:=hk;omega))⟩,HL3.out,by omega⟩
      ·have HE:Hid (t2.bind (rdL 2000 (namR 2000))=st3.map (fun l=>(xs,l))):=by
        show _=_;rw[HL.out];cases st3 with
        | none=>rfl
        | some l=>rw[show N-k=0 by simp at hgo;omega,lef_zero]
       have hbk:¬((k:Int)<(N:Int))\/((k:Int)<(N:Int)/\st3.isSome=false):=by
        cases st3 with
        | none=>by_cases h:(k:Int)<(N:Int);exact .inr ⟨h,rfl⟩;exact .inl h
        | some l=>exact .inl (by simp at hgo;omega)
       clear HL hgo;subst hxl;rcases hbk with hb|⟨hb,hb2⟩
       ·clear hok;go_wp2;go_meet;exact⟨xs,va,o3,st3,R3,P1,P2,D3,HE.out,by omega⟩
       ·rw[hb2] at hok;go_wp2;go_meet;exact⟨xs,va,o3,st3,R3,P1,P2,D3,HE.out,by omega⟩
    case rest =>
     obtain⟨x3,v3,o13,t3,P3,P1,P2,D30,E3,l3⟩:=hcut;clear HH D1 S1;have HN:=D30.count hs 256 (by omega);have HST:=lef_start 256 (kndR 256) t3;have hcl:=cnt_le 256 t3;generalize val 0 (cntR 256) t3=N at *;generalize nxt (cntR 256) t3=st1 at *;have HH:=Lib.hid HST;clear HST D30
     go_upto_block 6 with (first|(go_at_call 35;refine HN.mono ?_;rintro e w4 ⟨rfl,D1,S1⟩;have P1:=P1.step S1 (by decide);have P2:=P2.step S1 (by decide);have P3:=P3.step S1 (by decide);clear HN))
     go_cut [] (fun wx=>∃(xs:List Int) (va:Value) (o3:Nat->Nat) (st3:St),Row wx o3 6 3 1 va xs.length (isV xs)/\Row wx o3 3 33 1 v1 x1.length (wsV x1)/\Row wx o3 4 3 1 v2 x2.length (isV x2)/\Row wx o3 5 9 1 v3 x3.length (nsV x3)/\Dsd w3 o0 (g1+1) (g1+2) s wx o3 v1 v2 v3 va st3/\Hid (t3.bind (rdL 256 (kndR 256))=st3.map (fun l=>(xs,l)))/\xs.length<=256)
     case first =>
      go_wp2_with fail;go_loopw [11] (fun vi wr=>∃(k:Nat) (xs:List Int) (va:Value) (o3:Nat->Nat) (st3:St),vi=.int .i64 (k:Nat)/\k<=N/\xs.length=k/\Row wr o3 6 3 1 va k (isV xs)/\Row wr o3 3 33 1 v1 x1.length (wsV x1)/\Row wr o3 4 3 1 v2 x2.length (isV x2)/\Row wr o3 5 9 1 v3 x3.length (nsV x3)/\Dsd w3 o0 (g1+1) (g1+2) s wr o3 v1 v2 v3 va st3/\Hid (t3.bind (rdL 256 (kndR 256))=lef (kndR 256) (N-k) xs st3)) (fun vi _=>N-(intOf vi).toNat)
      case atStart=>exact⟨0,[],.slice none 0 0,o13,st1,by go_num,by omega,rfl,Row.nil _ _ _ _ _,P1,P2,P3,D1,HH.out⟩
      case round =>
       clear HH D1 S1 P1 P2 P3;obtain⟨k,xs,va,o3,st3,rfl,hk,hxl,R3,P1,P2,P3,D3,HL⟩:=hrel;have hok:=D3.ok;by_cases hgo:st3.isSome=true/\k<N
       ·obtain⟨hgs,hlt⟩:=hgo;rw[hgs] at hok;have hkI:(k:Int)<(N:Int):=by omega
        cases st3 with
        | none=>cases hgs
        | some l =>
         obtain⟨v1,v2⟩:=knd_val 256 (some l);have HO:=(D3.step (sno (I:=fun _=>False)) id id (fun k hk=>hk.elim)).count hs 256 (by omega);rw[<-v2,<-v1] at HO;clear v1 v2;have HL2:Hid (t3.bind (rdL 256 (kndR 256))=lef (kndR 256) (N-(k+1)) (xs++[val (0:Int) (kndR 256) (some l)]) (nxt (kndR 256) (some l))):=by
          show _=_;rw[<-lef_next,show N-(k+1)+1=N-k by omega];exact HL.out
         generalize val (0:Int) (kndR 256) (some l)=x at *;generalize nxt (kndR 256) (some l)=st4 at *;have D3d:=D3.step (sno (I:=fun _=>False)) id id (fun k hk=>hk.elim);obtain⟨⟨q0,q1,q2,q3⟩,qf⟩:=cells4 D3d.bx.1;have bA:k+1<=maxLen:=by unfold maxLen;omega
         have bB:(k+1)*8<=140737488355328:=by omega
         clear HL;go_wp2_with fail;go_region_law (first|(go_simp;go_at_call 35;refine HO.mono ?_;rintro e w4 ⟨rfl,D4,S4⟩;have R4:=(R3.step (sno (I:=fun _=>False)) id).step S4 (by decide);have D4a:=D4.step (Step.ofBelow (I:=fun _=>False) o3 (b1 w4 (.cells #[.int .i64 x] 3))) id id (fun k hk=>hk.elim);obtain⟨⟨a0,a1,a2,a3⟩,af⟩:=cells4 D4.bx.1;obtain⟨⟨e0,e1,e2,e3⟩,ef⟩:=cells4 D4a.bx.1)|(refine step_append_lab rfl (.tmp 135) (.tmp 138) 23 rfl 3 ii (.int .i64 0) 1 8 Tryd.underlying23 ii1 ii2 ii3 ii4 rfl (by decide) o3 6 va k (isV xs) (by simp[Act.eval,Act.put]) (R4.step (Step.ofBelow (I:=fun _=>False) o3 (b1 _ _)) id) ⟨w4.heap.size,0,none⟩ 1 1 [.int .i64 x] (by simp[Act.eval,Act.put]) rfl (new_one w4 _ _) (one_one _ rfl) (by decide) bA bB ?_;intro g5 c5 w5 o5 R5 S5;have D5:=D4a.step S5 (by decide) (by decide) (fun k hk=>by show 2<=k/\k<=7;have:k=6:=hk;omega);obtain⟨⟨h0,h1,h2,h3⟩,hf⟩:=cells4 D5.bx.1;have hff:=hf 3;have P1n:=(((P1.step (sno (I:=fun _=>False)) id).step S4 (by decide)).step (Step.ofBelow (I:=fun _=>False) o3 (b1 _ _)) id).step S5 (by decide);have P2n:=(((P2.step (sno (I:=fun _=>False)) id).step S4 (by decide)).step (Step.ofBelow (I:=fun _=>False) o3 (b1 _ _)) id).step S5 (by decide);have P3n:=(((P3.step (sno (I:=fun _=>False)) id).step S4 (by decide)).step (Step.ofBelow (I:=fun _=>False) o3 (b1 _ _)) id).step S5 (by decide)))
         all_goals (
          have R6:Row w5 o5 6 3 1 (.slice (some ⟨g5,0,none⟩) (k+1) c5) (k+1) (isV (xs++[x])):=(by
           have e:isV (xs++[x])=isV xs++[.int .i64 x]:=by simp[isV]
           rw[e];exact R5)
          have hxl2:(xs++[x]).length=k+1:=by simp[hxl]
          have HD:Hid (Blk (w5.setCell ⟨g1+1,3,none⟩ (.slice (some ⟨g5,0,none⟩) (k+1) c5)) o5 7 (g1+1) (.cells #[v1,v2,v3,.slice (some ⟨g5,0,none⟩) (k+1) c5] 26)/\Step (fun k=>k=7) w5 o5 (w5.setCell ⟨g1+1,3,none⟩ (.slice (some ⟨g5,0,none⟩) (k+1) c5)) o5):=⟨⟨s43 D5.bx.1 _,D5.bx.2⟩,(Step.refl _ w5 o5).setCell ⟨g1+1,3,none⟩ _ D5.bx.2⟩
          clear R5 R4 D4 D4a S4 D3 D3d R3 HO S5;go_wp2;go_roundw
          case rel =>
           (try ((repeat apply Exists.intro);refine⟨?_,rfl⟩))
           obtain⟨HDa,HDb⟩:=HD.out;exact⟨k+1,xs++[x],_,o5,st4,by go_num,by omega,hxl2,R6.step HDb (by decide),P1n.step HDb (by decide),P2n.step HDb (by decide),P3n.step HDb (by decide),⟨HDa,D5.rd.step HDb (by decide),D5.sp.trans (HDb.mono (fun k hk=>by show 2<=k/\k<=7;have:k=7:=hk;omega))⟩,HL2.out⟩
          case measure=>simp[intOf];omega)
       ·have HE:Hid (t3.bind (rdL 256 (kndR 256))=st3.map (fun l=>(xs,l))):=by
         show _=_;rw[HL.out];cases st3 with
         | none=>rfl
         | some l=>rw[show N-k=0 by simp at hgo;omega,lef_zero]
        have hbk:¬((k:Int)<(N:Int))\/((k:Int)<(N:Int)/\st3.isSome=false):=by
         cases st3 with
         | none=>by_cases h:(k:Int)<(N:Int);exact .inr ⟨h,rfl⟩;exact .inl h
         | some l=>exact .inl (by simp at hgo;omega)
        clear HL hgo;subst hxl;rcases hbk with hb|⟨hb,hb2⟩
        ·clear hok;go_wp2;go_meet;exact⟨xs,va,o3,st3,R3,P1,P2,P3,D3,HE.out,by omega⟩
        ·rw[hb2] at hok;go_wp2;go_meet;exact⟨xs,va,o3,st3,R3,P1,P2,P3,D3,HE.out,by omega⟩
     case rest =>
      obtain⟨x4,v4,o14,t4,P4,P1,P2,P3,D40,E4,l4⟩:=hcut;clear HH D1 S1;have ER:=HRD.out.trans (four E1.out E2.out E3.out E4.out);have hOK:=D40.ok;have hz3:=HZ3.out;have BB4:Below (g1+1) w3 wc:=⟨D40.sp.os,D40.sp.tape,D40.sp.output,D40.sp.size,fun k hk=>D40.sp.block k (by omega) (by rw[hol k hk];decide)⟩
      have G4:wc.heap[g1]?=some (.cells nil4 26):=(BB4.block g1 (by omega)).trans G3;have L4:∀ k,k<g1->o14 k=0:=fun k hk=>by rw[D40.sp.lab k (by omega)];exact hol k (by omega)
      have hO4:o14 g1=0:=by rw[D40.sp.lab g1 (by omega)];exact hol g1 (by omega)
      have HO4:=Lib.hid hO4;have hwc:g1+3<=wc.heap.size:=Nat.le_trans hz3 D40.sp.size;have BB5:Below g1 w wc:=B3'.trans (BB4.mono (by omega));clear E1 E2 E3 E4 HRD hO4 B3' BB4 hz3 HZ3 c0 c1 c2 c3 d0 d1 d2 d3 df df0 df1 df2 df3 cf C2 G2;obtain⟨⟨c0,c1,c2,c3⟩,cf⟩:=cells4 G4;have cf0:=cf 0;have cf1:=cf 1;have cf2:=cf 2;have cf3:=cf 3;cases t4 with
      | none =>
       have hOK2:wc.cell? ⟨g1+2,2,none⟩=some (.bool false):=hOK;have hno:∀ d,¬IsE s.data.toList d:=fun d hd=>by
        have:=hd.read (mn:=2000) (mk:=256) (by omega) (by omega) (by omega) (by omega)
        simp only[Option.bind_some] at ER;rw[this] at ER;cases ER
       have HNO:=Lib.hid hno;have GZ:=G4;have BZ:=BB5;have ZE:=set4c (.slice none 0 0) (.slice none 0 0) (.slice none 0 0) (.slice none 0 0) GZ;have BE:=(((BZ.setCell (p:=⟨g1,0,none⟩) (Nat.le_refl _) (.slice none 0 0)).setCell (p:=⟨g1,1,none⟩) (Nat.le_refl _) (.slice none 0 0)).setCell (p:=⟨g1,2,none⟩) (Nat.le_refl _) (.slice none 0 0)).setCell (p:=⟨g1,3,none⟩) (Nat.le_refl _) (.slice none 0 0);obtain⟨⟨m0,m1,m2,m3⟩,-⟩:=cells4 ZE;have HBE:=Lib.hid BE;clear ZE BE;clear hno ER hOK;go_wp2;exact bodyPost_ret (v:=.tuple #[.agg nil4,.int .i64 180]) (by simp[results,Tryd.results19,go_sem,m0,m1,m2,m3]) rfl ⟨by rw[<-HG1.out];exact HBE.out,.inr ⟨rfl,HNO.out⟩⟩
      | some r =>
       have hOK2:wc.cell? ⟨g1+2,2,none⟩=some (.bool true):=hOK;have hrd:rdC 2000 256 s.data.toList=some (⟨x1,x2,x3,x4⟩,r):=by simpa using ER
       obtain⟨pa,qa,rfl⟩:=P1.form;obtain⟨pb,qb,rfl⟩:=P2.form;obtain⟨pc,qc,rfl⟩:=P3.form;obtain⟨pd,qd,rfl⟩:=P4.form;have CR:CdR wc o14 ⟨pa,qa,pb,qb,pc,qc,pd,qd⟩ ⟨x1,x2,x3,x4⟩:=⟨P1,P2,P3,P4,l1,l2,l3,l4⟩
       have ho:=rdC_ok (by omega) (by omega) hrd;have HE:=rencode_c _ _ wc (CR.cdw ho);have hun:∀ d,IsE s.data.toList d->d=⟨x1,x2,x3,x4⟩:=fun d hd=>by
        have:=hd.read (mn:=2000) (mk:=256) (by omega) (by omega) (by omega) (by omega)
        rw[hrd] at this;simp only[Option.some.injEq,Prod.mk.injEq] at this;exact this.1.symm
       obtain⟨⟨k0,k1,k2,k3⟩,-⟩:=cells4 D40.bx.1;have HUN:=Lib.hid hun;clear hun ER hrd hOK P1 P2 P3 P4;cases hr:rgtB ⟨x1,x2,x3,x4⟩
       ·have hno:∀ d,¬IsE s.data.toList d:=fun d hd=>by
         have:=HUN.out d hd
         subst this;rw[hd.2.1] at hr;cases hr
        have HNO:=Lib.hid hno;have e1:encR ⟨x1,x2,x3,x4⟩=.tuple #[.string ⟨#[]⟩,.int .i64 180]:=by unfold encR;rw[hr];rfl
        rw[e1] at HE;clear hno e1 hr;go_wp2_with (go_at_call 14;refine HE.mono ?_;rintro e w6 ⟨rfl,B6⟩;have GZ:=(B6.block g1 (by omega)).trans G4;obtain⟨⟨b0,b1,b2,b3⟩,gz⟩:=cells4 GZ;have gz0:=gz 0;have gz1:=gz 1;have gz2:=gz 2;have gz3:=gz 3;obtain⟨⟨f0,f1,f2,f3⟩,-⟩:=cells4 ((B6.block (g1+1) (by omega)).trans D40.bx.1));have BZ:=BB5.trans (B6.mono (by omega));have ZE:=set4c (.slice none 0 0) (.slice none 0 0) (.slice none 0 0) (.slice none 0 0) GZ;have BE:=(((BZ.setCell (p:=⟨g1,0,none⟩) (Nat.le_refl _) (.slice none 0 0)).setCell (p:=⟨g1,1,none⟩) (Nat.le_refl _) (.slice none 0 0)).setCell (p:=⟨g1,2,none⟩) (Nat.le_refl _) (.slice none 0 0)).setCell (p:=⟨g1,3,none⟩) (Nat.le_refl _) (.slice none 0 0);obtain⟨⟨m0,m1,m2,m3⟩,-⟩:=cells4 ZE;have HBE:=Lib.hid BE;clear ZE BE;exact bodyPost_ret (v:=.tuple #[.agg nil4,.int .i64 180]) (by simp[results,Tryd.results19,go_sem,m0,m1,m2,m3]) rfl ⟨by rw[<-HG1.out];exact HBE.out,.inr ⟨rfl,HNO.out⟩⟩
       ·have e1:encR ⟨x1,x2,x3,x4⟩=.tuple #[.string ⟨(encB ⟨x1,x2,x3,x4⟩).toArray⟩,.int .i64 0]:=by unfold encR;rw[hr];rfl
        rw[e1] at HE;have HIE:Hid (∀ l,encB ⟨x1,x2,x3,x4⟩=l->IsE l ⟨x1,x2,x3,x4⟩):=fun l hl=>⟨ho,hr,hl⟩;have HII:Hid (∀ d,IsE s.data.toList d->encB ⟨x1,x2,x3,x4⟩=s.data.toList):=fun d hd=>by
         have:=HUN.out d hd
         subst this;exact hd.2.2
        generalize encB ⟨x1,x2,x3,x4⟩=zl at *;clear e1 hr;by_cases hz:(⟨zl.toArray⟩:ByteArray)=s
        ·have hIs:IsE s.data.toList ⟨x1,x2,x3,x4⟩:=HIE.out _ (by rw[<-hz]);have HIs:=Lib.hid hIs;rw[hz] at HE;clear hIs hz;go_wp2_with (go_at_call 14;refine HE.mono ?_;rintro e w6 ⟨rfl,B6⟩;have GZ:=(B6.block g1 (by omega)).trans G4;obtain⟨⟨b0,b1,b2,b3⟩,gz⟩:=cells4 GZ;have gz0:=gz 0;have gz1:=gz 1;have gz2:=gz 2;have gz3:=gz 3;obtain⟨⟨f0,f1,f2,f3⟩,-⟩:=cells4 ((B6.block (g1+1) (by omega)).trans D40.bx.1));have BZ:=BB5.trans (B6.mono (by omega));have ZE:=set4c (.slice pa x1.length qa) (.slice pb x2.length qb) (.slice pc x3.length qc) (.slice pd x4.length qd) GZ;have BE:=(((BZ.setCell (p:=⟨g1,0,none⟩) (Nat.le_refl _) (.slice pa x1.length qa)).setCell (p:=⟨g1,1,none⟩) (Nat.le_refl _) (.slice pb x2.length qb)).setCell (p:=⟨g1,2,none⟩) (Nat.le_refl _) (.slice pc x3.length qc)).setCell (p:=⟨g1,3,none⟩) (Nat.le_refl _) (.slice pd x4.length qd);obtain⟨⟨m0,m1,m2,m3⟩,-⟩:=cells4 ZE;have o4g:o14 g1=0:=HO4.out;have CE:=((CR.step (Step.ofBelow (I:=fun _=>False) o14 B6) (fun h=>h) (fun h=>h) (fun h=>h) (fun h=>h)).step (((((Step.refl (fun k=>k=0) w6 o14).setCell ⟨g1,0,none⟩ (.slice pa x1.length qa) o4g).setCell ⟨g1,1,none⟩ (.slice pb x2.length qb) o4g).setCell ⟨g1,2,none⟩ (.slice pc x3.length qc) o4g).setCell ⟨g1,3,none⟩ (.slice pd x4.length qd) o4g) (by decide) (by decide) (by decide) (by decide))
         have HBE:=Lib.hid BE;have HCE:=Lib.hid CE;clear ZE BE CE;exact bodyPost_ret (v:=.tuple #[cdV ⟨pa,qa,pb,qb,pc,qc,pd,qd⟩ ⟨x1,x2,x3,x4⟩,.int .i64 0]) (by simp[results,Tryd.results19,go_sem,m0,m1,m2,m3]) rfl ⟨by rw[<-HG1.out];exact HBE.out,.inl ⟨_,_,rfl,HIs.out,o14,fun k hk=>L4 k (by rw[HG1.out];exact hk),HCE.out⟩⟩
        ·have hno:∀ d,¬IsE s.data.toList d:=fun d hd=>hz (by rw[HII.out d hd]);have HNO:=Lib.hid hno;have hze:(zl==s.toList)=false:=by
          have h4:=str_ne hz;have h5:(⟨zl.toArray⟩:ByteArray).toList=zl:=by rw[ByteArray.toList_eq]
          rw[h5] at h4;exact h4
         have HZ:=Lib.hid hze;clear hno hze;go_wp2_with (go_at_call 14;refine HE.mono ?_;rintro e w6 ⟨rfl,B6⟩;have GZ:=(B6.block g1 (by omega)).trans G4;obtain⟨⟨b0,b1,b2,b3⟩,gz⟩:=cells4 GZ;have gz0:=gz 0;have gz1:=gz 1;have gz2:=gz 2;have gz3:=gz 3;obtain⟨⟨f0,f1,f2,f3⟩,-⟩:=cells4 ((B6.block (g1+1) (by omega)).trans D40.bx.1))
         all_goals first
         | (exfalso;rename_i hx;rw[HZ.out] at hx;cases hx;done)
         | (
          have BZ:=BB5.trans (B6.mono (by omega));have ZE:=set4c (.slice none 0 0) (.slice none 0 0) (.slice none 0 0) (.slice none 0 0) GZ;have BE:=(((BZ.setCell (p:=⟨g1,0,none⟩) (Nat.le_refl _) (.slice none 0 0)).setCell (p:=⟨g1,1,none⟩) (Nat.le_refl _) (.slice none 0 0)).setCell (p:=⟨g1,2,none⟩) (Nat.le_refl _) (.slice none 0 0)).setCell (p:=⟨g1,3,none⟩) (Nat.le_refl _) (.slice none 0 0);obtain⟨⟨m0,m1,m2,m3⟩,-⟩:=cells4 ZE;have HBE:=Lib.hid BE;clear ZE BE;exact bodyPost_ret (v:=.tuple #[.agg nil4,.int .i64 180]) (by simp[results,Tryd.results19,go_sem,m0,m1,m2,m3]) rfl ⟨by rw[<-HG1.out];exact HBE.out,.inr ⟨rfl,HNO.out⟩⟩)
 ·have HNO:=Lib.hid (head_no hh);have BZ:=B2;have GZ:=G2;have ZE:=set4c (.slice none 0 0) (.slice none 0 0) (.slice none 0 0) (.slice none 0 0) GZ;have BE:=(((BZ.setCell (p:=⟨g1,0,none⟩) (Nat.le_refl _) (.slice none 0 0)).setCell (p:=⟨g1,1,none⟩) (Nat.le_refl _) (.slice none 0 0)).setCell (p:=⟨g1,2,none⟩) (Nat.le_refl _) (.slice none 0 0)).setCell (p:=⟨g1,3,none⟩) (Nat.le_refl _) (.slice none 0 0);obtain⟨⟨m0,m1,m2,m3⟩,-⟩:=cells4 ZE;have HBE:=Lib.hid BE;clear ZE BE;clear hg1 ho0 R3 B3 B3' G3;by_cases h3:3<=s.size
  ·have hne:s.extract 0 3≠⟨#[73,67,49]⟩:=fun h=>hh ⟨h3,h⟩;have h3I:¬(s.size:Int)<3:=by omega
   have h3J:(3:Int)<=(s.size:Int):=by omega
   have h3N:¬s.size<3:=by omega
   have hze:=str_ne hne;clear hh hne;go_enter Tryd.func19,Tryd.ntmps19;go_upto_region 2 with fail;rw[<-hw2,<-HG1.out];clear hw2 hw3;have HZ:=Lib.hid hze;clear hze;go_wp2
   all_goals first
   | (exfalso;rename_i hx;first|(rw[HZ.out] at hx;cases hx;done)|(have:=HZ.out;simp_all;done))
   | (exact bodyPost_ret (v:=.tuple #[.agg nil4,.int .i64 180]) (by simp[results,Tryd.results19,go_sem,m0,m1,m2,m3]) rfl ⟨by rw[<-HG1.out];exact HBE.out,.inr ⟨rfl,HNO.out⟩⟩)
  ·have h3I:(s.size:Int)<3:=by omega
   clear hh;go_enter Tryd.func19,Tryd.ntmps19;go_upto_region 2 with fail;rw[<-hw2,<-HG1.out];clear hw2 hw3;go_wp2;exact bodyPost_ret (v:=.tuple #[.agg nil4,.int .i64 180]) (by simp[results,Tryd.results19,go_sem,m0,m1,m2,m3]) rfl ⟨by rw[<-HG1.out];exact HBE.out,.inr ⟨rfl,HNO.out⟩⟩
end Go.Proofs.YtjjhcbmhdkobkaaDoor

import Derived.Test.YtdhhnhjolmnkjabDoorLawA
import Derived.SizedLaws
import Derived.ShutString
import Derived.Stop.LaidErr
import Derived.Deep.DeepHandedRow
import Derived.Deep.Slices
import Derived.SliceStrings
set_option maxRecDepth 100000
set_option maxHeartbeats 8000000
namespace Go.Proofs.YtdhhnhjolmnkjabDoor
open Go.ChangeShapes Go.WideShapes Go.ChangeAt Go.RowKit
set_option linter.unusedVariables false
set_option linter.unusedSimpArgs false
theorem kb2 {p q:Pl}{c:Cd}{w w':World}{a b:Nat}(h:bx4 p c w a/\bx4 q c w b)(l:a<w.heap.size/\b<w.heap.size)(B:Below w.heap.size w w'):bx4 p c w' a/\bx4 q c w' b:=⟨bx4_below h.1 l.1 B,bx4_below h.2 l.2 B⟩
theorem lb2 {w w':World}{a b:Nat}(l:a<w.heap.size/\b<w.heap.size)(B:Below w.heap.size w w'):a<w'.heap.size/\b<w'.heap.size:=⟨Nat.lt_of_lt_of_le l.1 B.size,Nat.lt_of_lt_of_le l.2 B.size⟩
theorem codeLists_walk (aR:Option Addr)(cR:Nat)(l:List Rw)(w:World)(hF:Fx w)(hR:RawW w aR l)(okR:∀ r ∈ l,r.Ok)(lR:l.length*24<=140737488351232) :
  Calls Tryd.prog 3 #[.slice aR l.length cR] w fun e w'=>e=.returned (.bool true)/\Below w.heap.size w w':=by
 obtain⟨g,hg⟩:∃g,g=w.heap.size:=⟨_,rfl⟩
 have HG:=Lib.hid hg;have HA:=awake_c w hF;have hlI:l.length<=9223372036854775807:=by omega
 go_enter Tryd.func3,Tryd.ntmps3;go_wp2_with fail;refine HA.mono ?_;rintro e w1 ⟨rfl,B1⟩;have F1:=hF.below B1;have HM:=mk_c w1 aR cR l (.slice none 0 0) (.slice none 0 0) (.slice none 0 0) (hR.below B1) okR (by omega) ⟨_,_,_,rfl⟩ ⟨_,_,_,rfl⟩ ⟨_,_,_,rfl⟩;have BB1:Below g w w1:=by rw[hg];exact B1
 have z1:=B1.size;rw[<-hg] at z1;clear HA hR hF B1 hg;go_wp2_with fail;refine HM.mono ?_;rintro e w2 ⟨aw,cw,rfl,LW,B2⟩;obtain⟨c,hc⟩:∃c:Cd,c=⟨l.map wdN,[],[],[]⟩:=⟨_,rfl⟩
 obtain⟨p,hp⟩:∃p:Pl,p=⟨aw,cw,none,0,none,0,none,0⟩:=⟨_,rfl⟩
 have okc:c.Ok:=by
  rw[hc];refine⟨fun u hu=>?_,by simp,by simp,by simp⟩;obtain⟨r,_,rfl⟩:=List.mem_map.1 hu;exact wdN_bd r
 have C2:CdW w2 p c:=by rw[hc,hp];exact⟨hc ▸ okc,LW,.inl rfl,.inl rfl,.inl rfl,by simp;omega,by simp,by simp,by simp⟩
 have hwl:c.ws.length=l.length:=by rw[hc];simp
 have F2:=F1.below B2;have BB2:=bdt BB1 B2 z1;have z2:=Nat.le_trans z1 B2.size;have ev:(.agg #[.slice aw l.length cw,.slice none 0 0,.slice none 0 0,.slice none 0 0]:Value)=cdV p c:=by rw[hp,hc];simp[cdV,cdA]
 rw[ev];obtain⟨w4,hw4⟩:∃w4,w4=w2.alloc (.cells (cdA p c) 28):=⟨_,rfl⟩
 obtain⟨g4,hg4⟩:∃g4,g4=w2.heap.size:=⟨_,rfl⟩
 have B4:Below w2.heap.size w2 w4:=by rw[hw4];exact b1 _ _
 have K4:bx4 p c w4 g4:=by rw[hw4,hg4];exact bx4_new p c w2
 have L4:w4.heap.size=g4+1:=by rw[hw4,hg4];simp
 have C4:=C2.below B4;have F4:=F2.below B4;have BB4:=bdt BB2 B4 z2;have HG4:=Lib.hid hg4;have z4:g<=w4.heap.size:=by omega
 have h0:c.cs.length=0/\c.ns.length=0/\c.ks.length=0:=by rw[hc];exact⟨rfl,rfl,rfl⟩
 have H0:=Lib.hid h0;have HWL:=Lib.hid hwl;clear HM LW B2 F1 F2 C2 B4 hg4 ev hc hp hwl h0;go_upto_region 3 with fail;rw[<-hw4,<-HG4.out];clear hw4;obtain⟨q0,q1,q2,q3⟩:=K4;go_upto_region 4 with fail;obtain⟨q,hq⟩:∃q:Pl,q=⟨p.aw,p.cw,some ⟨g4+1,0,none⟩,0,some ⟨g4+1+1,0,none⟩,0,some ⟨g4+1+1+1,0,none⟩,0⟩:=⟨_,rfl⟩
 obtain⟨g5,hg5⟩:∃g5,g5=g4+1+1+1+1:=⟨_,rfl⟩
 obtain⟨w5,hw5⟩:∃w5,w5=((((w4.alloc (.cells #[] 3)).alloc (.cells #[] 9)).alloc (.cells #[] 3)).alloc (.cells #[.slice p.aw c.ws.length p.cw,.slice (some ⟨g4+1,0,none⟩) 0 0,.slice (some ⟨g4+1+1,0,none⟩) 0 0,.slice (some ⟨g4+1+1+1,0,none⟩) 0 0] 28)):=⟨_,rfl⟩
 have B5:Below w4.heap.size w4 w5:=by rw[hw5];exact((((Below.refl _ w4).alloc (Nat.le_refl _) _).alloc (by simp) _).alloc (by simp;omega) _).alloc (by simp;omega) _
 have z5:w5.heap.size=g5+1:=by rw[hw5,hg5];simp[L4]
 have KQ:bx4 q c w5 g5:=by
  have hh:w5.heap[g5]?=some (.cells #[.slice p.aw c.ws.length p.cw,.slice (some ⟨g4+1,0,none⟩) 0 0,.slice (some ⟨g4+1+1,0,none⟩) 0 0,.slice (some ⟨g4+1+1+1,0,none⟩) 0 0] 28 (0,0)):=by
   have e:g5=(((w4.alloc (.cells #[] 3)).alloc (.cells #[] 9)).alloc (.cells #[] 3)).heap.size:=by rw[hg5];simp[L4]
   rw[hw5,e];exact heap_alloc_new _ _
  have hh2:=box4_cells hh;rw[hq];unfold bx4;rw[H0.out.1,H0.out.2.1,H0.out.2.2];exact hh2
 have K5:=bx4_below (p:=p) (c:=c) ⟨q0,q1,q2,q3⟩ (by omega) B5;have C5:=C4.below B5;have D5:CdW w5 q c:=by
  have e1:c.cs=[]:=List.eq_nil_of_length_eq_zero H0.out.1;have e2:c.ns=[]:=List.eq_nil_of_length_eq_zero H0.out.2.1;have e3:c.ks=[]:=List.eq_nil_of_length_eq_zero H0.out.2.2;rw[hq];exact⟨C5.ok,C5.ws,.inl (by rw[e1];rfl),.inl (by rw[e2];rfl),.inl (by rw[e3];rfl),C5.lw,C5.lc,C5.ln,C5.lk⟩
 have F5:=F4.below B5;have BB5:=bdt BB4 B5 z4;have KA0:bx4 p c w5 g4/\bx4 q c w5 g5:=⟨K5,KQ⟩
 have LA0:g4<w5.heap.size/\g5<w5.heap.size:=⟨by omega,by omega⟩
 have gg:g<=w5.heap.size:=Nat.le_trans z4 B5.size;clear B5 KQ K5 C4 F4 BB4 q0 q1 q2 q3 L4 z4 hq;have HG5:=Lib.hid hg5;rw[<-hw5,<-hg5];clear hw5 hg5 z5;obtain⟨zz,ev,hev,hcs⟩:∃(zz:ByteArray) (ev:Int),encR c=.tuple #[.string zz,.int .i64 ev]/\((ev=0/\IsE zz.data.toList c/\zz.size<=20000000)\/ev=180):=by
  cases hr:rgtB c
  ·exact⟨⟨#[]⟩,180,by simp[encR,hr],.inr rfl⟩
  ·have hbl:=body_len C5.ok hr;have hel:(encB c).length=(bodB c).length+8:=sldB_len _;exact⟨⟨(encB c).toArray⟩,0,by simp[encR,hr],.inl ⟨rfl,⟨C5.ok,hr,rfl⟩,by rw[size_mk];omega⟩⟩
 have HE1:=encode_c p c w5 F5 C5;rw[hev] at HE1;obtain⟨⟨j0,j1,j2,j3⟩,⟨i0,i1,i2,i3⟩⟩:=KA0;go_wp2_with fail;refine HE1.mono ?_;rintro e w6 ⟨rfl,B6⟩;have KA1:=kb2 ⟨⟨j0,j1,j2,j3⟩,⟨i0,i1,i2,i3⟩⟩ LA0 B6;have LA1:=lb2 LA0 B6;have F6:=F5.below B6;have C6:=C5.below B6;have D6:=D5.below B6;have BB6:=bdt BB5 B6 gg;have gg6:=Nat.le_trans gg B6.size;have HE2:=encode_c q c w6 F6 D6;rw[hev] at HE2;clear HE1 F5 C5 D5 BB5 B6 j0 j1 j2 j3 i0 i1 i2 i3 LA0 gg;obtain⟨⟨j0,j1,j2,j3⟩,⟨i0,i1,i2,i3⟩⟩:=KA1;go_wp2_with fail;refine HE2.mono ?_;rintro e wa ⟨rfl,B7⟩;have KA:bx4 p c wa g4/\bx4 q c wa g5:=kb2 ⟨⟨j0,j1,j2,j3⟩,⟨i0,i1,i2,i3⟩⟩ LA1 B7;have LA:=lb2 LA1 B7;have FA:=F6.below B7;have CA:=C6.below B7;have DA:=D6.below B7;have BBA:=bdt BB6 B7 gg6;have gga:=Nat.le_trans gg6 B7.size;have HM:=fun w F C=>sumc_c p c w F C;have HN:=fun w F C=>sumc_c q c w F C;have HR:=fun w F C=>right_c p c w F C;have HQ:=fun w F C=>right_c q c w F C;generalize smR c=sm at HM HN;generalize rgtB c=rr at HR HQ;have HCS:=Lib.hid hcs;clear HE2 F6 C6 D6 BB6 B7 j0 j1 j2 j3 i0 i1 i2 i3 LA1 gg6 hev hcs;have bd0:Below wa.heap.size wa wa.drew:=(Below.refl _ wa).drew
 replace FA:=FA.below bd0
 replace CA:=CA.below bd0
 replace DA:=DA.below bd0
 replace LA:g4<wa.drew.heap.size/\g5<wa.drew.heap.size:=LA
 replace KA:bx4 p c wa.drew g4/\bx4 q c wa.drew g5:=KA
 replace BBA:=BBA.drew
 replace gga:g<=wa.drew.heap.size:=gga
 clear bd0;go_upto_region 6 with fail;refine wp_region_held_drew (S:=(fun wx=>bx4 p c wx g4/\bx4 q c wx g5)) (by kernel_rfl) KA (fun hHeld=>?_);refine wpAnyH_take (i:=0) (v:=?v1) rfl (by kernel_rfl) (by kernel_rfl) (by kernel_rfl) (fun _ _ _ h=>h) (Or.inl ⟨by rfl,?hy1⟩) (by assumption) ?rest1
 case hy1=>(intro w hSw;(try dsimp only at hSw);go_simp;all_goals (with_reducible rfl))
 simp only[Act.put,List.getElem_toArray,List.getElem_cons_zero,List.getElem_cons_succ,List.setIfInBounds_toArray,List.set_cons_zero,List.set_cons_succ];refine wpAnyH_take (i:=1) (v:=?v2) rfl (by kernel_rfl) (by kernel_rfl) (by kernel_rfl) (fun _ _ _ h=>h) (Or.inl ⟨by rfl,?hy2⟩) (by assumption) ?rest2
 case hy2=>(intro w hSw;(try dsimp only at hSw);go_simp;all_goals (with_reducible rfl))
 simp only[Act.put,List.getElem_toArray,List.getElem_cons_zero,List.getElem_cons_succ,List.setIfInBounds_toArray,List.set_cons_zero,List.set_cons_succ];refine wpAnyH_take (i:=2) (v:=?v3) rfl (by kernel_rfl) (by kernel_rfl) (by kernel_rfl) (fun _ _ _ h=>h) (Or.inl ⟨by rfl,?hy3⟩) (by assumption) ?rest3
 case hy3=>(intro w hSw;(try dsimp only at hSw);go_simp;all_goals (with_reducible rfl))
 simp only[Act.put,List.getElem_toArray,List.getElem_cons_zero,List.getElem_cons_succ,List.setIfInBounds_toArray,List.set_cons_zero,List.set_cons_succ];refine wpAnyH_take (i:=3) (v:=?v4) rfl (by kernel_rfl) (by kernel_rfl) (by kernel_rfl) (fun _ _ _ h=>h) (Or.inl ⟨by rfl,?hy4⟩) (by assumption) ?rest4
 case hy4=>(intro w hSw;(try dsimp only at hSw);go_simp;all_goals (with_reducible rfl))
 simp only[Act.put,List.getElem_toArray,List.getElem_cons_zero,List.getElem_cons_succ,List.setIfInBounds_toArray,List.set_cons_zero,List.set_cons_succ];refine wpAnyH_take (i:=4) (v:=?v5) rfl (by kernel_rfl) (by kernel_rfl) (by kernel_rfl) (fun _ _ _ h=>h) (Or.inl ⟨by rfl,?hy5⟩) (by assumption) ?rest5
 case hy5=>(intro w hSw;(try dsimp only at hSw);go_simp;all_goals (with_reducible rfl))
 simp only[Act.put,List.getElem_toArray,List.getElem_cons_zero,List.getElem_cons_succ,List.setIfInBounds_toArray,List.set_cons_zero,List.set_cons_succ];refine wpAnyH_take (i:=5) (v:=?v6) rfl (by kernel_rfl) (by kernel_rfl) (by kernel_rfl) (fun _ _ _ h=>h) (Or.inl ⟨by rfl,?hy6⟩) (by assumption) ?rest6
 case hy6=>(intro w hSw;(try dsimp only at hSw);go_simp;all_goals (with_reducible rfl))
 simp only[Act.put,List.getElem_toArray,List.getElem_cons_zero,List.getElem_cons_succ,List.setIfInBounds_toArray,List.set_cons_zero,List.set_cons_succ];refine wpAnyH_take (i:=6) (v:=?v7) rfl (by kernel_rfl) (by kernel_rfl) (by kernel_rfl) (fun _ _ _ h=>h) (Or.inl ⟨by rfl,?hy7⟩) (by assumption) ?rest7
 case hy7=>(intro w hSw;(try dsimp only at hSw);go_simp;all_goals (with_reducible rfl))
 simp only[Act.put,List.getElem_toArray,List.getElem_cons_zero,List.getElem_cons_succ,List.setIfInBounds_toArray,List.set_cons_zero,List.set_cons_succ];refine wpAnyH_take (i:=7) (v:=?v8) rfl (by kernel_rfl) (by kernel_rfl) (by kernel_rfl) (fun _ _ _ h=>h) (Or.inl ⟨by rfl,?hy8⟩) (by assumption) ?rest8
 case hy8=>(intro w hSw;(try dsimp only at hSw);go_simp;all_goals (with_reducible rfl))
 simp only[Act.put,List.getElem_toArray,List.getElem_cons_zero,List.getElem_cons_succ,List.setIfInBounds_toArray,List.set_cons_zero,List.set_cons_succ];refine wpAnyH_take (i:=8) (v:=?v9) rfl (by kernel_rfl) (by kernel_rfl) (by kernel_rfl) (fun _ _ _ h=>h) (Or.inl ⟨by rfl,?hy9⟩) (by assumption) ?rest9
 case hy9=>(intro w hSw;(try dsimp only at hSw);go_simp;all_goals (with_reducible rfl))
 simp only[Act.put,List.getElem_toArray,List.getElem_cons_zero,List.getElem_cons_succ,List.setIfInBounds_toArray,List.set_cons_zero,List.set_cons_succ];refine wpAnyH_take (i:=9) (v:=?v10) rfl (by kernel_rfl) (by kernel_rfl) (by kernel_rfl) (fun _ _ _ h=>h) (Or.inl ⟨by rfl,?hy10⟩) (by assumption) ?rest10
 case hy10=>(intro w hSw;(try dsimp only at hSw);go_simp;all_goals (with_reducible rfl))
 simp only[Act.put,List.getElem_toArray,List.getElem_cons_zero,List.getElem_cons_succ,List.setIfInBounds_toArray,List.set_cons_zero,List.set_cons_succ];refine wpAnyH_take (i:=10) (v:=?v11) rfl (by kernel_rfl) (by kernel_rfl) (by kernel_rfl) (fun _ _ _ h=>h) (Or.inl ⟨by rfl,?hy11⟩) (by assumption) ?rest11
 case hy11=>(intro w hSw;(try dsimp only at hSw);go_simp;all_goals (with_reducible rfl))
 simp only[Act.put,List.getElem_toArray,List.getElem_cons_zero,List.getElem_cons_succ,List.setIfInBounds_toArray,List.set_cons_zero,List.set_cons_succ];refine wpAnyH_take (i:=11) (v:=?v12) rfl (by kernel_rfl) (by kernel_rfl) (by kernel_rfl) (fun _ _ _ h=>h) (Or.inl ⟨by rfl,?hy12⟩) (by assumption) ?rest12
 case hy12=>(intro w hSw;(try dsimp only at hSw);go_simp;all_goals (with_reducible rfl))
 simp only[Act.put,List.getElem_toArray,List.getElem_cons_zero,List.getElem_cons_succ,List.setIfInBounds_toArray,List.set_cons_zero,List.set_cons_succ];refine wpAnyH_take (i:=12) (v:=?v13) rfl (by kernel_rfl) (by kernel_rfl) (by kernel_rfl) (fun _ _ _ h=>h) (Or.inl ⟨by rfl,?hy13⟩) (by assumption) ?rest13
 case hy13=>(intro w hSw;(try dsimp only at hSw);go_simp;all_goals (with_reducible rfl))
 simp only[Act.put,List.getElem_toArray,List.getElem_cons_zero,List.getElem_cons_succ,List.setIfInBounds_toArray,List.set_cons_zero,List.set_cons_succ];refine wpAnyH_take (i:=13) (v:=?v14) rfl (by kernel_rfl) (by kernel_rfl) (by kernel_rfl) (fun _ _ _ h=>h) (Or.inl ⟨by rfl,?hy14⟩) (by assumption) ?rest14
 case hy14=>(intro w hSw;(try dsimp only at hSw);obtain⟨⟨z1,z2,z3,z4⟩,⟨y1,y2,y3,y4⟩⟩:=hSw;go_simp;all_goals (with_reducible rfl))
 simp only[Act.put,List.getElem_toArray,List.getElem_cons_zero,List.getElem_cons_succ,List.setIfInBounds_toArray,List.set_cons_zero,List.set_cons_succ];refine wpAnyH_take (i:=15) (v:=?v15) rfl (by kernel_rfl) (by kernel_rfl) (by kernel_rfl) (fun _ _ _ h=>h) (Or.inl ⟨by rfl,?hy15⟩) (by assumption) ?rest15
 case hy15=>(intro w hSw;(try dsimp only at hSw);obtain⟨⟨z1,z2,z3,z4⟩,⟨y1,y2,y3,y4⟩⟩:=hSw;go_simp;all_goals (with_reducible rfl))
 simp only[Act.put,List.getElem_toArray,List.getElem_cons_zero,List.getElem_cons_succ,List.setIfInBounds_toArray,List.set_cons_zero,List.set_cons_succ];refine wpAnyH_ready (rs:=[14]) (by kernel_rfl) (by simp) ?_;refine AllReadyH.cons rfl (fun K hK=>?_) AllReadyH.nil
 go_simp
 go_wp2_with (go_at_call 8;refine(HM _ FA CA).mono ?_;rintro e wb ⟨rfl,BA⟩;have KB:=kb2 KA LA BA;have FB:=FA.below BA;have CB:=CA.below BA;have DB:=DA.below BA;have LB:=lb2 LA BA);refine hK.out _ _ KB (fun hHeld=>?_);clear hK K;refine wpAnyH_ready (rs:=[16]) (by kernel_rfl) (by simp) ?_;refine AllReadyH.cons rfl (fun K hK=>?_) AllReadyH.nil
 go_simp
 go_wp2_with (go_at_call 8;refine(HN _ FB DB).mono ?_;rintro e wc ⟨rfl,BB⟩;have KC:=kb2 KB LB BB;have FC:=FB.below BB;have CC:=CB.below BB;have DC:=DB.below BB;have LC:=lb2 LB BB);refine hK.out _ _ KC (fun hHeld=>?_);clear hK K;refine wpAnyH_take (i:=17) (v:=?v16) rfl (by kernel_rfl) (by kernel_rfl) (by kernel_rfl) (fun _ _ _ h=>h) (Or.inl ⟨by rfl,?hy16⟩) (by assumption) ?rest16
 case hy16=>(intro w hSw;(try dsimp only at hSw);go_simp;all_goals (with_reducible rfl))
 simp only[Act.put,List.getElem_toArray,List.getElem_cons_zero,List.getElem_cons_succ,List.setIfInBounds_toArray,List.set_cons_zero,List.set_cons_succ];refine wpAnyH_take (i:=18) (v:=?v17) rfl (by kernel_rfl) (by kernel_rfl) (by kernel_rfl) (fun _ _ _ h=>h) (Or.inl ⟨by rfl,?hy17⟩) (by assumption) ?rest17
 case hy17=>(intro w hSw;(try dsimp only at hSw);go_simp;all_goals (with_reducible rfl))
 simp only[Act.put,List.getElem_toArray,List.getElem_cons_zero,List.getElem_cons_succ,List.setIfInBounds_toArray,List.set_cons_zero,List.set_cons_succ];refine wpAnyH_take (i:=19) (v:=?v18) rfl (by kernel_rfl) (by kernel_rfl) (by kernel_rfl) (fun _ _ _ h=>h) (Or.inl ⟨by rfl,?hy18⟩) (by assumption) ?rest18
 case hy18=>(intro w hSw;(try dsimp only at hSw);go_simp;all_goals (with_reducible rfl))
 simp only[Act.put,List.getElem_toArray,List.getElem_cons_zero,List.getElem_cons_succ,List.setIfInBounds_toArray,List.set_cons_zero,List.set_cons_succ];refine wpAnyH_take (i:=20) (v:=?v19) rfl (by kernel_rfl) (by kernel_rfl) (by kernel_rfl) (fun _ _ _ h=>h) (Or.inl ⟨by rfl,?hy19⟩) (by assumption) ?rest19
 case hy19=>(intro w hSw;(try dsimp only at hSw);obtain⟨⟨z1,z2,z3,z4⟩,⟨y1,y2,y3,y4⟩⟩:=hSw;go_simp;all_goals (with_reducible rfl))
 simp only[Act.put,List.getElem_toArray,List.getElem_cons_zero,List.getElem_cons_succ,List.setIfInBounds_toArray,List.set_cons_zero,List.set_cons_succ];refine wpAnyH_take (i:=22) (v:=?v20) rfl (by kernel_rfl) (by kernel_rfl) (by kernel_rfl) (fun _ _ _ h=>h) (Or.inl ⟨by rfl,?hy20⟩) (by assumption) ?rest20
 case hy20=>(intro w hSw;(try dsimp only at hSw);obtain⟨⟨z1,z2,z3,z4⟩,⟨y1,y2,y3,y4⟩⟩:=hSw;go_simp;all_goals (with_reducible rfl))
 simp only[Act.put,List.getElem_toArray,List.getElem_cons_zero,List.getElem_cons_succ,List.setIfInBounds_toArray,List.set_cons_zero,List.set_cons_succ];refine wpAnyH_ready (rs:=[21]) (by kernel_rfl) (by simp) ?_;refine AllReadyH.cons rfl (fun K hK=>?_) AllReadyH.nil
 go_simp
 go_wp2_with (go_at_call 9;refine(HR _ FC CC).mono ?_;rintro e wd ⟨rfl,BC⟩;have KD:=kb2 KC LC BC;have FD:=FC.below BC;have CD:=CC.below BC;have DD:=DC.below BC;have LD:=lb2 LC BC);refine hK.out _ _ KD (fun hHeld=>?_);clear hK K;refine wpAnyH_ready (rs:=[23]) (by kernel_rfl) (by simp) ?_;refine AllReadyH.cons rfl (fun K hK=>?_) AllReadyH.nil
 go_simp
 go_wp2_with (go_at_call 9;refine(HQ _ FD DD).mono ?_;rintro e wf ⟨rfl,BD⟩;have KE:=kb2 KD LD BD;have FE:=FD.below BD;have LE:=lb2 LD BD);refine hK.out _ _ KE (fun hHeld=>?_);clear hK K;refine wpAnyH_take (i:=24) (v:=?v21) rfl (by kernel_rfl) (by kernel_rfl) (by kernel_rfl) (fun _ _ _ h=>h) (Or.inl ⟨by rfl,?hy21⟩) (by assumption) ?rest21
 case hy21=>(intro w hSw;(try dsimp only at hSw);go_simp;all_goals (with_reducible rfl))
 simp only[Act.put,List.getElem_toArray,List.getElem_cons_zero,List.getElem_cons_succ,List.setIfInBounds_toArray,List.set_cons_zero,List.set_cons_succ];refine wpAnyH_take (i:=25) (v:=?v22) rfl (by kernel_rfl) (by kernel_rfl) (by kernel_rfl) (fun _ _ _ h=>h) (Or.inl ⟨by rfl,?hy22⟩) (by assumption) ?rest22
 case hy22=>(intro w hSw;(try dsimp only at hSw);go_simp;all_goals (with_reducible rfl))
 simp only[Act.put,List.getElem_toArray,List.getElem_cons_zero,List.getElem_cons_succ,List.setIfInBounds_toArray,List.set_cons_zero,List.set_cons_succ];refine wpAnyH_done (by kernel_rfl) ?_ _;have BBE:=bdt (bdt (bdt (bdt BBA BA gga) BB (Nat.le_trans gga BA.size)) BC (Nat.le_trans (Nat.le_trans gga BA.size) BB.size)) BD (Nat.le_trans (Nat.le_trans (Nat.le_trans gga BA.size) BB.size) BC.size);have gge:=Nat.le_trans (Nat.le_trans (Nat.le_trans (Nat.le_trans gga BA.size) BB.size) BC.size) BD.size;clear BA BB BC BD KA KB KC KD KE LA LB LC LD LE CA CB CC CD DA DB DC DD FA FB FC FD BBA gga HM HN HR HQ hHeld;rcases HCS.out with ⟨hev,hIs,hsz⟩|hev
 ·subst hev;have HD:=decode_c zz wf FE (by omega);have HIS:=Lib.hid hIs;clear hIs;go_wp2_with fail;refine HD.mono ?_;intro e wg hD;obtain⟨BF,q2,rfl,-,-⟩:=hD.yes HIS.out;have BBF:=bdt BBE BF gge;have ggf:=Nat.le_trans gge BF.size;obtain⟨wh,hwh⟩:∃wh,wh=wg.alloc (.cells (cdA q2 c) 28):=⟨_,rfl⟩
  obtain⟨g9,hg9⟩:∃g9,g9=wg.heap.size:=⟨_,rfl⟩
  have K9:bx4 q2 c wh g9:=by rw[hwh,hg9];exact bx4_new q2 c wg
  have BBH:Below g w wh:=by rw[hwh];exact BBF.alloc ggf _
  have HG9:=Lib.hid hg9;clear HD hD BF BBF ggf hg9;go_upto_region 11 with fail;rw[<-hwh,<-HG9.out];clear hwh;unfold bx4 at K9;rw[H0.out.1,H0.out.2.1,H0.out.2.2,HWL.out] at K9;obtain⟨j0,j1,j2,j3⟩:=K9;go_wp2;go_ret;exact⟨by first|rfl|simp,by rw[<-HG.out];exact BBH⟩
 ·subst hev;go_wp2;go_ret;exact⟨rfl,by rw[<-HG.out];exact BBE⟩
theorem ownK:ownKnob Tryd.prog.godebug=none:=by kernel_rfl
theorem laidOut:laidOutB Tryd.prog=true:=by kernel_rfl
theorem cellsInt:Tryd.prog.cellsOf 3=1:=by kernel_rfl
theorem gWd : Tryd.prog.globalNamed "isthmus/lex.words" = some 1 := by kernel_rfl
theorem gWdType:(Tryd.prog.globals[1]?).map (·.type)=some 85:=by kernel_rfl
theorem cellsWd:Tryd.prog.cellsOf 85=27:=by kernel_rfl
theorem cellsStr:Tryd.prog.cellsOf 9=1:=by kernel_rfl
def wordsD:List (DataW Unit):=(List.range 27).map fun j=>.lit (.string (wd j).data.toList)
theorem wordsD_eq:(Rows.laid_isthmus_lex_words:DataW Unit)=.agg wordsD:=by rfl
theorem wordsA_list:wordsA.toList=(List.range 27).map fun j=>Value.string (wd j):=by rfl
theorem words_of_cells {W:World}{fuel:Nat}{cs:List Value}{p:List MemPlace}(h:DataW.trod (fun _=>()) Tryd.prog W 0 (fun _=>true) false fuel 85 cs=some (.agg wordsD,p)):cs=wordsA.toList:=by
 obtain⟨xs,m,_,hx,hl,hlen,hf⟩:=DataW.trod_array Tryd.underlying85 h;rw[cellsWd] at hl;simp only[cellsStr,Nat.mul_one] at hf;simp only[Prod.mk.injEq,DataW.agg.injEq] at hx;rw[wordsA_list];apply List.ext_getElem?;intro i;by_cases hi:i<27
 ·have hfi:=hf i hi;have hxi:xs[i]?=some xs[i]:=List.getElem?_eq_getElem (by omega);rw[hxi] at hfi;obtain⟨s,h1,h2⟩:=DataW.trod_string Tryd.underlying9 hfi;have hc:cs[i]?=some (.string s):=by
   have:=congrArg (·[0]?) h1
   simpa [List.getElem?_take,List.getElem?_drop] using this
  have hd:(xs.map (·.1))[i]?=some (.lit (.string s.data.toList)):=by rw[List.getElem?_map,hxi,h2.1];rfl
  rw[<-hx.1] at hd;unfold wordsD at hd;rw[List.getElem?_map,List.getElem?_range hi] at hd;simp only[Option.map_some,Option.some.injEq,DataW.lit.injEq,Lit.string.injEq] at hd;have hs:=bytes_eq.1 hd;rw[hc,List.getElem?_map,List.getElem?_range hi,<-hs];rfl
 ·rw[List.getElem?_eq_none (by omega),List.getElem?_eq_none (by simp;omega)]
theorem wd_of_laid {W : World} {r : List (String × DataW Unit)} (h : laidMet Tryd.prog (("isthmus/lex.words", Rows.laid_isthmus_lex_words) :: r) W) : Wd W := by
 rw[wordsD_eq] at h;obtain⟨ps,⟨g',t',cs,fuel,p,q,hg',ht',hvar,hd,_,_⟩,_⟩:=h;obtain rfl:=Option.some.inj (gWd.symm.trans hg');obtain rfl:=Option.some.inj (gWdType.symm.trans ht');have hcs:=words_of_cells hd;have hcs':cs=wordsA:=Array.toList_inj.1 hcs;subst hcs';simp only[World.var?,gWd,Option.bind_some] at hvar;split at hvar
 ·rename_i c t fr hh
  cases hvar;exact⟨t,fr,hh⟩
 ·cases hvar
def layCells (cs:Array Value):Obj->Obj
 | .cells _ t frozen=>.cells cs t frozen
 | o=>o
theorem tab_of_laid2 {W : World} {r : List (String × DataW Unit)} (h : laidMet Tryd.prog (("isthmus/pack.fields", Rows.laid_isthmus_pack_fields) :: r) W) : Tab W := by
 obtain⟨ps,⟨g',t',cs,fuel,p,q,hg',ht',hvar,hd,_,_⟩,_⟩:=h;obtain rfl:=Option.some.inj (gTab.symm.trans hg');obtain rfl:=Option.some.inj (gTabType.symm.trans ht');obtain⟨xs,m,_,hx,hl,hlen,hf⟩:=DataW.trod_array Tryd.underlying89 hd;rw[cellsTab] at hl;simp only[cellsField] at hf
 match xs,hlen with
 | [x0,x1,x2],_ =>
  have f0:=hf 0 (by omega);have f1:=hf 1 (by omega);have f2:=hf 2 (by omega);simp only[Rows.laid_isthmus_pack_fields,List.map_cons,List.map_nil,Prod.mk.injEq,DataW.agg.injEq,List.cons.injEq,and_true] at hx;obtain⟨⟨e0,e1,e2⟩,_⟩:=hx;obtain⟨d0,p0⟩:=x0;obtain⟨d1,p1⟩:=x1;obtain⟨d2,p2⟩:=x2;simp only at e0 e1 e2;subst e0 e1 e2;have g0:=field_cells f0;have g1:=field_cells f1;have g2:=field_cells f2;obtain⟨l⟩:=cs
  match l,hl with
  | [v0,v1,v2,v3,v4,v5],_ =>
   simp at g0 g1 g2;obtain⟨rfl,rfl⟩:=g0;obtain⟨rfl,rfl⟩:=g1;obtain⟨rfl,rfl⟩:=g2;have hc:=fun i=>World.var?_cell gTab hvar i;have c0:=hc 0;have c1:=hc 1;have c2:=hc 2;have c3:=hc 3;have c4:=hc 4;have c5:=hc 5;simp at c0 c1 c2 c3 c4 c5;refine⟨c0,c1,c2,c3,c4,c5,?_⟩;by_cases hs:2<W.heap.size
   ·exact hs
   ·exfalso
    have:W.heap[2]?=none:=Array.getElem?_eq_none (by omega)
    simp[World.cell?,this] at c0
theorem gRul : Tryd.prog.globalNamed "isthmus/code.rules" = some 0 := by kernel_rfl
theorem gRulType:(Tryd.prog.globals[0]?).map (·.type)=some 80:=by kernel_rfl
theorem cellsRul:Tryd.prog.cellsOf 80=56:=by kernel_rfl
theorem cellsRu1:Tryd.prog.cellsOf 79=2:=by kernel_rfl
def rulesD:List (DataW Unit):=(List.range 28).map fun j=>.agg [.lit (.int .i64 (rulA.getD j 0:Nat)),.lit (.int .i64 (rulB.getD j 0:Nat))]
theorem rulesD_eq:(Rows.laid_isthmus_code_rules:DataW Unit)=.agg rulesD:=by rfl
theorem rule_cells {W:World}{m:Nat}{l:List Value}{a b:Int}{p:List MemPlace}
  (h:DataW.trod (fun _=>()) Tryd.prog W 0 (fun _=>true) false m 79 l=some (.agg [.lit (.int .i64 a),.lit (.int .i64 b)],p)):l=[.int .i64 a,.int .i64 b]:=by
 obtain⟨y0,y1,n,hx,hl,h0,h1⟩:=trod_struct2 Tryd.underlying79 h;simp only[Prod.mk.injEq,DataW.agg.injEq,List.cons.injEq,and_true] at hx;obtain⟨⟨e0,e1⟩,_⟩:=hx;obtain⟨z0,c0,r0,_⟩:=DataW.trod_int Tryd.underlying3 h0;obtain⟨z1,c1,r1,_⟩:=DataW.trod_int Tryd.underlying3 h1;subst r0 r1;simp only[DataW.lit.injEq,Lit.int.injEq,true_and] at e0 e1;subst e0 e1;rw[cellsRu1] at hl;simp only[cellsInt] at c0 c1
 match l,hl with
 | [v0,v1],_ =>
  simp at c0 c1;rw[c0,c1]
theorem rul_of_laid {W : World} {r : List (String × DataW Unit)} (h : laidMet Tryd.prog (("isthmus/code.rules", Rows.laid_isthmus_code_rules) :: r) W) : Rul W := by
 rw[rulesD_eq] at h;obtain⟨ps,⟨g',t',cs,fuel,p,q,hg',ht',hvar,hd,_,_⟩,_⟩:=h;obtain rfl:=Option.some.inj (gRul.symm.trans hg');obtain rfl:=Option.some.inj (gRulType.symm.trans ht');obtain⟨xs,m,_,hx,hl,hlen,hf⟩:=DataW.trod_array Tryd.underlying80 hd;rw[cellsRul] at hl;simp only[cellsRu1] at hf;simp only[Prod.mk.injEq,DataW.agg.injEq] at hx;have hc:=fun i=>World.var?_cell gRul hvar i;have key:∀ o,o<28->cs[o*2]?=some (.int .i64 (rulA.getD o 0:Nat))/\cs[o*2+1]?=some (.int .i64 (rulB.getD o 0:Nat)):=fun o ho=>by
  have hfi:=hf o ho;have hxi:xs[o]?=some xs[o]:=List.getElem?_eq_getElem (by omega);rw[hxi] at hfi;have hd:(xs.map (·.1))[o]?=some (xs[o].1):=by rw[List.getElem?_map,hxi];rfl
  rw[<-hx.1] at hd;unfold rulesD at hd;rw[List.getElem?_map,List.getElem?_range ho] at hd;simp only[Option.map_some,Option.some.injEq] at hd;have g:=rule_cells (p:=xs[o].2) (hfi.trans (congrArg some (Prod.ext hd.symm rfl)));have h0:((cs.toList.drop (o*2)).take 2)[0]?=some (.int .i64 (rulA.getD o 0:Nat)):=by rw[g];rfl
  have h1:((cs.toList.drop (o*2)).take 2)[1]?=some (.int .i64 (rulB.getD o 0:Nat)):=by rw[g];rfl
  simp only[List.getElem?_take,List.getElem?_drop] at h0 h1;exact⟨by simpa using h0,by simpa using h1⟩
 refine⟨?_,fun o ho=>⟨(hc (o*2)).trans (key o ho).1,(hc (o*2+1)).trans (key o ho).2⟩⟩;by_cases hs:0<W.heap.size
 ·exact hs
 ·exfalso;have h0:=(hc (0*2)).trans (key 0 (by omega)).1
  have:W.heap[0]?=none:=Array.getElem?_eq_none (by omega)
  simp[World.cell?,this] at h0
theorem fx_of_laid {W : World} (h : laidMet Tryd.prog [("isthmus/pack.fields", Rows.laid_isthmus_pack_fields), ("isthmus/lex.words", Rows.laid_isthmus_lex_words), ("isthmus/code.rules", Rows.laid_isthmus_code_rules)] W) : Fx W := ⟨tab_of_laid2 h, rul_of_laid h.tail.tail, wd_of_laid h.tail⟩
def rulesA:Array Value:=((List.range 56).map fun j=>if j % 2=0 then Value.int .i64 (rulA.getD (j / 2) 0:Nat) else .int .i64 (rulB.getD (j / 2) 0:Nat)).toArray
def laidWorld (P:Program)(os:Os):World :=
 let w0:=World.holding P os ⟨#[],#[],[]⟩
 { w0 with heap:=((w0.heap.modify 2 (layCells #[.int .u64 56,.int .u64 255,.int .u64 28,.int .u64 268435455,.int .u64 0,.int .u64 268435455])).modify 1 (layCells wordsA)).modify 0 (layCells rulesA) }
theorem cellsRaw:Tryd.prog.cellsOf 43=3:=by kernel_rfl
def Wgh {H:Type}(d:DataW H)(n:Nat):Prop:=(d=.nil/\n=0)\/∃es sp,d=.slice es sp/\n<=es.length+sp.length
theorem addp (b off k:Nat):(⟨b,off,none⟩:Addr).add k=⟨b,off+k,none⟩:=Addr.add_mid ..
theorem open_raws {H:Type}{enc:TypeId × Value->H}{W:World}{a:Option Addr}{n c:Nat}{d:DataW H}{ps:List MemPlace}(h:DataW.Trod enc Tryd.prog W 0 (fun _=>true) true 22 (.slice a n c) d ps)(hlt:∀ q ∈ ps,q.block<W.heap.size) :
  ∃(ao:Option Addr) (cap:Nat) (zs:List Rw),(.slice a n c:Value)=.slice ao zs.length cap/\RawW W ao zs/\(∀ r ∈ zs,r.Ok)/\zs.length<=maxLen/\Wgh d zs.length:=by
 obtain⟨fuel,hf⟩:=h;rcases Go.Deep.open_slice Tryd.underlying22 hf with ⟨hcs,hx⟩|⟨a',len',cap',m,n',D,Pl,hcs,_,hl,hm,hmm,hx,hel⟩
 ·simp[Value.cells] at hcs;obtain⟨rfl,rfl,rfl⟩:=hcs;simp only[Prod.mk.injEq] at hx;exact⟨none,0,[],rfl,.inl rfl,by simp,by simp,.inl ⟨hx.1,rfl⟩⟩
 ·simp[Value.cells] at hcs;obtain⟨rfl,rfl,rfl⟩:=hcs;simp only[Prod.mk.injEq] at hx;obtain⟨rfl,rfl⟩:=hx;simp only[if_true] at hmm;subst hmm;obtain⟨b,off,spot⟩:=a';have each:∀ i,i<n->∃r:Rw,spot=none/\b<W.heap.size/\(W.cell? ⟨b,off+i*3,none⟩=some (.int .i64 r.o)/\W.cell? ⟨b,off+i*3+1,none⟩=some (.int .i64 r.a)/\W.cell? ⟨b,off+i*3+2,none⟩=some (.int .i64 r.b))/\r.Ok:=by
   intro i hi;obtain⟨cs',h1,h2⟩:=hel i (by omega);rw[cellsRaw] at h1;obtain⟨_,hlen,hcell⟩:=World.cells?_some h1;obtain⟨xs,k,hk,hxy,_,hxl,hff⟩:=DataW.trod_struct Tryd.underlying43 h2
   match xs,hxl,cs',hlen with
   | [y0,y1,y2],_,[u0,u1,u2],_ =>
    have g0:=hff 0 _ rfl;have g1:=hff 1 _ rfl;have g2:=hff 2 _ rfl;simp[cellsInt] at g0 g1 g2;obtain⟨z0,e0,_,w0⟩:=DataW.trod_int Tryd.underlying3 g0;obtain⟨z1,e1,_,w1⟩:=DataW.trod_int Tryd.underlying3 g1;obtain⟨z2,e2,_,w2⟩:=DataW.trod_int Tryd.underlying3 g2;simp at e0 e1 e2;subst e0 e1 e2;have c0:=hcell 0 (by omega);have c1:=hcell 1 (by omega);have c2:=hcell 2 (by omega);have hspot:spot=none:=by
     obtain⟨cs0,k1,k2⟩:=hel 0 (by omega);rw[cellsRaw] at k1;obtain⟨_,klen,kcell⟩:=World.cells?_some k1;have k3:=kcell 0 (by omega);rw[List.getElem?_eq_getElem (by omega)] at k3;simpa [Addr.add] using World.cell?_spot k3
    subst hspot;simp only[addp] at c0 c1 c2;have hbl:b<W.heap.size:=hlt (.cell b off) (List.mem_append_left _ (MemPlace.mem_row.2 ⟨0,by rw[cellsRaw];omega,by simp⟩));have b0:=bd_i64 w0;have b1:=bd_i64 w1;have b2:=bd_i64 w2;exact⟨⟨z0,z1,z2⟩,rfl,hbl,⟨by simpa using c0,by simpa using c1,by simpa using c2⟩,⟨b0.1,b0.2,b1.1,b1.2,b2.1,b2.2⟩⟩
  have hlen:((List.range n).map fun i=>if h:i<n then (each i h).choose else ⟨0,0,0⟩).length=n:=by simp
  refine⟨some ⟨b,off,spot⟩,m,(List.range n).map fun i=>if h:i<n then (each i h).choose else ⟨0,0,0⟩,by rw[hlen],?_,?_,by rw[hlen];exact Nat.le_trans hl hm,.inr ⟨_,_,rfl,by simp<;>omega⟩⟩
  ·by_cases h0:n=0
   ·subst h0;exact .inl rfl
   ·have s0:=(each 0 (by omega)).choose_spec;refine .inr ⟨b,off,by rw[s0.1],s0.2.1,fun k hk=>?_⟩;have hk':k<n:=by simpa using hk
    simp only[List.getElem_map,List.getElem_range,dif_pos hk'];exact(each k hk').choose_spec.2.2.1
  ·intro r hr;obtain⟨i,hi,rfl⟩:=List.mem_map.1 hr;have hi':=List.mem_range.1 hi;simp only[dif_pos hi'];exact(each i hi').choose_spec.2.2.2
end Go.Proofs.YtdhhnhjolmnkjabDoor

import Derived.Test.YtkhgahljbpmfaaaGreatDoorEmT
set_option maxRecDepth 100000
set_option maxHeartbeats 8000000
namespace Go.Proofs.YtkhgahljbpmfaaaGreatDoor
open Go.ChangeShapes Go.WideShapes Go.ChangeAt Go.RowKit
set_option linter.unusedVariables false
set_option linter.unusedSimpArgs false
theorem infoEw:(Tryz.prog.info? 54).map (fun i=>(i.zero,i.size,i.bytes))=some (some (.int .u64 0),1,8):=by kernel_rfl
theorem infoEi:(Tryz.prog.info? 3).map (fun i=>(i.zero,i.size,i.bytes))=some (some (.int .i64 0),1,8):=by kernel_rfl
theorem infoEs:(Tryz.prog.info? 9).map (fun i=>(i.zero,i.size,i.bytes))=some (some (.string ⟨#[]⟩),1,16):=by kernel_rfl
theorem one1E (v:Value)(h:v.oneCell'=true):∀ u ∈ [v],u.oneCell'=true:=by
 intro u hu;simp at hu;subst hu;exact h
theorem noF:∀ k,I17 k->¬(fun _:Nat=>False) k:=fun _ _=>id
theorem lay_c (op a b:Nat)(w:World)(o:Nat->Nat)(rb:Nat)(lv:Value)(ls:List Int)(s:Em)(hop:op<=255)(ha:a<=268435455)(hb:b<=268435455)(hm:s.mes<=100000000)(X:EmX w o lv ls)(h:EmW w o rb lv s) :
  Calls Tryz.prog 41 #[.pointer (some ⟨rb,0,none⟩),.int .i64 (op:Nat),.int .i64 (a:Nat),.int .i64 (b:Nat)] w (PosE w o rb lv (s.lay op a b) (.int .i64 (s.ws.length:Nat))):=by
 obtain⟨h1,h2,h3,vw,vc,vn,vk,mc,mn,q0,q1,q2,q3,q4,q5,q6⟩:=h;obtain⟨ii,i1,i2,i3,i4⟩:=info_parts infoEw;obtain⟨⟨c0,c1,c2,c3,c4,c5,c6,c7⟩,cf⟩:=cells8 q0.1;have HW:=word_yes (op:Int) (a:Int) (b:Int) w X.tab (by omega) (by omega) (by omega) (by omega) (by omega) (by omega);have hl:s.ws.length<=100000000:=by unfold Em.mes at hm;omega
 have hx:Hid ((⟨op,a,b⟩:Wo).ok):=⟨hop,ha,hb⟩
 have hn1:s.ws.length+1<=maxLen:=by unfold maxLen;omega
 have hn2:(s.ws.length+1)*8<=140737488355328:=by omega
 have he:(((op:Int)*268435456+(a:Int))*268435456+(b:Int))=encW ⟨op,a,b⟩:=rfl;rw[he] at HW;have hwv:Hid (woV (s.lay op a b).ws=woV s.ws++[.int .u64 (encW ⟨op,a,b⟩)]):=by show _=_;simp[woV,Em.lay]
 generalize encW ⟨op,a,b⟩=ev at *;have q1':=q1.step (Step.ofBelow (I:=fun _=>False) o (b1 w (.cells #[.int .u64 ev] 54))) id;clear he X hm;go_enter Tryz.func41,Tryz.ntmps41;go_wp2_with (first|(go_at_call 86;refine HW.mono ?_;rintro e w1 ⟨rfl,hww⟩;subst hww)|(at_builtin;refine wpList_append_lab rfl (.tmp 23) (.tmp 25) 39 rfl 54 ii (.int .u64 0) 1 8 Tryz.underlying39 i1 i2 i3 i4 rfl (by decide) o 2 vw s.ws.length (woV s.ws) rfl q1' ⟨w1.heap.size,0,none⟩ 1 1 [.int .u64 ev] rfl rfl (new_one _ _ _) (one1E _ rfl) (by decide) hn1 hn2 ?_)|go_in);intro g1 cp w2 o2 R2 S2;have s1:Step (fun k=>k=2) w1 o w2 o2:=(Step.ofBelow o (b1 w1 _)).trans S2;have p0:=q0.step s1 (by decide);have p2:=q2.step s1 (by decide);have p3:=q3.step s1 (by decide);have p4:=q4.step s1 (by decide);have p5:=q5.step s1 (by decide);have p6:=q6.step s1 (by decide);obtain⟨⟨d0,d1,d2,d3,d4,d5,d6,d7⟩,df⟩:=cells8 p0.1;have df0:=df 0;have s3:Step (fun k=>k=1) w2 o2 (w2.setCell ⟨rb,0,none⟩ (.slice (some ⟨g1,0,none⟩) (s.ws.length+1) cp)) o2:=setStep _ w2 o2 ⟨rb,0,none⟩ _ p0.2;have HF:Hid (EmW (w2.setCell ⟨rb,0,none⟩ (.slice (some ⟨g1,0,none⟩) (s.ws.length+1) cp)) o2 rb lv (s.lay op a b)/\Step I17 w1 o (w2.setCell ⟨rb,0,none⟩ (.slice (some ⟨g1,0,none⟩) (s.ws.length+1) cp)) o2):=by
  refine⟨⟨fun x hx2=>?_,h2,h3,_,vc,vn,vk,mc,mn,p0.set 0 _,?_,p2.step s3 (by decide),p3.step s3 (by decide),p4.step s3 (by decide),p5.step s3 (by decide),p6.step s3 (by decide)⟩,(s1.mono (I17_of (by decide))).trans (s3.mono (I17_of (by decide)))⟩
  ·rcases List.mem_append.1 hx2 with hx2|hx2
   ·exact h1 x hx2
   ·simp at hx2;rw[hx2];exact hx.out
  ·rw[hwv.out]
   have:=R2.step s3 (by decide)
   have e:(s.lay op a b).ws.length=s.ws.length+1:=by simp[Em.lay]
   rw[e];exact this
 have hsub:((s.ws.length+1:Nat):Int)-1=(s.ws.length:Int):=by omega
 clear s1 s3 R2 S2 p0 p2 p3 p4 p5 p6 q0 q1 q2 q3 q4 q5 q6 q1' HW c0 c1 c2 c3 c4 c5 c6 c7 cf;go_wp2;go_ret;exact⟨by first|rfl|(simp;done)|(congr 1;simp),o2,HF.out⟩
theorem next_c (w:World)(o:Nat->Nat)(rb:Nat)(lv:Value)(s:Em)(h:EmW w o rb lv s) :
  Calls Tryz.prog 189 #[.pointer (some ⟨rb,0,none⟩)] w fun e w'=>e=.returned (.int .i64 (s.ws.length:Nat))/\w'=w:=by
 obtain⟨h1,h2,h3,vw,vc,vn,vk,mc,mn,q0,q1,-⟩:=h;obtain⟨⟨c0,c1,c2,c3,c4,c5,c6,c7⟩,cf⟩:=cells8 q0.1;obtain⟨ao,cap,rfl⟩:=q1.form;clear q0 q1;go_enter Tryz.func189,Tryz.ntmps189;go_wp2;go_ret;exact⟨rfl,rfl⟩
abbrev spV (ar u:Nat):Value:=.agg #[.int .i64 (ar:Nat),.int .i64 (u:Nat)]
theorem cells2e {w:World}{b:Nat}{x0 x1:Value}{t:TypeId}(h:w.heap[b]?=some (.cells #[x0,x1] t)):(w.cell? ⟨b,0,none⟩=some x0/\w.cell? ⟨b,1,none⟩=some x1)/\∀ j,w.frozen? ⟨b,j,none⟩=false:=by
 refine⟨⟨?_,?_⟩,fun j=>?_⟩<;>simp[World.cell?,World.frozen?,h]
theorem push_c (op a b ar u:Nat)(w:World)(o:Nat->Nat)(rb:Nat)(lv:Value)(ls:List Int)(s:Em)(hop:op<=255)(ha:a<=268435455)(hb:b<=268435455)(hu:u<=1000000000)(hd:s.dp<=1000000001)(hm:s.mes<=100000000)(X:EmX w o lv ls)(h:EmW w o rb lv s) :
  Calls Tryz.prog 76 #[.pointer (some ⟨rb,0,none⟩),.int .i64 (op:Nat),.int .i64 (a:Nat),.int .i64 (b:Nat),spV ar u] w (PosE w o rb lv (s.push op a b u) (.tuple #[])):=by
 obtain⟨w1,hw1⟩:∃w1,w1=w.alloc (.cells #[.int .i64 (ar:Nat),.int .i64 (u:Nat)] 86):=⟨_,rfl⟩
 obtain⟨g,hg⟩:∃g,g=w.heap.size:=⟨_,rfl⟩
 have s0:∀ {I:Nat->Prop},Step I w o w1 (newLab w o 0):=fun {I}=>by rw[hw1];exact boxStep I w o _
 have B1:Blk w1 (newLab w o 0) 0 g (.cells #[.int .i64 (ar:Nat),.int .i64 (u:Nat)] 86):=by rw[hw1,hg];exact⟨heap_alloc_new _ _,newLab_new (Nat.le_refl _)⟩
 have H1:=h.step (s0 (I:=fun _=>False)) noF;have X1:=X.step (s0 (I:=fun _=>False)) id;have S0:=s0 (I:=I17);generalize newLab w o 0=o1 at *;have HL:=lay_c op a b w1 o1 rb lv ls s hop ha hb hm X1 H1;have HG:=Lib.hid hg;clear s0 h X hg H1 X1;go_enter Tryz.func76,Tryz.ntmps76;go_upto_region 1 with fail;rw[<-hw1,<-HG.out];clear hw1;go_upto_region 2 with (first|(go_at_call 41;refine HL.mono ?_;rintro e w2 ⟨rfl,o2,E2,S2⟩))
 have B2:=B1.step S2 (by decide);obtain⟨h1,h2,h3,vw,vc,vn,vk,mc,mn,q0,q1,q2,q3,q4,q5,q6⟩:=E2;have t3:Step (fun k=>k=1) w2 o2 (w2.setCell ⟨rb,7,none⟩ (.int .i64 (max s.dp (u+1):Nat))).drew o2:=((Step.refl _ w2 o2).setCell ⟨rb,7,none⟩ _ q0.2).drew;have HF:Hid (EmW (w2.setCell ⟨rb,7,none⟩ (.int .i64 (max s.dp (u+1):Nat))).drew o2 rb lv (s.push op a b u)/\Step I17 w o (w2.setCell ⟨rb,7,none⟩ (.int .i64 (max s.dp (u+1):Nat))).drew o2):=by
  have q0d:=(q0.set 7 (.int .i64 (max s.dp (u+1):Nat))).step ((Step.refl (fun _=>False) _ o2).drew) id;exact⟨⟨h1,h2,h3,vw,vc,vn,vk,mc,mn,q0d,q1.step t3 (by decide),q2.step t3 (by decide),q3.step t3 (by decide),q4.step t3 (by decide),q5.step t3 (by decide),q6.step t3 (by decide)⟩,(S0.trans S2).trans (t3.mono (I17_of (by decide)))⟩
 obtain⟨⟨c0,c1,c2,c3,c4,c5,c6,c7⟩,cf⟩:=cells8 q0.1;obtain⟨⟨e0,e1⟩,-⟩:=cells2e B2.1;have cf7:=cf 7;have hdp:(s.lay op a b).dp=s.dp:=rfl;rw[hdp] at c7;have hmx:(if (s.dp:Int)<(u:Int)+1 then (u:Int)+1 else (s.dp:Int))=((max s.dp (u+1):Nat):Int):=by split<;>omega
 have HMX:=Lib.hid hmx;have HMY:Hid (max (s.dp:Int) ((u:Int)+1)=((max s.dp (u+1):Nat):Int)):=by show _=_;omega
 clear t3 q0 q1 q2 q3 q4 q5 q6 B1 B2 HL S2 S0 hmx cf;go_region
 all_goals
  first|rw[HMX.out] | rw[HMY.out]
  go_end0
  exact⟨rfl,o2,HF.out⟩
theorem over_e (ar u v:Nat)(w:World)(hu:u<=1000000000)(hv:v<=1000000000) :
  Calls Tryz.prog 84 #[spV ar u,.int .i64 (v:Nat)] w fun e w'=>e=.returned (spV ar (u+v))/\Below w.heap.size w w':=by
 obtain⟨w1,hw1⟩:∃w1,w1=(w.alloc (.cells #[.int .i64 (ar:Nat),.int .i64 (u:Nat)] 86)).alloc (.cells #[.int .i64 0,.int .i64 0] 86):=⟨_,rfl⟩
 obtain⟨g,hg⟩:∃g,g=w.heap.size:=⟨_,rfl⟩
 have B1:Below g w w1:=by rw[hw1,hg];exact((Below.refl _ w).alloc (Nat.le_refl _) _).alloc (by simp) _
 have e0:w1.heap[g]?=some (.cells #[.int .i64 (ar:Nat),.int .i64 (u:Nat)] 86):=by rw[hw1,hg];exact(heap_alloc_old _ _ (by simp)).trans (heap_alloc_new _ _)
 have e1:w1.heap[g+1]?=some (.cells #[.int .i64 0,.int .i64 0] 86):=by
  have:=heap_alloc_new (w.alloc (.cells #[.int .i64 (ar:Nat),.int .i64 (u:Nat)] 86)) (.cells #[.int .i64 0,.int .i64 0] 86)
  rw[hw1,hg];simpa using this
 obtain⟨⟨c0,c1⟩,cf⟩:=cells2e e0;obtain⟨⟨d0,d1⟩,df⟩:=cells2e e1;have HG:=Lib.hid hg;clear hg;go_enter Tryz.func84,Tryz.ntmps84;go_upto_region 1 with fail;rw[<-hw1,<-HG.out];clear hw1;have z1:=heap_setCell_same _ (g+1) 1 #[.int .i64 (ar:Nat),.int .i64 0] _ (.int .i64 ((u:Int)+(v:Int))) (heap_setCell_same _ (g+1) 0 _ _ (.int .i64 (ar:Nat)) ((heap_setCell_other w1 ⟨g,1,none⟩ (g+1) (.int .i64 ((u:Int)+(v:Int))) (by simp)).trans e1));obtain⟨⟨m0,m1⟩,-⟩:=cells2e z1;have BE:Hid (Below g w (((w1.setCell ⟨g,1,none⟩ (.int .i64 ((u:Int)+(v:Int)))).setCell ⟨g+1,0,none⟩ (.int .i64 (ar:Nat))).setCell ⟨g+1,1,none⟩ (.int .i64 ((u:Int)+(v:Int))))):=((B1.setCell (p:=⟨g,1,none⟩) (Nat.le_refl _) _).setCell (p:=⟨g+1,0,none⟩) (by show g<=g+1;omega) _).setCell (p:=⟨g+1,1,none⟩) (by show g<=g+1;omega) _;clear z1 B1 e0 e1;go_wp2;exact bodyPost_ret (v:=spV ar (u+v)) (by simp[results,Tryz.results84,go_sem,m0,m1]) rfl ⟨rfl,by rw[<-HG.out];exact BE.out⟩
theorem place_c (k:Int)(w:World)(o:Nat->Nat)(rb:Nat)(lv:Value)(ls:List Int)(s:Em)(hk:-9223372036854775808<=k/\k<=9223372036854775807)(hm:s.mes<=100000000)(X:EmX w o lv ls)(h:EmW w o rb lv s) :
  Calls Tryz.prog 77 #[.pointer (some ⟨rb,0,none⟩),.int .i64 k] w (PosE w o rb lv (s.kc k) (.int .i64 (s.cs.idxOf k:Nat))):=by
 have h':=h;obtain⟨h1,h2,h3,vw,vc,vn,vk,mc,mn,q0,q1,q2,q3,q4,q5,q6⟩:=h;obtain⟨ii,i1,i2,i3,i4⟩:=info_parts infoEi;obtain⟨⟨c0,c1,c2,c3,c4,c5,c6,c7⟩,cf⟩:=cells8 q0.1;obtain⟨ao,cap,rfl⟩:=q2.form;have hl:s.cs.length<=100000000:=by unfold Em.mes at hm;omega
 by_cases hin:k ∈ s.cs
 ·have hr:=q5.look k hk hin;have e:s.kc k=s:=by simp[Em.kc,hin]
  rw[e];have HF:=Lib.hid h';clear h' q0 q1 q2 q3 q4 q5 q6 e;go_enter Tryz.func77,Tryz.ntmps77;go_wp2;go_ret;exact⟨rfl,o,HF.out,Step.refl _ _ _⟩
 ·obtain⟨x,hr⟩:=q5.miss k hk hin;obtain⟨w1,hr2,M1,s1⟩:=q5.put k hk hin (by omega);have hn1:s.cs.length+1<=maxLen:=by unfold maxLen;omega
  have hn2:(s.cs.length+1)*8<=140737488355328:=by omega
  have p0:=q0.step s1 (by decide);have pr:=(q2.step s1 (by decide)).step (Step.ofBelow (I:=fun _=>False) o (b1 w1 (.cells #[.int .i64 k] 3))) id;obtain⟨⟨d0,d1,d2,d3,d4,d5,d6,d7⟩,df⟩:=cells8 p0.1;have HX:Hid (s.kc k=⟨s.ws,s.cs++[k],s.ns,s.ks,s.dp⟩/\s.cs.idxOf k=s.cs.length):=⟨by simp[Em.kc,hin],idx_none hin⟩
  clear X;go_enter Tryz.func77,Tryz.ntmps77;go_wp2_with (first|(at_builtin;refine wpList_append_lab rfl (.tmp 35) (.tmp 37) 35 rfl 3 ii (.int .i64 0) 1 8 Tryz.underlying35 i1 i2 i3 i4 rfl (by decide) o 3 (.slice ao s.cs.length cap) s.cs.length (eiV s.cs) rfl pr ⟨w1.heap.size,0,none⟩ 1 1 [.int .i64 k] rfl rfl (new_one _ _ _) (one1E _ rfl) (by decide) hn1 hn2 ?_)|go_in);intro g1 cp w2 o2 R2 S2;have s2:Step (fun k=>k=3) w1 o w2 o2:=(Step.ofBelow o (b1 w1 _)).trans S2;have r0:=p0.step s2 (by decide);obtain⟨⟨d0,d1,d2,d3,d4,d5,d6,d7⟩,df⟩:=cells8 r0.1;have df0:=df 1;have s3:Step (fun k=>k=1) w2 o2 (w2.setCell ⟨rb,1,none⟩ (.slice (some ⟨g1,0,none⟩) (s.cs.length+1) cp)) o2:=setStep _ w2 o2 ⟨rb,1,none⟩ _ r0.2;have HF:Hid (EmW (w2.setCell ⟨rb,1,none⟩ (.slice (some ⟨g1,0,none⟩) (s.cs.length+1) cp)) o2 rb lv (s.kc k)/\Step I17 w o (w2.setCell ⟨rb,1,none⟩ (.slice (some ⟨g1,0,none⟩) (s.cs.length+1) cp)) o2):=by
   rw[HX.out.1];refine⟨⟨h1,?_,h3,vw,_,vn,vk,mc,mn,r0.set 1 _,((q1.step s1 (by decide)).step s2 (by decide)).step s3 (by decide),?_,((q3.step s1 (by decide)).step s2 (by decide)).step s3 (by decide),((q4.step s1 (by decide)).step s2 (by decide)).step s3 (by decide),(M1.step s2 (by decide)).step s3 (by decide),((q6.step s1 (by decide)).step s2 (by decide)).step s3 (by decide)⟩,((s1.mono (I17_of (by decide))).trans (s2.mono (I17_of (by decide)))).trans (s3.mono (I17_of (by decide)))⟩
   ·intro y hy;rcases List.mem_append.1 hy with hy|hy
    ·exact h2 y hy
    ·simp at hy;rw[hy];exact hk
   ·have:=R2.step s3 (by decide)
    have e:(s.cs++[k]).length=s.cs.length+1:=by simp
    have e2:eiV (s.cs++[k])=eiV s.cs++[.int .i64 k]:=by simp[eiV]
    rw[e,e2];exact this
  have HI:Hid (s.cs.idxOf k=s.cs.length):=HX.out.2;clear s1 s2 s3 R2 S2 p0 pr r0 q0 q1 q2 q3 q4 q5 q6 hr hr2 M1 HX;go_wp2;go_ret;exact⟨by rw[HI.out];rfl,o2,HF.out⟩
theorem plname_c (k:List UInt8)(w:World)(o:Nat->Nat)(rb:Nat)(lv:Value)(ls:List Int)(s:Em)(hk:k.length<=maxLen)(hm:s.mes<=100000000)(X:EmX w o lv ls)(h:EmW w o rb lv s) :
  Calls Tryz.prog 133 #[.pointer (some ⟨rb,0,none⟩),stv k] w (PosE w o rb lv (s.kn k) (.int .i64 (s.ns.idxOf k:Nat))):=by
 have h':=h;obtain⟨h1,h2,h3,vw,vc,vn,vk,mc,mn,q0,q1,q2,q3,q4,q5,q6⟩:=h;obtain⟨ii,i1,i2,i3,i4⟩:=info_parts infoEs;obtain⟨⟨c0,c1,c2,c3,c4,c5,c6,c7⟩,cf⟩:=cells8 q0.1;obtain⟨ao,cap,rfl⟩:=q3.form;have hl:s.ns.length<=100000000:=by unfold Em.mes at hm;omega
 by_cases hin:k ∈ s.ns
 ·have hr:=q6.look k hk hin;have e:s.kn k=s:=by simp[Em.kn,hin]
  rw[e];have HF:=Lib.hid h';clear h' q0 q1 q2 q3 q4 q5 q6 e;go_enter Tryz.func133,Tryz.ntmps133;go_wp2;go_ret;exact⟨rfl,o,HF.out,Step.refl _ _ _⟩
 ·obtain⟨x,hr⟩:=q6.miss k hk hin;obtain⟨w1,hr2,M1,s1⟩:=q6.put k hk hin (by omega);have hn1:s.ns.length+1<=maxLen:=by unfold maxLen;omega
  have hn2:(s.ns.length+1)*16<=140737488355328:=by omega
  have p0:=q0.step s1 (by decide);have pr:=(q3.step s1 (by decide)).step (Step.ofBelow (I:=fun _=>False) o (b1 w1 (.cells #[stv k] 9))) id;obtain⟨⟨d0,d1,d2,d3,d4,d5,d6,d7⟩,df⟩:=cells8 p0.1;have HX:Hid (s.kn k=⟨s.ws,s.cs,s.ns++[k],s.ks,s.dp⟩/\s.ns.idxOf k=s.ns.length):=⟨by simp[Em.kn,hin],idx_none hin⟩
  clear X;go_enter Tryz.func133,Tryz.ntmps133;go_wp2_with (first|(at_builtin;refine wpList_append_lab rfl (.tmp 35) (.tmp 37) 40 rfl 9 ii (.string ⟨#[]⟩) 1 16 Tryz.underlying40 i1 i2 i3 i4 rfl (by decide) o 4 (.slice ao s.ns.length cap) s.ns.length (esV s.ns) rfl pr ⟨w1.heap.size,0,none⟩ 1 1 [stv k] rfl rfl (new_one _ _ _) (one1E _ rfl) (by decide) hn1 hn2 ?_)|go_in);intro g1 cp w2 o2 R2 S2;have s2:Step (fun k=>k=4) w1 o w2 o2:=(Step.ofBelow o (b1 w1 _)).trans S2;have r0:=p0.step s2 (by decide);obtain⟨⟨d0,d1,d2,d3,d4,d5,d6,d7⟩,df⟩:=cells8 r0.1;have df0:=df 2;have s3:Step (fun k=>k=1) w2 o2 (w2.setCell ⟨rb,2,none⟩ (.slice (some ⟨g1,0,none⟩) (s.ns.length+1) cp)) o2:=setStep _ w2 o2 ⟨rb,2,none⟩ _ r0.2;have HF:Hid (EmW (w2.setCell ⟨rb,2,none⟩ (.slice (some ⟨g1,0,none⟩) (s.ns.length+1) cp)) o2 rb lv (s.kn k)/\Step I17 w o (w2.setCell ⟨rb,2,none⟩ (.slice (some ⟨g1,0,none⟩) (s.ns.length+1) cp)) o2):=by
   rw[HX.out.1];refine⟨⟨h1,h2,?_,vw,vc,_,vk,mc,mn,r0.set 2 _,((q1.step s1 (by decide)).step s2 (by decide)).step s3 (by decide),((q2.step s1 (by decide)).step s2 (by decide)).step s3 (by decide),?_,((q4.step s1 (by decide)).step s2 (by decide)).step s3 (by decide),((q5.step s1 (by decide)).step s2 (by decide)).step s3 (by decide),(M1.step s2 (by decide)).step s3 (by decide)⟩,((s1.mono (I17_of (by decide))).trans (s2.mono (I17_of (by decide)))).trans (s3.mono (I17_of (by decide)))⟩
   ·intro y hy;rcases List.mem_append.1 hy with hy|hy
    ·exact h3 y hy
    ·simp at hy;rw[hy];exact hk
   ·have:=R2.step s3 (by decide)
    have e:(s.ns++[k]).length=s.ns.length+1:=by simp
    have e2:esV (s.ns++[k])=esV s.ns++[stv k]:=by simp[esV]
    rw[e,e2];exact this
  have HI:Hid (s.ns.idxOf k=s.ns.length):=HX.out.2;clear s1 s2 s3 R2 S2 p0 pr r0 q0 q1 q2 q3 q4 q5 q6 hr hr2 M1 HX;go_wp2;go_ret;exact⟨by rw[HI.out];rfl,o2,HF.out⟩
theorem spot_box {w:World}{g:Nat}{ar u:Nat}(h:w.heap[g]?=some (.cells #[.int .i64 (ar:Nat),.int .i64 (u:Nat)] 86)):w.cell? ⟨g,0,none⟩=some (.int .i64 (ar:Nat))/\w.cell? ⟨g,1,none⟩=some (.int .i64 (u:Nat)):=(cells2e h).1
theorem constant_c (n:Int)(kd ar u:Nat)(w:World)(o:Nat->Nat)(rb:Nat)(lv:Value)(ls:List Int)(s:Em)(hn:-9223372036854775808<=n/\n<=9223372036854775807)(hk:kd<=268435455)(hu:u<=1000000000)(hd:s.dp<=1000000001)(hm:s.mes<=99999998)(X:EmX w o lv ls)(h:EmW w o rb lv s) :
  Calls Tryz.prog 74 #[.pointer (some ⟨rb,0,none⟩),.int .i64 n,.int .i64 (kd:Nat),spV ar u] w (PosE w o rb lv (s.con n kd u) (.tuple #[])):=by
 obtain⟨w1,hw1⟩:∃w1,w1=w.alloc (.cells #[.int .i64 (ar:Nat),.int .i64 (u:Nat)] 86):=⟨_,rfl⟩
 obtain⟨g,hg⟩:∃g,g=w.heap.size:=⟨_,rfl⟩
 have s0:∀ {I:Nat->Prop},Step I w o w1 (newLab w o 0):=fun {I}=>by rw[hw1];exact boxStep I w o _
 have B1:Blk w1 (newLab w o 0) 0 g (.cells #[.int .i64 (ar:Nat),.int .i64 (u:Nat)] 86):=by rw[hw1,hg];exact⟨heap_alloc_new _ _,newLab_new (Nat.le_refl _)⟩
 have H1:=h.step (s0 (I:=fun _=>False)) noF;have X1:=X.step (s0 (I:=fun _=>False)) id;have S0:=s0 (I:=I17);generalize newLab w o 0=o1 at *;have HG:=Lib.hid hg;have kd1:=s.mes_kc n;have kd2:s.cs.idxOf n<=268435455:=by
  have:=List.idxOf_le_length (a:=n) (l:=s.cs)
  unfold Em.mes at hm;omega
 clear s0 h X hg;go_enter Tryz.func74,Tryz.ntmps74;go_upto_region 1 with fail;rw[<-hw1,<-HG.out];clear hw1;have d1:Step (fun _=>False) w1 o1 w1.drew o1:=(Step.refl _ w1 o1).drew;have HC:=place_c n w1.drew o1 rb lv ls s hn (by omega) (X1.step d1 id) (H1.step d1 noF);have B1d:=B1.step d1 id;have SD:Step I17 w o w1.drew o1:=S0.trans ((Step.refl _ w1 o1).drew);have HP:∀ w2 o2,EmW w2 o2 rb lv (s.kc n)->EmX w2 o2 lv ls->Calls Tryz.prog 76 #[.pointer (some ⟨rb,0,none⟩),.int .i64 1,.int .i64 (s.cs.idxOf n:Nat),.int .i64 (kd:Nat),spV ar u] w2 (PosE w2 o2 rb lv (s.con n kd u) (.tuple #[])):=fun w2 o2 E2 X2=>push_c 1 (s.cs.idxOf n) kd ar u w2 o2 rb lv ls (s.kc n) (by omega) kd2 hk hu hd (by omega) X2 E2;obtain⟨a0,a1⟩:=spot_box B1.1;obtain⟨b0,b1⟩:=spot_box B1d.1;have XD:=X1.step d1 id;clear H1 X1 d1 S0 B1;go_region_held3 (fun wx=>wx.cell? ⟨g,0,none⟩=some (.int .i64 (ar:Nat))/\wx.cell? ⟨g,1,none⟩=some (.int .i64 (u:Nat))) (go_keep) (first|(go_at_call 77;refine HC.mono ?_;rintro e w2 ⟨rfl,o2,E2,S2⟩;obtain⟨b0,b1⟩:=spot_box (B1d.step S2 (by decide)).1;have HP2:=HP w2 o2 E2 (XD.step S2 (by decide)))|(go_at_call 76;refine HP2.mono ?_;rintro e w3 ⟨rfl,o3,E3,S3⟩;obtain⟨b0,b1⟩:=spot_box ((B1d.step S2 (by decide)).step S3 (by decide)).1))
 all_goals
  go_end0
  exact⟨rfl,o3,E3,(SD.trans S2).trans S3⟩
structure Grw (s s':Em)(n:Nat):Prop where
 mes:s'.mes<=s.mes+n
 ws:s.ws.length<=s'.ws.length
 ks:s'.ks.length=s.ks.length
 dp:s.dp<=1000000001->s'.dp<=1000000001
theorem Grw.trans {a b c:Em}{n m:Nat}(h:Grw a b n)(k:Grw b c m):Grw a c (n+m):=⟨by have:=h.mes;have:=k.mes;omega,Nat.le_trans h.ws k.ws,k.ks.trans h.ks,fun x=>k.dp (h.dp x)⟩
theorem Grw.le {a b:Em}{n m:Nat}(h:Grw a b n)(hm:n<=m):Grw a b m:=⟨by have:=h.mes;omega,h.ws,h.ks,h.dp⟩
theorem gr_lay (s:Em)(op a b:Nat):Grw s (s.lay op a b) 1:=⟨by rw[Em.mes_lay];omega,by simp[Em.lay],rfl,id⟩
theorem gr_land (s:Em)(i:Nat):Grw s (s.land i) 0:=⟨by rw[Em.mes_land];omega,by simp[Em.land],rfl,id⟩
theorem gr_cel (s:Em)(i:Nat)(k:Int):Grw s (s.cel i k) 0:=⟨Nat.le_refl _,Nat.le_refl _,by simp[Em.cel],id⟩
theorem gr_con (s:Em)(n:Int)(kd u:Nat)(hu:u<=1000000000):Grw s (s.con n kd u) 2:=⟨s.mes_con n kd u,by simp[Em.con,Em.push,Em.kc],rfl,fun h=>by show max s.dp (u+1)<=_;omega⟩
def PosQ (w:World)(o:Nat->Nat)(rb:Nat)(lv:Value)(s s':Em)(n:Nat)(e:Ending)(w':World):Prop:=e=.returned (.tuple #[])/\(∃o',EmW w' o' rb lv s'/\Step I17 w o w' o')/\Grw s s' n
theorem to_ok {x:Wo}{n:Nat}(h:x.ok)(hn:n<=268435455):(x.to n).ok:=by
 obtain⟨h1,h2,h3⟩:=h;unfold Wo.to;split
 ·exact⟨h1,h2,hn⟩
 ·exact⟨h1,hn,h3⟩
theorem modify_at {l:List Wo}{i:Nat}(h:i<l.length)(f:Wo->Wo):l.modify i f=l.set i (f (l[i])):=by
 apply List.ext_getElem?;intro j;rw[List.getElem?_modify,List.getElem?_set];by_cases e:i=j
 ·subst e;simp[h]
 ·simp[e]
theorem land_d (i:Nat)(u:FrameMode)(w:World)(o:Nat->Nat)(rb:Nat)(lv:Value)(ls:List Int)(s:Em)(hi:i<s.ws.length)(hm:s.mes<=100000000)(X:EmX w o lv ls)(h:EmW w o rb lv s) :
  CallsD Tryz.prog 126 #[.pointer (some ⟨rb,0,none⟩),.int .i64 (i:Nat)] u w fun e u' w'=>u'=u/\PosE w o rb lv (s.land i) (.tuple #[]) e w':=by
 have h':=h;obtain⟨h1,h2,h3,vw,vc,vn,vk,mc,mn,q0,q1,q2,q3,q4,q5,q6⟩:=h;obtain⟨⟨c0,c1,c2,c3,c4,c5,c6,c7⟩,cf⟩:=cells8 q0.1;obtain⟨g,cap,rfl,og,-,-,hgl,hc,hf⟩:=q1.pos (by omega);have hx:=h1 s.ws[i] (List.getElem_mem hi);have ci:w.cell? ⟨g,i,none⟩=some (.int .u64 (encW s.ws[i])):=by
  rw[hc i (by omega)];simp[woV,hi]
 have bd:=encW_bd hx;have pt:=encW_parts hx;have HP:=parts_any (encW s.ws[i]) w X.tab bd.1 bd.2;rw[pt.1,pt.2.1,pt.2.2] at HP;have hl:s.ws.length<=100000000:=by unfold Em.mes at hm;omega
 have ho:=to_ok hx (n:=s.ws.length) (by omega);have HS:Hid (∀ w',Below w.heap.size w w'->EmW (w'.setCell ⟨g,i,none⟩ (.int .u64 (encW (s.ws[i].to s.ws.length)))).drew o rb lv (s.land i)/\Step I17 w o (w'.setCell ⟨g,i,none⟩ (.int .u64 (encW (s.ws[i].to s.ws.length)))).drew o):=fun w' B=>by
  have x0:=Step.ofBelow (I:=fun _=>False) o B;have r1:=((q1.step x0 id).store i (.int .u64 (encW (s.ws[i].to s.ws.length)))).step ((Step.refl (fun _=>False) _ o).drew) id;have x1:Step (fun k=>k=2) w o (w'.setCell ⟨g,i,none⟩ (.int .u64 (encW (s.ws[i].to s.ws.length)))).drew o:=((Step.ofBelow o B).setCell ⟨g,i,none⟩ _ og).drew;have e:(s.land i).ws=s.ws.set i (s.ws[i].to s.ws.length):=modify_at hi _;refine⟨⟨fun x hx2=>?_,h2,h3,_,vc,vn,vk,mc,mn,q0.step x1 (by decide),?_,q2.step x1 (by decide),q3.step x1 (by decide),q4.step x1 (by decide),q5.step x1 (by decide),q6.step x1 (by decide)⟩,x1.mono (I17_of (by decide))⟩
  ·rw[e] at hx2;rcases List.mem_or_eq_of_mem_set hx2 with hx2|hx2
   ·exact h1 x hx2
   ·rw[hx2];exact ho
  ·have e2:woV (s.land i).ws=(woV s.ws).set i (.int .u64 (encW (s.ws[i].to s.ws.length))):=by rw[e];simp[woV]
   have e3:(s.land i).ws.length=s.ws.length:=by rw[e];simp
   rw[e2,e3];exact r1
 have HW:∀ (a b:Nat) (wx:World),Tab wx->a<=268435455->b<=268435455->Calls Tryz.prog 86 #[.int .i64 (s.ws[i].op:Nat),.int .i64 (a:Nat),.int .i64 (b:Nat)] wx fun e w'=>e=.returned (.tuple #[.int .u64 (encW ⟨s.ws[i].op,a,b⟩),.int .i64 0])/\w'=wx:=fun a b wx T ha hb=>word_yes (s.ws[i].op:Int) (a:Int) (b:Int) wx T (by omega) (by have:=hx.1;omega) (by omega) (by omega) (by omega) (by omega);have HN:∀ w',Below w.heap.size w w'->Calls Tryz.prog 189 #[.pointer (some ⟨rb,0,none⟩)] w' fun e w''=>e=.returned (.int .i64 (s.ws.length:Nat))/\w''=w':=fun w' B=>next_c w' o rb lv s (h'.below B);have hiI:(i:Int)<(s.ws.length:Int):=by omega
 have hfx:Hid (∀ w',Below w.heap.size w w'->w'.cell? ⟨rb,0,none⟩=some (.slice (some ⟨g,0,none⟩) s.ws.length cap)/\w'.cell? ⟨g,i,none⟩=some (.int .u64 (encW s.ws[i]))/\w'.frozen? ⟨g,i,none⟩=false/\Tab w'):=fun w' B=>by
  refine⟨(B.cell (p:=⟨rb,0,none⟩) q0.lt).trans c0,(B.cell (p:=⟨g,i,none⟩) hgl).trans ci,?_,(X.below B).tab⟩;have e:=B.block g hgl
  have:=hf i
  unfold World.frozen? at this ⊢;rw[e];exact this
 have htn:∀ x:Wo,x.to s.ws.length=if x.op=17 then ⟨x.op,x.a,s.ws.length⟩ else ⟨x.op,s.ws.length,x.b⟩:=fun x=>rfl;rw[htn] at HS;clear htn ho X q0 q1 q2 q3 q4 q5 q6 h' c1 c2 c3 c4 c5 c6 c7 cf hc hf pt bd h1 h2 h3 hm;obtain⟨hx1,hx2,hx3⟩:=hx;generalize hxx:s.ws[i]=x at *;clear hxx;obtain⟨op,a,b⟩:=x;simp only at HP HW HS hx1 hx2 hx3
 go_enter_d Tryz.func126,Tryz.ntmps126
 go_upto_region 1 with (first|(go_at_call 146;refine HP.mono ?_;rintro e w1 ⟨rfl,B1⟩))
 have HN1:=HN w1 B1;obtain⟨d0,d1,d2,d3⟩:=hfx.out w1 B1;obtain⟨e0,e1,e2,e3⟩:=hfx.out w1.drew B1.drew;by_cases hop:op=17
 ·subst hop;rw[if_pos rfl] at HS;have HZ:=Lib.hid (HS.out w1 B1);have HW1:=HW a s.ws.length w1.drew e3 hx2 (by omega);generalize encW ⟨17,a,s.ws.length⟩=ev at *;clear HS HP HN hfx HW;go_upto_region 4 with (first|(go_at_call 189;refine HN1.mono ?_;rintro e w2 ⟨rfl,hww⟩;subst hww))
  go_region_with (first|(go_at_call 86;refine HW1.mono ?_;rintro e w3 ⟨rfl,hww⟩;subst hww))
  all_goals
   go_end0
   exact⟨rfl,o,HZ.out⟩
 ·rw[if_neg hop] at HS;have HZ:=Lib.hid (HS.out w1 B1);have HW1:=HW s.ws.length b w1.drew e3 (by omega) hx3;have hopI:¬(op:Int)=17:=by omega
  generalize encW ⟨op,s.ws.length,b⟩=ev at *;clear HS HP HN hfx HW hop;go_upto_region 4 with (first|(go_at_call 189;refine HN1.mono ?_;rintro e w2 ⟨rfl,hww⟩;subst hww))
  go_region_with (first|(go_at_call 86;refine HW1.mono ?_;rintro e w3 ⟨rfl,hww⟩;subst hww))
  all_goals
   go_end0
   exact⟨rfl,o,HZ.out⟩
def Does (rb:Nat)(lv:Value)(ls:List Int)(K:World->(Nat->Nat)->Prop)(F:FuncId)(c:Array Value)(t:Em->Em)(n:Nat):Prop :=
 ∀ w o s,EmX w o lv ls->EmW w o rb lv s->K w o->s.mes+n<=100000000->s.dp<=1000000001->s.ks.length=ls.length->Calls Tryz.prog F c w (PosQ w o rb lv s (t s) n)
abbrev Keeps (K:World->(Nat->Nat)->Prop):Prop:=∀ {w o w' o'},K w o->Step I17 w o w' o'->K w' o'
abbrev Ent (F:FuncId):Prop:=∀ (args:Array Value) (w:World),(callFunc F args).run Tryz.prog w=.ok (.enter F args) w
theorem firstWay_c (op:Nat)(F:FuncId)(c:Array Value)(t:Em->Em)(n:Nat)(K:World->(Nat->Nat)->Prop)(hK:Keeps K)(HE:Ent F)(w:World)(o:Nat->Nat)(rb:Nat)(lv:Value)(ls:List Int)(H:Does rb lv ls K F c t n)(s:Em)(hop:op<=255)(hm:s.mes+n+2<=100000000)(hd:s.dp<=1000000001)(hks:s.ks.length=ls.length)(X:EmX w o lv ls)(h:EmW w o rb lv s)(k:K w o) :
  Calls Tryz.prog 127 #[.pointer (some ⟨rb,0,none⟩),.int .i64 (op:Nat),.func (.func F) #[] c] w fun e w'=>e=.returned (.int .i64 ((t (s.lay op 0 0)).ws.length:Nat))/\(∃o',EmW w' o' rb lv (((t (s.lay op 0 0)).lay 13 0 0).land s.ws.length)/\Step I17 w o w' o')/\Grw s (((t (s.lay op 0 0)).lay 13 0 0).land s.ws.length) (n+2)/\Grw (s.lay op 0 0) (t (s.lay op 0 0)) n:=by
 have HL:=lay_c op 0 0 w o rb lv ls s hop (by omega) (by omega) (by omega) X h;have g1:=gr_lay s op 0 0
 go_enter_defers Tryz.func127,Tryz.ntmps127
 go_upto_region 2 with (first|(go_at_call 41;refine HL.mono ?_;rintro e w1 ⟨rfl,o1,E1,S1⟩))
 have X1:=X.step S1 (by decide);have HC:=H w1 o1 (s.lay op 0 0) X1 E1 (hK k S1) (by have:=g1.mes;omega) (g1.dp hd) (g1.ks.trans hks);clear HL;go_wp2_with fail;refine HC.mono ?_;rintro e w2 ⟨rfl,⟨o2,E2,S2⟩,g2⟩;have hw1:(s.lay op 0 0).ws.length=s.ws.length+1:=by simp[Em.lay]
 have g3:=gr_lay (t (s.lay op 0 0)) 13 0 0;have X2:=X1.step S2 (by decide);have HL2:=lay_c 13 0 0 w2 o2 rb lv ls (t (s.lay op 0 0)) (by omega) (by omega) (by omega) (by have:=g1.mes;have:=g2.mes;omega) X2 E2;clear HC HE;obtain⟨s2,hs2⟩:∃s2,s2=t (s.lay op 0 0):=⟨_,rfl⟩
 rw[<-hs2] at E2 g2 g3 HL2;have HS2:=Lib.hid hs2;clear hs2;go_wp2_with fail;refine HL2.mono ?_;rintro e w3 ⟨rfl,o3,E3,S3⟩;have X3:=X2.step S3 (by decide);have hlt:s.ws.length<(s2.lay 13 0 0).ws.length:=by have:=g2.ws;have:=g3.ws;omega
 have HD:=land_d s.ws.length .returning w3 o3 rb lv ls (s2.lay 13 0 0) hlt (by have:=g1.mes;have:=g2.mes;have:=g3.mes;omega) X3 E3;have HF:Hid (∀ w4 o4,EmW w4 o4 rb lv ((s2.lay 13 0 0).land s.ws.length)->Step I17 w3 o3 w4 o4->(∃o',EmW w4 o' rb lv ((s2.lay 13 0 0).land s.ws.length)/\Step I17 w o w4 o')/\Grw s ((s2.lay 13 0 0).land s.ws.length) (n+2)/\Grw (s.lay op 0 0) s2 n):=fun w4 o4 E4 S4 =>
  ⟨⟨o4,E4,((S1.trans S2).trans S3).trans S4⟩,(((g1.trans g2).trans g3).trans (gr_land _ _)).le (by omega),g2⟩
 clear HL2;go_wp2;refine leaves_cons (f:=126) (args:=#[.pointer (some ⟨rb,0,none⟩),.int .i64 (s.ws.length:Nat)]) (by simp) (by simp[go_sem]) ?_;refine HD.mono ?_;rintro e u' w4 ⟨rfl,rfl,o4,E4,S4⟩;exact⟨_,results_tmp rfl _ _ _,by rw[<-HS2.out];rfl,by rw[<-HS2.out];exact HF.out w4 o4 E4 S4⟩
theorem fork_c (op:Nat)(F1 F2:FuncId)(c1 c2:Array Value)(t1 t2:Em->Em)(n1 n2:Nat)(K:World->(Nat->Nat)->Prop)(hK:Keeps K)(HE1:Ent F1)(HE2:Ent F2)(w:World)(o:Nat->Nat)(rb:Nat)(lv:Value)(ls:List Int)(H1:Does rb lv ls K F1 c1 t1 n1)(H2:Does rb lv ls K F2 c2 t2 n2)(s:Em)(hop:op<=255)(hm:s.mes+(n1+n2+2)<=100000000)(hd:s.dp<=1000000001)(hks:s.ks.length=ls.length)(X:EmX w o lv ls)(h:EmW w o rb lv s)(k:K w o) :
  Calls Tryz.prog 79 #[.pointer (some ⟨rb,0,none⟩),.int .i64 (op:Nat),.func (.func F1) #[] c1,.func (.func F2) #[] c2] w (PosQ w o rb lv s (s.fork op t1 t2) (n1+n2+2)):=by
 have HW:=firstWay_c op F1 c1 t1 n1 K hK HE1 w o rb lv ls H1 s hop (by omega) hd hks X h k;have hfk:Hid (s.fork op t1 t2=(t2 (((t1 (s.lay op 0 0)).lay 13 0 0).land s.ws.length)).land (t1 (s.lay op 0 0)).ws.length):=rfl;have hw1:(s.lay op 0 0).ws.length=s.ws.length+1:=by simp[Em.lay]
 have hw2:((((t1 (s.lay op 0 0)).lay 13 0 0).land s.ws.length)).ws.length=(t1 (s.lay op 0 0)).ws.length+1:=by simp[Em.lay,Em.land]
 go_enter_defers Tryz.func79,Tryz.ntmps79
 go_upto_region 1 with (first|(go_at_call 127;refine HW.mono ?_;rintro e w1 ⟨rfl,⟨o1,E1,S1⟩,g1,g1b⟩))
 clear HW;generalize ((t1 (s.lay op 0 0)).lay 13 0 0).land s.ws.length=s1 at *;generalize (t1 (s.lay op 0 0)).ws.length=j at *;have X1:=X.step S1 (by decide);have HC:=H2 w1 o1 s1 X1 E1 (hK k S1) (by have:=g1.mes;omega) (g1.dp hd) (g1.ks.trans hks);go_wp2_with fail;refine HC.mono ?_;rintro e w2 ⟨rfl,⟨o2,E2,S2⟩,g2⟩;have X2:=X1.step S2 (by decide);clear HC HE2;generalize t2 s1=s2 at *;have HD:=land_d j .returning w2 o2 rb lv ls s2 (by have:=g2.ws;omega) (by have:=g1.mes;have:=g2.mes;omega) X2 E2;have HF:Hid (∀ w4 o4,EmW w4 o4 rb lv (s2.land j)->Step I17 w2 o2 w4 o4->(∃o',EmW w4 o' rb lv (s.fork op t1 t2)/\Step I17 w o w4 o')/\Grw s (s.fork op t1 t2) (n1+n2+2)):=fun w4 o4 E4 S4=>by
  rw[hfk.out];exact⟨⟨o4,E4,(S1.trans S2).trans S4⟩,((g1.trans g2).trans (gr_land _ _)).le (by omega)⟩
 go_wp2;refine leaves_cons (f:=126) (args:=#[.pointer (some ⟨rb,0,none⟩),.int .i64 (j:Nat)]) (by simp) (by simp[go_sem]) ?_;refine HD.mono ?_;rintro e u' w4 ⟨rfl,rfl,o4,E4,S4⟩;exact⟨_,results_none rfl _ _ _,rfl,HF.out w4 o4 E4 S4⟩
theorem callKind_c (n:Int)(w:World):Calls Tryz.prog 122 #[.int .i64 n] w fun e w'=>e=.returned (.int .i64 (cakN n))/\w'=w:=by
 by_cases h1:n=1
 ·subst h1;go_enter Tryz.func122,Tryz.ntmps122;go_wp2;go_ret;exact⟨rfl,rfl⟩
 ·by_cases h2:n=2
  ·subst h2;go_enter Tryz.func122,Tryz.ntmps122;go_wp2;go_ret;exact⟨rfl,rfl⟩
  ·by_cases h3:n=10
   ·subst h3;go_enter Tryz.func122,Tryz.ntmps122;go_wp2;go_ret;exact⟨rfl,rfl⟩
   ·have e:cakN n=1:=by simp[cakN,h1,h2,h3]
    rw[e];go_enter Tryz.func122,Tryz.ntmps122;go_wp2;go_ret;exact⟨rfl,rfl⟩
theorem quantKind_c (n:Int)(w:World):Calls Tryz.prog 123 #[.int .i64 n] w fun e w'=>e=.returned (.int .i64 (qukN n))/\w'=w:=by
 by_cases h1:n=1
 ·subst h1;go_enter Tryz.func123,Tryz.ntmps123;go_wp2;go_ret;exact⟨rfl,rfl⟩
 ·by_cases h2:n=2
  ·subst h2;go_enter Tryz.func123,Tryz.ntmps123;go_wp2;go_ret;exact⟨rfl,rfl⟩
  ·have e:qukN n=1:=by simp[qukN,h1,h2]
   rw[e];go_enter Tryz.func123,Tryz.ntmps123;go_wp2;go_ret;exact⟨rfl,rfl⟩
theorem len_one {f:Fs}(h:f.len=1):∃x,f=Fs.ex x .nil:=by
 cases f using Fs.on with
 | nil=>simp[Fs.len] at h
 | cons k n nm a ks r =>
  cases r using Fs.on with
  | nil=>exact⟨⟨k,n,nm,a,ks⟩,rfl⟩
  | cons=>simp[Fs.len] at h
theorem len_two {f:Fs}(h:f.len=2):∃x y,f=Fs.ex x (Fs.ex y .nil):=by
 cases f using Fs.on with
 | nil=>simp[Fs.len] at h
 | cons k n nm a ks r =>
  obtain⟨y,rfl⟩:=len_one (f:=r) (by simp[Fs.len] at h;exact h);exact⟨⟨k,n,nm,a,ks⟩,y,rfl⟩
theorem len_three {f:Fs}(h:f.len=3):∃x y z,f=Fs.ex x (Fs.ex y (Fs.ex z .nil)):=by
 cases f using Fs.on with
 | nil=>simp[Fs.len] at h
 | cons k n nm a ks r =>
  obtain⟨y,z,rfl⟩:=len_two (f:=r) (by simp[Fs.len] at h;exact h);exact⟨⟨k,n,nm,a,ks⟩,y,z,rfl⟩
theorem doc_len {k n:Int}{nm:List UInt8}{len:Nat}(h:docF k n nm len=true):(k=19->len=3)/\(k=26->len=1)/\(8<=k->k<=18->len=2)/\(k=21->len=2/\1<=n/\n<=6)/\(k=20->1<=n/\n<=10)/\(k=5\/k=3->0<=n)/\(k=22\/k=23->len=0)/\(k=1\/k=2\/k=3\/k=5->len=0):=by
 unfold docF at h;refine⟨fun e=>?_,fun e=>?_,fun e1 e2=>?_,fun e=>?_,fun e=>?_,fun e=>?_,fun e=>?_,fun e=>?_⟩
 ·subst e;simp at h;omega
 ·subst e;simp at h;omega
 ·rw[if_neg (by omega),if_neg (by omega),if_neg (by omega),if_neg (by omega),if_pos (by omega)] at h;simp at h;omega
 ·subst e;simp at h;omega
 ·subst e;simp at h;omega
 ·rcases e with rfl|rfl<;>simp at h<;>omega
 ·rcases e with rfl|rfl<;>simp at h<;>omega
 ·rcases e with rfl|rfl|rfl|rfl<;>simp at h<;>omega
theorem ekid0 {P:Nat->Prop}{w:World}{y:Ex}{r:Fs}{ao:Option Addr}(h:SlN w P (Fs.ex y r) ao):∃b off ak ck,ao=some ⟨b,off,none⟩/\w.cell? ⟨b,off,none⟩=some (.int .i64 y.k)/\w.cell? ⟨b,off+1,none⟩=some (.int .i64 y.n)/\w.cell? ⟨b,off+2,none⟩=some (stv y.nm)/\w.cell? ⟨b,off+3,none⟩=some (.slice ak y.kids.len ck)/\SlN w P y.kids ak:=by
 obtain⟨b,off,ak,ck,h1,h2,h3,h4,h5,h6⟩:=SlN.kidP (x:=.nil) (r:=r) (y:=y) h 0 rfl;exact⟨b,off,ak,ck,h1,h2,h3,h4,h5,h6⟩
theorem ekid1 {P:Nat->Prop}{w:World}{x y:Ex}{r:Fs}{ao:Option Addr}(h:SlN w P (Fs.ex x (Fs.ex y r)) ao):∃b off ak ck,ao=some ⟨b,off,none⟩/\w.cell? ⟨b,off+4,none⟩=some (.int .i64 y.k)/\w.cell? ⟨b,off+5,none⟩=some (.int .i64 y.n)/\w.cell? ⟨b,off+6,none⟩=some (stv y.nm)/\w.cell? ⟨b,off+7,none⟩=some (.slice ak y.kids.len ck)/\SlN w P y.kids ak:=by
 obtain⟨b,off,ak,ck,h1,h2,h3,h4,h5,h6⟩:=SlN.kidP (x:=one x) (r:=r) (y:=y) h 1 rfl;exact⟨b,off,ak,ck,h1,h2,h3,h4,h5,h6⟩
theorem cells4e {w:World}{b:Nat}{x0 x1 x2 x3:Value}{t:TypeId}(h:w.heap[b]?=some (.cells #[x0,x1,x2,x3] t)):(w.cell? ⟨b,0,none⟩=some x0/\w.cell? ⟨b,1,none⟩=some x1/\w.cell? ⟨b,2,none⟩=some x2/\w.cell? ⟨b,3,none⟩=some x3)/\∀ j,w.frozen? ⟨b,j,none⟩=false:=by
 refine⟨⟨?_,?_,?_,?_⟩,fun j=>?_⟩<;>simp[World.cell?,World.frozen?,h]
theorem okF_ex {nc:Nat}{x:Ex}{r:Fs}(h:okF nc (Fs.ex x r)):okE nc x/\okF nc r:=⟨⟨h.1,h.2.1⟩,h.2.2⟩
theorem esize_ex (x:Ex)(r:Fs):(Fs.ex x r).size=x.kids.size+r.size+1:=rfl
theorem kdF_ex (x:Ex)(r:Fs):kdF (Fs.ex x r)=kdE x::kdF r:=rfl
theorem kindOf_c (nc N:Nat):∀ (e:Ex) (ao:Option Addr) (cap:Nat) (w:World),e.kids.size<N->okE nc e->SnA w e.kids ao ->
  Calls Tryz.prog 75 #[exN e ao cap] w fun r w'=>r=.returned (.int .i64 (kdE e))/\Below w.heap.size w w':=by
 induction N with
 | zero=>intro e ao cap w hs;omega
 | succ N ih =>
  intro e ao cap w hs ho S;obtain⟨k,n,nm,a,ks⟩:=e;obtain⟨⟨hd,-,-⟩,hk⟩:=ho;simp only at hs hd hk S;rw[exN_out];simp only;have hdl:=doc_len hd;by_cases h19:k=19
  ·subst h19;have hlen:ks.len=3:=hdl.1 rfl;rw[hlen];obtain⟨x,y,z,hks⟩:=len_three hlen;have S':=S;rw[hks] at S' hk hs;obtain⟨w1,hw1⟩:∃w1,w1=w.alloc (.cells #[.int .i64 19,.int .i64 n,stv nm,.slice ao 3 cap] 34):=⟨_,rfl⟩
   obtain⟨g,hg⟩:∃g,g=w.heap.size:=⟨_,rfl⟩
   have B1:Below w.heap.size w w1:=by rw[hw1];exact b1 _ _
   have C1:w1.heap[g]?=some (.cells #[.int .i64 19,.int .i64 n,stv nm,.slice ao 3 cap] 34):=by rw[hw1,hg];exact heap_alloc_new _ _
   obtain⟨⟨c0,c1,c2,c3⟩,-⟩:=cells4e C1;have HG:=Lib.hid hg;have HB:=Lib.hid B1;obtain⟨b,off,ak,ck,rfl,x0,x1,x2,x3,Sy⟩:=ekid1 (S'.below B1);have hv:kdE ⟨19,n,nm,a,ks⟩=kdE y:=by simp only[kdE,hks,kdF_ex];simp[kdN]
   rw[hv];have HC:=ih y ak ck w1 (by simp only[esize_ex] at hs;omega) (okF_ex (okF_ex hk).2).1 Sy;rw[exN_out] at HC;clear B1 S S' hks hk hs hg C1 hv hdl hd;go_enter Tryz.func75,Tryz.ntmps75;go_upto_region 1 with fail;rw[<-hw1,<-HG.out];clear hw1;go_wp2_with fail;refine HC.mono ?_;rintro r w2 ⟨rfl,B2⟩;go_wp2;go_ret;exact⟨rfl,HB.out.trans (B2.mono HB.out.size)⟩
  by_cases h26:k=26
  ·subst h26;have hlen:ks.len=1:=hdl.2.1 rfl;rw[hlen];obtain⟨x,hks⟩:=len_one hlen;have S':=S;rw[hks] at S' hk hs;obtain⟨w1,hw1⟩:∃w1,w1=w.alloc (.cells #[.int .i64 26,.int .i64 n,stv nm,.slice ao 1 cap] 34):=⟨_,rfl⟩
   obtain⟨g,hg⟩:∃g,g=w.heap.size:=⟨_,rfl⟩
   have B1:Below w.heap.size w w1:=by rw[hw1];exact b1 _ _
   have C1:w1.heap[g]?=some (.cells #[.int .i64 26,.int .i64 n,stv nm,.slice ao 1 cap] 34):=by rw[hw1,hg];exact heap_alloc_new _ _
   obtain⟨⟨c0,c1,c2,c3⟩,-⟩:=cells4e C1;have HG:=Lib.hid hg;have HB:=Lib.hid B1;obtain⟨b,off,ak,ck,rfl,x0,x1,x2,x3,Sy⟩:=ekid0 (S'.below B1);have hv:kdE ⟨26,n,nm,a,ks⟩=kdE x:=by simp only[kdE,hks,kdF_ex];simp[kdN]
   rw[hv];have HC:=ih x ak ck w1 (by simp only[esize_ex] at hs;omega) (okF_ex hk).1 Sy;rw[exN_out] at HC;clear B1 S S' hks hk hs hg C1 hv hdl hd;go_enter Tryz.func75,Tryz.ntmps75;go_upto_region 1 with fail;rw[<-hw1,<-HG.out];clear hw1;go_wp2_with fail;refine HC.mono ?_;rintro r w2 ⟨rfl,B2⟩;go_wp2;go_ret;exact⟨rfl,HB.out.trans (B2.mono HB.out.size)⟩
  by_cases h20:k=20
  ·subst h20;have hv:kdE ⟨20,n,nm,a,ks⟩=cakN n:=by simp[kdE,kdN]
   rw[hv];obtain⟨w1,hw1⟩:∃w1,w1=w.alloc (.cells #[.int .i64 20,.int .i64 n,stv nm,.slice ao ks.len cap] 34):=⟨_,rfl⟩
   obtain⟨g,hg⟩:∃g,g=w.heap.size:=⟨_,rfl⟩
   have B1:Below w.heap.size w w1:=by rw[hw1];exact b1 _ _
   have C1:w1.heap[g]?=some (.cells #[.int .i64 20,.int .i64 n,stv nm,.slice ao ks.len cap] 34):=by rw[hw1,hg];exact heap_alloc_new _ _
   obtain⟨⟨c0,c1,c2,c3⟩,-⟩:=cells4e C1;have HG:=Lib.hid hg;have HB:=Lib.hid B1;have HC:=callKind_c n w1;clear B1 S hk hs hg C1 hv hdl hd;go_enter Tryz.func75,Tryz.ntmps75;go_upto_region 1 with fail;rw[<-hw1,<-HG.out];clear hw1;go_wp2_with fail;refine HC.mono ?_;rintro r w2 ⟨rfl,hww⟩;subst hww;go_wp2;go_ret;exact⟨rfl,HB.out⟩
  by_cases h21:k=21
  ·subst h21;have hv:kdE ⟨21,n,nm,a,ks⟩=qukN n:=by simp[kdE,kdN]
   rw[hv];obtain⟨w1,hw1⟩:∃w1,w1=w.alloc (.cells #[.int .i64 21,.int .i64 n,stv nm,.slice ao ks.len cap] 34):=⟨_,rfl⟩
   obtain⟨g,hg⟩:∃g,g=w.heap.size:=⟨_,rfl⟩
   have B1:Below w.heap.size w w1:=by rw[hw1];exact b1 _ _
   have C1:w1.heap[g]?=some (.cells #[.int .i64 21,.int .i64 n,stv nm,.slice ao ks.len cap] 34):=by rw[hw1,hg];exact heap_alloc_new _ _
   obtain⟨⟨c0,c1,c2,c3⟩,-⟩:=cells4e C1;have HG:=Lib.hid hg;have HB:=Lib.hid B1;have HC:=quantKind_c n w1;clear B1 S hk hs hg C1 hv hdl hd;go_enter Tryz.func75,Tryz.ntmps75;go_upto_region 1 with fail;rw[<-hw1,<-HG.out];clear hw1;go_wp2_with fail;refine HC.mono ?_;rintro r w2 ⟨rfl,hww⟩;subst hww;go_wp2;go_ret;exact⟨rfl,HB.out⟩
  have hc:k=1\/k=2\/k=3\/k=5\/k=6\/k=7\/k=8\/k=9\/k=10\/k=11\/k=12\/k=13\/k=14\/k=15\/k=16\/k=17\/k=18\/k=22\/k=23\/k=24\/k=25:=by
   have:=docF_kind hd
   omega
  obtain⟨w1,hw1⟩:∃w1,w1=w.alloc (.cells #[.int .i64 k,.int .i64 n,stv nm,.slice ao ks.len cap] 34):=⟨_,rfl⟩
  obtain⟨g,hg⟩:∃g,g=w.heap.size:=⟨_,rfl⟩
  have B1:Below w.heap.size w w1:=by rw[hw1];exact b1 _ _
  have C1:w1.heap[g]?=some (.cells #[.int .i64 k,.int .i64 n,stv nm,.slice ao ks.len cap] 34):=by rw[hw1,hg];exact heap_alloc_new _ _
  obtain⟨⟨c0,c1,c2,c3⟩,-⟩:=cells4e C1;have HG:=Lib.hid hg;have HB:=Lib.hid B1;clear B1 S hk hs hg C1 hd hdl ih h19 h26 h20 h21;rcases hc with rfl|rfl|rfl|rfl|rfl|rfl|rfl|rfl|rfl|rfl|rfl|rfl|rfl|rfl|rfl|rfl|rfl|rfl|rfl|rfl|rfl
  all_goals
   go_enter Tryz.func75,Tryz.ntmps75;go_upto_region 1 with fail;rw[<-hw1,<-HG.out];clear hw1;go_wp2;go_ret;exact⟨rfl,HB.out⟩
theorem kdF_len:∀ (f:Fs),(kdF f).length=f.len
 | ⟨none⟩=>rfl
 | ⟨some ⟨k,n,nm,a,ks,r⟩⟩=>by simp only[kdF,Fs.len,List.length_cons];rw[kdF_len r]
theorem kdF_bd {nc:Nat}:∀ {f:Fs},okF nc f->∀ v ∈ kdF f,1<=v/\v<=3
 | ⟨none⟩,_=>fun v hv=>by simp[kdF] at hv
 | ⟨some ⟨k,n,nm,a,ks,r⟩⟩,h=>fun v hv=>by
  have h1:=kdF_bd h.2.1;have hl:=kdF_len ks;have hd:=doc_len h.1.1;simp only[kdF,List.mem_cons] at hv;rcases hv with rfl|hv
  ·unfold kdN;split
   ·omega
   ·split
    ·omega
    ·split
     ·rename_i e
      have:=hd.1 e
      have hlt:1<(kdF ks).length:=by omega
      rw[List.getD_eq_getElem?_getD,List.getElem?_eq_getElem hlt];exact h1 _ (List.getElem_mem hlt)
     ·split
      ·rename_i e
       have:=hd.2.1 e
       have hlt:0<(kdF ks).length:=by omega
       rw[List.getD_eq_getElem?_getD,List.getElem?_eq_getElem hlt];exact h1 _ (List.getElem_mem hlt)
      ·split
       ·unfold cakN;split;omega;split<;>omega
       ·split
        ·unfold qukN;split<;>omega
        ·omega
  ·exact kdF_bd h.2.2 v hv
theorem kdE_bd {nc:Nat}{e:Ex}(h:okE nc e):1<=kdE e/\kdE e<=3:=kdF_bd (f:=one e) (show okF nc (one e) from ⟨h.1,h.2,trivial⟩) (kdE e) (by simp[kdF,one,kdE])
theorem gr_kn (s:Em)(x:List UInt8):Grw s (s.kn x) 1:=⟨s.mes_kn x,Nat.le_refl _,rfl,id⟩
def opK (k:Int):Prop:=k=6\/k=7\/k=8\/k=9\/k=10\/k=11\/k=12\/k=13\/k=14\/k=15\/k=16\/k=20\/k=22\/k=23\/k=24\/k=25
theorem operation_c (nc:Nat)(e:Ex)(ao:Option Addr)(cap:Nat)(w:World)(o:Nat->Nat)(rb:Nat)(lv:Value)(ls:List Int)(s:Em)(hk:opK e.k)(ho:okE nc e)(S:SnO w o e.kids ao)(hlen:e.kids.len<=268435455)(hnm:e.nm.length<=maxLen)(hm:s.mes+3<=100000000)(X:EmX w o lv ls)(h:EmW w o rb lv s) :
  Calls Tryz.prog 85 #[.pointer (some ⟨rb,0,none⟩),exN e ao cap] w (PosQ w o rb lv s (opr e.k e.n e.nm (kdF e.kids) s) 3):=by
 obtain⟨k,n,nm,a,ks⟩:=e;obtain⟨⟨hd,-,-⟩,hok⟩:=ho;simp only at hd hok hk S hlen hnm;rw[exN_out];simp only;have hdl:=doc_len hd;by_cases h6:k=6
 ·subst h6;have hv:opr 6 n nm (kdF ks) s=s.lay 4 0 0:=by simp[opr,barN]
  rw[hv];obtain⟨w1,hw1⟩:∃w1,w1=w.alloc (.cells #[.int .i64 6,.int .i64 n,stv nm,.slice ao ks.len cap] 34):=⟨_,rfl⟩
  obtain⟨g,hg⟩:∃g,g=w.heap.size:=⟨_,rfl⟩
  have s0:∀ {I:Nat->Prop},Step I w o w1 (newLab w o 0):=fun {I}=>by rw[hw1];exact boxStep I w o _
  have C1:w1.heap[g]?=some (.cells #[.int .i64 6,.int .i64 n,stv nm,.slice ao ks.len cap] 34):=by rw[hw1,hg];exact heap_alloc_new _ _
  have C1o:newLab w o 0 g=0:=by rw[hg];exact newLab_new (Nat.le_refl _)
  have E1:=h.step (s0 (I:=fun _=>False)) noF;have X1:=X.step (s0 (I:=fun _=>False)) id;have S1:=S.stepO (s0 (I:=fun _=>False)) id;have S0:=s0 (I:=I17);generalize newLab w o 0=o1 at *;obtain⟨⟨c0,c1,c2,c3⟩,-⟩:=cells4e C1;have HG:=Lib.hid hg;clear s0 hg h X S hdl hd;have HL:=lay_c 4 0 0 w1 o1 rb lv ls s (by omega) (by omega) (by omega) (by omega) X1 E1;have hbr:=X1.bar 6 (by omega);simp only[List.getD_cons_succ,List.getD_cons_zero] at hbr;clear hv;go_enter Tryz.func85,Tryz.ntmps85;go_upto_region 1 with fail;rw[<-hw1,<-HG.out];clear hw1;go_wp2_with (first|(go_at_call 41;refine HL.mono ?_;rintro e w2 ⟨rfl,o2,E2,S2⟩))
  go_end0
  exact⟨rfl,⟨o2,E2,S0.trans S2⟩,(gr_lay s _ _ _).le (by omega)⟩
 by_cases h7:k=7
 ·subst h7;have hv:opr 7 n nm (kdF ks) s=s.lay 5 0 0:=by simp[opr,barN]
  rw[hv];obtain⟨w1,hw1⟩:∃w1,w1=w.alloc (.cells #[.int .i64 7,.int .i64 n,stv nm,.slice ao ks.len cap] 34):=⟨_,rfl⟩
  obtain⟨g,hg⟩:∃g,g=w.heap.size:=⟨_,rfl⟩
  have s0:∀ {I:Nat->Prop},Step I w o w1 (newLab w o 0):=fun {I}=>by rw[hw1];exact boxStep I w o _
  have C1:w1.heap[g]?=some (.cells #[.int .i64 7,.int .i64 n,stv nm,.slice ao ks.len cap] 34):=by rw[hw1,hg];exact heap_alloc_new _ _
  have C1o:newLab w o 0 g=0:=by rw[hg];exact newLab_new (Nat.le_refl _)
  have E1:=h.step (s0 (I:=fun _=>False)) noF;have X1:=X.step (s0 (I:=fun _=>False)) id;have S1:=S.stepO (s0 (I:=fun _=>False)) id;have S0:=s0 (I:=I17);generalize newLab w o 0=o1 at *;obtain⟨⟨c0,c1,c2,c3⟩,-⟩:=cells4e C1;have HG:=Lib.hid hg;clear s0 hg h X S hdl hd;have HL:=lay_c 5 0 0 w1 o1 rb lv ls s (by omega) (by omega) (by omega) (by omega) X1 E1;have hbr:=X1.bar 7 (by omega);simp only[List.getD_cons_succ,List.getD_cons_zero] at hbr;clear hv;go_enter Tryz.func85,Tryz.ntmps85;go_upto_region 1 with fail;rw[<-hw1,<-HG.out];clear hw1;go_wp2_with (first|(go_at_call 41;refine HL.mono ?_;rintro e w2 ⟨rfl,o2,E2,S2⟩))
  go_end0
  exact⟨rfl,⟨o2,E2,S0.trans S2⟩,(gr_lay s _ _ _).le (by omega)⟩
 by_cases h8:k=8
 ·subst h8;have hv:opr 8 n nm (kdF ks) s=s.lay 6 0 0:=by simp[opr,barN]
  rw[hv];obtain⟨w1,hw1⟩:∃w1,w1=w.alloc (.cells #[.int .i64 8,.int .i64 n,stv nm,.slice ao ks.len cap] 34):=⟨_,rfl⟩
  obtain⟨g,hg⟩:∃g,g=w.heap.size:=⟨_,rfl⟩
  have s0:∀ {I:Nat->Prop},Step I w o w1 (newLab w o 0):=fun {I}=>by rw[hw1];exact boxStep I w o _
  have C1:w1.heap[g]?=some (.cells #[.int .i64 8,.int .i64 n,stv nm,.slice ao ks.len cap] 34):=by rw[hw1,hg];exact heap_alloc_new _ _
  have C1o:newLab w o 0 g=0:=by rw[hg];exact newLab_new (Nat.le_refl _)
  have E1:=h.step (s0 (I:=fun _=>False)) noF;have X1:=X.step (s0 (I:=fun _=>False)) id;have S1:=S.stepO (s0 (I:=fun _=>False)) id;have S0:=s0 (I:=I17);generalize newLab w o 0=o1 at *;obtain⟨⟨c0,c1,c2,c3⟩,-⟩:=cells4e C1;have HG:=Lib.hid hg;clear s0 hg h X S hdl hd;have HL:=lay_c 6 0 0 w1 o1 rb lv ls s (by omega) (by omega) (by omega) (by omega) X1 E1;have hbr:=X1.bar 8 (by omega);simp only[List.getD_cons_succ,List.getD_cons_zero] at hbr;clear hv;go_enter Tryz.func85,Tryz.ntmps85;go_upto_region 1 with fail;rw[<-hw1,<-HG.out];clear hw1;go_wp2_with (first|(go_at_call 41;refine HL.mono ?_;rintro e w2 ⟨rfl,o2,E2,S2⟩))
  go_end0
  exact⟨rfl,⟨o2,E2,S0.trans S2⟩,(gr_lay s _ _ _).le (by omega)⟩
 by_cases h9:k=9
 ·subst h9;have hv:opr 9 n nm (kdF ks) s=s.lay 7 0 0:=by simp[opr,barN]
  rw[hv];obtain⟨w1,hw1⟩:∃w1,w1=w.alloc (.cells #[.int .i64 9,.int .i64 n,stv nm,.slice ao ks.len cap] 34):=⟨_,rfl⟩
  obtain⟨g,hg⟩:∃g,g=w.heap.size:=⟨_,rfl⟩
  have s0:∀ {I:Nat->Prop},Step I w o w1 (newLab w o 0):=fun {I}=>by rw[hw1];exact boxStep I w o _
  have C1:w1.heap[g]?=some (.cells #[.int .i64 9,.int .i64 n,stv nm,.slice ao ks.len cap] 34):=by rw[hw1,hg];exact heap_alloc_new _ _
  have C1o:newLab w o 0 g=0:=by rw[hg];exact newLab_new (Nat.le_refl _)
  have E1:=h.step (s0 (I:=fun _=>False)) noF;have X1:=X.step (s0 (I:=fun _=>False)) id;have S1:=S.stepO (s0 (I:=fun _=>False)) id;have S0:=s0 (I:=I17);generalize newLab w o 0=o1 at *;obtain⟨⟨c0,c1,c2,c3⟩,-⟩:=cells4e C1;have HG:=Lib.hid hg;clear s0 hg h X S hdl hd;have HL:=lay_c 7 0 0 w1 o1 rb lv ls s (by omega) (by omega) (by omega) (by omega) X1 E1;have hbr:=X1.bar 9 (by omega);simp only[List.getD_cons_succ,List.getD_cons_zero] at hbr;clear hv;go_enter Tryz.func85,Tryz.ntmps85;go_upto_region 1 with fail;rw[<-hw1,<-HG.out];clear hw1;go_wp2_with (first|(go_at_call 41;refine HL.mono ?_;rintro e w2 ⟨rfl,o2,E2,S2⟩))
  go_end0
  exact⟨rfl,⟨o2,E2,S0.trans S2⟩,(gr_lay s _ _ _).le (by omega)⟩
 by_cases h10:k=10
 ·subst h10;have hv:opr 10 n nm (kdF ks) s=s.lay 8 0 0:=by simp[opr,barN]
  rw[hv];obtain⟨w1,hw1⟩:∃w1,w1=w.alloc (.cells #[.int .i64 10,.int .i64 n,stv nm,.slice ao ks.len cap] 34):=⟨_,rfl⟩
  obtain⟨g,hg⟩:∃g,g=w.heap.size:=⟨_,rfl⟩
  have s0:∀ {I:Nat->Prop},Step I w o w1 (newLab w o 0):=fun {I}=>by rw[hw1];exact boxStep I w o _
  have C1:w1.heap[g]?=some (.cells #[.int .i64 10,.int .i64 n,stv nm,.slice ao ks.len cap] 34):=by rw[hw1,hg];exact heap_alloc_new _ _
  have C1o:newLab w o 0 g=0:=by rw[hg];exact newLab_new (Nat.le_refl _)
  have E1:=h.step (s0 (I:=fun _=>False)) noF;have X1:=X.step (s0 (I:=fun _=>False)) id;have S1:=S.stepO (s0 (I:=fun _=>False)) id;have S0:=s0 (I:=I17);generalize newLab w o 0=o1 at *;obtain⟨⟨c0,c1,c2,c3⟩,-⟩:=cells4e C1;have HG:=Lib.hid hg;clear s0 hg h X S hdl hd;have HL:=lay_c 8 0 0 w1 o1 rb lv ls s (by omega) (by omega) (by omega) (by omega) X1 E1;have hbr:=X1.bar 10 (by omega);simp only[List.getD_cons_succ,List.getD_cons_zero] at hbr;clear hv;go_enter Tryz.func85,Tryz.ntmps85;go_upto_region 1 with fail;rw[<-hw1,<-HG.out];clear hw1;go_wp2_with (first|(go_at_call 41;refine HL.mono ?_;rintro e w2 ⟨rfl,o2,E2,S2⟩))
  go_end0
  exact⟨rfl,⟨o2,E2,S0.trans S2⟩,(gr_lay s _ _ _).le (by omega)⟩
 by_cases h11:k=11
 ·subst h11;have hv:opr 11 n nm (kdF ks) s=s.lay 9 0 0:=by simp[opr,barN]
  rw[hv];obtain⟨w1,hw1⟩:∃w1,w1=w.alloc (.cells #[.int .i64 11,.int .i64 n,stv nm,.slice ao ks.len cap] 34):=⟨_,rfl⟩
  obtain⟨g,hg⟩:∃g,g=w.heap.size:=⟨_,rfl⟩
  have s0:∀ {I:Nat->Prop},Step I w o w1 (newLab w o 0):=fun {I}=>by rw[hw1];exact boxStep I w o _
  have C1:w1.heap[g]?=some (.cells #[.int .i64 11,.int .i64 n,stv nm,.slice ao ks.len cap] 34):=by rw[hw1,hg];exact heap_alloc_new _ _
  have C1o:newLab w o 0 g=0:=by rw[hg];exact newLab_new (Nat.le_refl _)
  have E1:=h.step (s0 (I:=fun _=>False)) noF;have X1:=X.step (s0 (I:=fun _=>False)) id;have S1:=S.stepO (s0 (I:=fun _=>False)) id;have S0:=s0 (I:=I17);generalize newLab w o 0=o1 at *;obtain⟨⟨c0,c1,c2,c3⟩,-⟩:=cells4e C1;have HG:=Lib.hid hg;clear s0 hg h X S hdl hd;have HL:=lay_c 9 0 0 w1 o1 rb lv ls s (by omega) (by omega) (by omega) (by omega) X1 E1;have hbr:=X1.bar 11 (by omega);simp only[List.getD_cons_succ,List.getD_cons_zero] at hbr;clear hv;go_enter Tryz.func85,Tryz.ntmps85;go_upto_region 1 with fail;rw[<-hw1,<-HG.out];clear hw1;go_wp2_with (first|(go_at_call 41;refine HL.mono ?_;rintro e w2 ⟨rfl,o2,E2,S2⟩))
  go_end0
  exact⟨rfl,⟨o2,E2,S0.trans S2⟩,(gr_lay s _ _ _).le (by omega)⟩
 by_cases h12:k=12
 ·subst h12;have hv:opr 12 n nm (kdF ks) s=s.lay 10 0 0:=by simp[opr,barN]
  rw[hv];obtain⟨w1,hw1⟩:∃w1,w1=w.alloc (.cells #[.int .i64 12,.int .i64 n,stv nm,.slice ao ks.len cap] 34):=⟨_,rfl⟩
  obtain⟨g,hg⟩:∃g,g=w.heap.size:=⟨_,rfl⟩
  have s0:∀ {I:Nat->Prop},Step I w o w1 (newLab w o 0):=fun {I}=>by rw[hw1];exact boxStep I w o _
  have C1:w1.heap[g]?=some (.cells #[.int .i64 12,.int .i64 n,stv nm,.slice ao ks.len cap] 34):=by rw[hw1,hg];exact heap_alloc_new _ _
  have C1o:newLab w o 0 g=0:=by rw[hg];exact newLab_new (Nat.le_refl _)
  have E1:=h.step (s0 (I:=fun _=>False)) noF;have X1:=X.step (s0 (I:=fun _=>False)) id;have S1:=S.stepO (s0 (I:=fun _=>False)) id;have S0:=s0 (I:=I17);generalize newLab w o 0=o1 at *;obtain⟨⟨c0,c1,c2,c3⟩,-⟩:=cells4e C1;have HG:=Lib.hid hg;clear s0 hg h X S hdl hd;have HL:=lay_c 10 0 0 w1 o1 rb lv ls s (by omega) (by omega) (by omega) (by omega) X1 E1;have hbr:=X1.bar 12 (by omega);simp only[List.getD_cons_succ,List.getD_cons_zero] at hbr;clear hv;go_enter Tryz.func85,Tryz.ntmps85;go_upto_region 1 with fail;rw[<-hw1,<-HG.out];clear hw1;go_wp2_with (first|(go_at_call 41;refine HL.mono ?_;rintro e w2 ⟨rfl,o2,E2,S2⟩))
  go_end0
  exact⟨rfl,⟨o2,E2,S0.trans S2⟩,(gr_lay s _ _ _).le (by omega)⟩
 by_cases h13:k=13
 ·subst h13;have hl2:ks.len=2:=hdl.2.2.1 (by omega) (by omega);rw[hl2];obtain⟨x,y,hks⟩:=len_two hl2;have hx:okE nc x:=by rw[hks] at hok;exact(okF_ex hok).1
  have hb:=kdE_bd hx;obtain⟨kx,hkx⟩:∃kx:Nat,(kx:Int)=kdE x:=⟨(kdE x).toNat,by omega⟩
  have hv:opr 13 n nm (kdF ks) s=s.lay 11 0 kx:=by rw[hks,kdF_ex];simp[opr,<-hkx]
  rw[hv];rw[hks] at S;obtain⟨w1,hw1⟩:∃w1,w1=w.alloc (.cells #[.int .i64 13,.int .i64 n,stv nm,.slice ao 2 cap] 34):=⟨_,rfl⟩
  obtain⟨g,hg⟩:∃g,g=w.heap.size:=⟨_,rfl⟩
  have s0:∀ {I:Nat->Prop},Step I w o w1 (newLab w o 0):=fun {I}=>by rw[hw1];exact boxStep I w o _
  have C1:w1.heap[g]?=some (.cells #[.int .i64 13,.int .i64 n,stv nm,.slice ao 2 cap] 34):=by rw[hw1,hg];exact heap_alloc_new _ _
  have C1o:newLab w o 0 g=0:=by rw[hg];exact newLab_new (Nat.le_refl _)
  have E1:=h.step (s0 (I:=fun _=>False)) noF;have X1:=X.step (s0 (I:=fun _=>False)) id;have S1:=S.stepO (s0 (I:=fun _=>False)) id;have S0:=s0 (I:=I17);generalize newLab w o 0=o1 at *;obtain⟨⟨c0,c1,c2,c3⟩,-⟩:=cells4e C1;have HG:=Lib.hid hg;clear s0 hg h X S hdl hd;obtain⟨b,off,ak,ck,rfl,x0,x1,x2,x3,Sy⟩:=ekid0 S1;have HK:=kindOf_c nc (x.kids.size+1) x ak ck w1 (by omega) hx Sy.all;rw[exN_out,<-hkx] at HK;have hb2:kx<=3:=by omega
  clear hv hks S1 Sy hkx hb hl2;go_enter Tryz.func85,Tryz.ntmps85;go_upto_region 1 with fail;rw[<-hw1,<-HG.out];clear hw1;go_wp2_with fail;refine HK.mono ?_;rintro r w1b ⟨rfl,B1⟩;have HL:=lay_c 11 0 kx w1b o1 rb lv ls s (by omega) (by omega) (by omega) (by omega) (X1.below B1) (E1.below B1);have SB:Step I17 w1 o1 w1b o1:=Step.ofBelow o1 B1;clear HK;go_wp2_with (first|(go_at_call 41;refine HL.mono ?_;rintro e w2 ⟨rfl,o2,E2,S2⟩))
  go_end0
  exact⟨rfl,⟨o2,E2,(S0.trans SB).trans S2⟩,(gr_lay s _ _ _).le (by omega)⟩
 by_cases h14:k=14
 ·subst h14;have hl2:ks.len=2:=hdl.2.2.1 (by omega) (by omega);rw[hl2];obtain⟨x,y,hks⟩:=len_two hl2;have hx:okE nc x:=by rw[hks] at hok;exact(okF_ex hok).1
  have hb:=kdE_bd hx;obtain⟨kx,hkx⟩:∃kx:Nat,(kx:Int)=kdE x:=⟨(kdE x).toNat,by omega⟩
  have hv:opr 14 n nm (kdF ks) s=(s.lay 11 0 kx).lay 5 0 0:=by rw[hks,kdF_ex];simp[opr,<-hkx]
  rw[hv];rw[hks] at S;obtain⟨w1,hw1⟩:∃w1,w1=w.alloc (.cells #[.int .i64 14,.int .i64 n,stv nm,.slice ao 2 cap] 34):=⟨_,rfl⟩
  obtain⟨g,hg⟩:∃g,g=w.heap.size:=⟨_,rfl⟩
  have s0:∀ {I:Nat->Prop},Step I w o w1 (newLab w o 0):=fun {I}=>by rw[hw1];exact boxStep I w o _
  have C1:w1.heap[g]?=some (.cells #[.int .i64 14,.int .i64 n,stv nm,.slice ao 2 cap] 34):=by rw[hw1,hg];exact heap_alloc_new _ _
  have C1o:newLab w o 0 g=0:=by rw[hg];exact newLab_new (Nat.le_refl _)
  have E1:=h.step (s0 (I:=fun _=>False)) noF;have X1:=X.step (s0 (I:=fun _=>False)) id;have S1:=S.stepO (s0 (I:=fun _=>False)) id;have S0:=s0 (I:=I17);generalize newLab w o 0=o1 at *;obtain⟨⟨c0,c1,c2,c3⟩,-⟩:=cells4e C1;have HG:=Lib.hid hg;clear s0 hg h X S hdl hd;obtain⟨b,off,ak,ck,rfl,x0,x1,x2,x3,Sy⟩:=ekid0 S1;have HK:=kindOf_c nc (x.kids.size+1) x ak ck w1 (by omega) hx Sy.all;rw[exN_out,<-hkx] at HK;have hb2:kx<=3:=by omega
  clear hv hks S1 Sy hkx hb hl2;go_enter Tryz.func85,Tryz.ntmps85;go_upto_region 1 with fail;rw[<-hw1,<-HG.out];clear hw1;go_wp2_with fail;refine HK.mono ?_;rintro r w1b ⟨rfl,B1⟩;have HL:=lay_c 11 0 kx w1b o1 rb lv ls s (by omega) (by omega) (by omega) (by omega) (X1.below B1) (E1.below B1);have SB:Step I17 w1 o1 w1b o1:=Step.ofBelow o1 B1;clear HK;go_upto_region 7 with (first|(go_at_call 41;refine HL.mono ?_;rintro e w2 ⟨rfl,o2,E2,S2⟩))
  have gl:=gr_lay s 11 0 kx;have HL2:=lay_c 5 0 0 w2 o2 rb lv ls (s.lay 11 0 kx) (by omega) (by omega) (by omega) (by have:=gl.mes;omega) ((X1.below B1).step S2 (by decide)) E2;clear HL;go_wp2_with (first|(go_at_call 41;refine HL2.mono ?_;rintro e w3 ⟨rfl,o3,E3,S3⟩))
  go_end0
  exact⟨rfl,⟨o3,E3,((S0.trans SB).trans S2).trans S3⟩,(gl.trans (gr_lay _ _ _ _)).le (by omega)⟩
 by_cases h15:k=15
 ·subst h15;have hv:opr 15 n nm (kdF ks) s=s.lay 12 0 0:=by simp[opr]
  rw[hv];obtain⟨w1,hw1⟩:∃w1,w1=w.alloc (.cells #[.int .i64 15,.int .i64 n,stv nm,.slice ao ks.len cap] 34):=⟨_,rfl⟩
  obtain⟨g,hg⟩:∃g,g=w.heap.size:=⟨_,rfl⟩
  have s0:∀ {I:Nat->Prop},Step I w o w1 (newLab w o 0):=fun {I}=>by rw[hw1];exact boxStep I w o _
  have C1:w1.heap[g]?=some (.cells #[.int .i64 15,.int .i64 n,stv nm,.slice ao ks.len cap] 34):=by rw[hw1,hg];exact heap_alloc_new _ _
  have C1o:newLab w o 0 g=0:=by rw[hg];exact newLab_new (Nat.le_refl _)
  have E1:=h.step (s0 (I:=fun _=>False)) noF;have X1:=X.step (s0 (I:=fun _=>False)) id;have S1:=S.stepO (s0 (I:=fun _=>False)) id;have S0:=s0 (I:=I17);generalize newLab w o 0=o1 at *;obtain⟨⟨c0,c1,c2,c3⟩,-⟩:=cells4e C1;have HG:=Lib.hid hg;clear s0 hg h X S hdl hd;have HL:=lay_c 12 0 0 w1 o1 rb lv ls s (by omega) (by omega) (by omega) (by omega) X1 E1;clear hv;go_enter Tryz.func85,Tryz.ntmps85;go_upto_region 1 with fail;rw[<-hw1,<-HG.out];clear hw1;go_wp2_with (first|(go_at_call 41;refine HL.mono ?_;rintro e w2 ⟨rfl,o2,E2,S2⟩))
  go_end0
  exact⟨rfl,⟨o2,E2,S0.trans S2⟩,(gr_lay s _ _ _).le (by omega)⟩
 by_cases h16:k=16
 ·subst h16;have hv:opr 16 n nm (kdF ks) s=s.lay 12 0 1:=by simp[opr]
  rw[hv];obtain⟨w1,hw1⟩:∃w1,w1=w.alloc (.cells #[.int .i64 16,.int .i64 n,stv nm,.slice ao ks.len cap] 34):=⟨_,rfl⟩
  obtain⟨g,hg⟩:∃g,g=w.heap.size:=⟨_,rfl⟩
  have s0:∀ {I:Nat->Prop},Step I w o w1 (newLab w o 0):=fun {I}=>by rw[hw1];exact boxStep I w o _
  have C1:w1.heap[g]?=some (.cells #[.int .i64 16,.int .i64 n,stv nm,.slice ao ks.len cap] 34):=by rw[hw1,hg];exact heap_alloc_new _ _
  have C1o:newLab w o 0 g=0:=by rw[hg];exact newLab_new (Nat.le_refl _)
  have E1:=h.step (s0 (I:=fun _=>False)) noF;have X1:=X.step (s0 (I:=fun _=>False)) id;have S1:=S.stepO (s0 (I:=fun _=>False)) id;have S0:=s0 (I:=I17);generalize newLab w o 0=o1 at *;obtain⟨⟨c0,c1,c2,c3⟩,-⟩:=cells4e C1;have HG:=Lib.hid hg;clear s0 hg h X S hdl hd;have HL:=lay_c 12 0 1 w1 o1 rb lv ls s (by omega) (by omega) (by omega) (by omega) X1 E1;clear hv;go_enter Tryz.func85,Tryz.ntmps85;go_upto_region 1 with fail;rw[<-hw1,<-HG.out];clear hw1;go_wp2_with (first|(go_at_call 41;refine HL.mono ?_;rintro e w2 ⟨rfl,o2,E2,S2⟩))
  go_end0
  exact⟨rfl,⟨o2,E2,S0.trans S2⟩,(gr_lay s _ _ _).le (by omega)⟩
 by_cases h20:k=20
 ·subst h20;have hn:=hdl.2.2.2.2.1 rfl;obtain⟨n0,hn0⟩:∃n0:Nat,(n0:Int)=n:=⟨n.toNat,by omega⟩
  subst hn0;have hv:opr 20 (n0:Int) nm (kdF ks) s=s.lay 16 n0 0:=by simp[opr]
  rw[hv];obtain⟨w1,hw1⟩:∃w1,w1=w.alloc (.cells #[.int .i64 20,.int .i64 (n0:Int),stv nm,.slice ao ks.len cap] 34):=⟨_,rfl⟩
  obtain⟨g,hg⟩:∃g,g=w.heap.size:=⟨_,rfl⟩
  have s0:∀ {I:Nat->Prop},Step I w o w1 (newLab w o 0):=fun {I}=>by rw[hw1];exact boxStep I w o _
  have C1:w1.heap[g]?=some (.cells #[.int .i64 20,.int .i64 (n0:Int),stv nm,.slice ao ks.len cap] 34):=by rw[hw1,hg];exact heap_alloc_new _ _
  have C1o:newLab w o 0 g=0:=by rw[hg];exact newLab_new (Nat.le_refl _)
  have E1:=h.step (s0 (I:=fun _=>False)) noF;have X1:=X.step (s0 (I:=fun _=>False)) id;have S1:=S.stepO (s0 (I:=fun _=>False)) id;have S0:=s0 (I:=I17);generalize newLab w o 0=o1 at *;obtain⟨⟨c0,c1,c2,c3⟩,-⟩:=cells4e C1;have HG:=Lib.hid hg;clear s0 hg h X S hdl hd;have HL:=lay_c 16 n0 0 w1 o1 rb lv ls s (by omega) (by omega) (by omega) (by omega) X1 E1;clear hv;go_enter Tryz.func85,Tryz.ntmps85;go_upto_region 1 with fail;rw[<-hw1,<-HG.out];clear hw1;go_wp2_with (first|(go_at_call 41;refine HL.mono ?_;rintro e w2 ⟨rfl,o2,E2,S2⟩))
  go_end0
  exact⟨rfl,⟨o2,E2,S0.trans S2⟩,(gr_lay s _ _ _).le (by omega)⟩
 by_cases h22:k=22
 ·subst h22;have hv:opr 22 n nm (kdF ks) s=s.lay 20 0 0:=by simp[opr,barN]
  rw[hv];obtain⟨w1,hw1⟩:∃w1,w1=w.alloc (.cells #[.int .i64 22,.int .i64 n,stv nm,.slice ao ks.len cap] 34):=⟨_,rfl⟩
  obtain⟨g,hg⟩:∃g,g=w.heap.size:=⟨_,rfl⟩
  have s0:∀ {I:Nat->Prop},Step I w o w1 (newLab w o 0):=fun {I}=>by rw[hw1];exact boxStep I w o _
  have C1:w1.heap[g]?=some (.cells #[.int .i64 22,.int .i64 n,stv nm,.slice ao ks.len cap] 34):=by rw[hw1,hg];exact heap_alloc_new _ _
  have C1o:newLab w o 0 g=0:=by rw[hg];exact newLab_new (Nat.le_refl _)
  have E1:=h.step (s0 (I:=fun _=>False)) noF;have X1:=X.step (s0 (I:=fun _=>False)) id;have S1:=S.stepO (s0 (I:=fun _=>False)) id;have S0:=s0 (I:=I17);generalize newLab w o 0=o1 at *;obtain⟨⟨c0,c1,c2,c3⟩,-⟩:=cells4e C1;have HG:=Lib.hid hg;clear s0 hg h X S hdl hd;have HL:=lay_c 20 0 0 w1 o1 rb lv ls s (by omega) (by omega) (by omega) (by omega) X1 E1;have hbr:=X1.bar 22 (by omega);simp only[List.getD_cons_succ,List.getD_cons_zero] at hbr;clear hv;go_enter Tryz.func85,Tryz.ntmps85;go_upto_region 1 with fail;rw[<-hw1,<-HG.out];clear hw1;go_wp2_with (first|(go_at_call 41;refine HL.mono ?_;rintro e w2 ⟨rfl,o2,E2,S2⟩))
  go_end0
  exact⟨rfl,⟨o2,E2,S0.trans S2⟩,(gr_lay s _ _ _).le (by omega)⟩
 by_cases h23:k=23
 ·subst h23;have hv:opr 23 n nm (kdF ks) s=(s.kn nm).lay 21 (s.ns.idxOf nm) 0:=by simp[opr]
  rw[hv];obtain⟨w1,hw1⟩:∃w1,w1=w.alloc (.cells #[.int .i64 23,.int .i64 n,stv nm,.slice ao ks.len cap] 34):=⟨_,rfl⟩
  obtain⟨g,hg⟩:∃g,g=w.heap.size:=⟨_,rfl⟩
  have s0:∀ {I:Nat->Prop},Step I w o w1 (newLab w o 0):=fun {I}=>by rw[hw1];exact boxStep I w o _
  have C1:w1.heap[g]?=some (.cells #[.int .i64 23,.int .i64 n,stv nm,.slice ao ks.len cap] 34):=by rw[hw1,hg];exact heap_alloc_new _ _
  have C1o:newLab w o 0 g=0:=by rw[hg];exact newLab_new (Nat.le_refl _)
  have E1:=h.step (s0 (I:=fun _=>False)) noF;have X1:=X.step (s0 (I:=fun _=>False)) id;have S1:=S.stepO (s0 (I:=fun _=>False)) id;have S0:=s0 (I:=I17);generalize newLab w o 0=o1 at *;obtain⟨⟨c0,c1,c2,c3⟩,-⟩:=cells4e C1;have HG:=Lib.hid hg;clear s0 hg h X S hdl hd;have HN:=plname_c nm w1 o1 rb lv ls s hnm (by omega) X1 E1;have hi:s.ns.idxOf nm<=268435455:=by
   have:=List.idxOf_le_length (a:=nm) (l:=s.ns)
   unfold Em.mes at hm;omega
  have gk:=gr_kn s nm;clear hv;go_enter Tryz.func85,Tryz.ntmps85;go_upto_region 1 with fail;rw[<-hw1,<-HG.out];clear hw1;go_wp2_with fail;refine HN.mono ?_;rintro e w1b ⟨rfl,o1b,E1b,S1b⟩;have HL:=lay_c 21 (s.ns.idxOf nm) 0 w1b o1b rb lv ls (s.kn nm) (by omega) hi (by omega) (by have:=gk.mes;omega) (X1.step S1b (by decide)) E1b;clear HN;go_wp2_with (first|(go_at_call 41;refine HL.mono ?_;rintro e w2 ⟨rfl,o2,E2,S2⟩))
  go_end0
  exact⟨rfl,⟨o2,E2,(S0.trans S1b).trans S2⟩,(gk.trans (gr_lay _ _ _ _)).le (by omega)⟩
 by_cases h24:k=24
 ·subst h24;have hv:opr 24 n nm (kdF ks) s=s.lay 22 0 0:=by simp[opr,barN]
  rw[hv];obtain⟨w1,hw1⟩:∃w1,w1=w.alloc (.cells #[.int .i64 24,.int .i64 n,stv nm,.slice ao ks.len cap] 34):=⟨_,rfl⟩
  obtain⟨g,hg⟩:∃g,g=w.heap.size:=⟨_,rfl⟩
  have s0:∀ {I:Nat->Prop},Step I w o w1 (newLab w o 0):=fun {I}=>by rw[hw1];exact boxStep I w o _
  have C1:w1.heap[g]?=some (.cells #[.int .i64 24,.int .i64 n,stv nm,.slice ao ks.len cap] 34):=by rw[hw1,hg];exact heap_alloc_new _ _
  have C1o:newLab w o 0 g=0:=by rw[hg];exact newLab_new (Nat.le_refl _)
  have E1:=h.step (s0 (I:=fun _=>False)) noF;have X1:=X.step (s0 (I:=fun _=>False)) id;have S1:=S.stepO (s0 (I:=fun _=>False)) id;have S0:=s0 (I:=I17);generalize newLab w o 0=o1 at *;obtain⟨⟨c0,c1,c2,c3⟩,-⟩:=cells4e C1;have HG:=Lib.hid hg;clear s0 hg h X S hdl hd;have HL:=lay_c 22 0 0 w1 o1 rb lv ls s (by omega) (by omega) (by omega) (by omega) X1 E1;have hbr:=X1.bar 24 (by omega);simp only[List.getD_cons_succ,List.getD_cons_zero] at hbr;clear hv;go_enter Tryz.func85,Tryz.ntmps85;go_upto_region 1 with fail;rw[<-hw1,<-HG.out];clear hw1;go_wp2_with (first|(go_at_call 41;refine HL.mono ?_;rintro e w2 ⟨rfl,o2,E2,S2⟩))
  go_end0
  exact⟨rfl,⟨o2,E2,S0.trans S2⟩,(gr_lay s _ _ _).le (by omega)⟩
 by_cases h25:k=25
 ·subst h25;have hv:opr 25 n nm (kdF ks) s=s.lay 23 ks.len 0:=by simp[opr,kdF_len]
  rw[hv];obtain⟨w1,hw1⟩:∃w1,w1=w.alloc (.cells #[.int .i64 25,.int .i64 n,stv nm,.slice ao ks.len cap] 34):=⟨_,rfl⟩
  obtain⟨g,hg⟩:∃g,g=w.heap.size:=⟨_,rfl⟩
  have s0:∀ {I:Nat->Prop},Step I w o w1 (newLab w o 0):=fun {I}=>by rw[hw1];exact boxStep I w o _
  have C1:w1.heap[g]?=some (.cells #[.int .i64 25,.int .i64 n,stv nm,.slice ao ks.len cap] 34):=by rw[hw1,hg];exact heap_alloc_new _ _
  have C1o:newLab w o 0 g=0:=by rw[hg];exact newLab_new (Nat.le_refl _)
  have E1:=h.step (s0 (I:=fun _=>False)) noF;have X1:=X.step (s0 (I:=fun _=>False)) id;have S1:=S.stepO (s0 (I:=fun _=>False)) id;have S0:=s0 (I:=I17);generalize newLab w o 0=o1 at *;obtain⟨⟨c0,c1,c2,c3⟩,-⟩:=cells4e C1;have HG:=Lib.hid hg;clear s0 hg h X S hdl hd;have HL:=lay_c 23 ks.len 0 w1 o1 rb lv ls s (by omega) (by omega) (by omega) (by omega) X1 E1;clear hv;go_enter Tryz.func85,Tryz.ntmps85;go_upto_region 1 with fail;rw[<-hw1,<-HG.out];clear hw1;go_wp2_with (first|(go_at_call 41;refine HL.mono ?_;rintro e w2 ⟨rfl,o2,E2,S2⟩))
  go_end0
  exact⟨rfl,⟨o2,E2,S0.trans S2⟩,(gr_lay s _ _ _).le (by omega)⟩
 exfalso;rcases hk with h|h|h|h|h|h|h|h|h|h|h|h|h|h|h|h<;>contradiction
theorem stepN {I:Nat->Prop}{w w':World}(o:Nat->Nat)(b:Below w.heap.size w w'):Step I w o w' (newLab w o 0):=⟨b.os,b.tape,b.output,b.size,fun k hk=>newLab_old hk,fun k hk _=>b.block k hk⟩
theorem al2 (w:World)(a b:Obj):((w.alloc a).alloc b).heap[w.heap.size]?=some a/\((w.alloc a).alloc b).heap[w.heap.size+1]?=some b/\((w.alloc a).alloc b).heap.size=w.heap.size+2/\Below w.heap.size w ((w.alloc a).alloc b):=by
 refine⟨(heap_alloc_old _ _ (by simp)).trans (heap_alloc_new _ _),?_,by simp,((Below.refl _ w).alloc (Nat.le_refl _) _).alloc (by simp) _⟩
 have:=heap_alloc_new (w.alloc a) b
 rw[World.size_alloc] at this;exact this
theorem al3 (w:World)(a b c:Obj):(((w.alloc a).alloc b).alloc c).heap[w.heap.size]?=some a/\(((w.alloc a).alloc b).alloc c).heap[w.heap.size+1]?=some b/\(((w.alloc a).alloc b).alloc c).heap[w.heap.size+2]?=some c/\(((w.alloc a).alloc b).alloc c).heap.size=w.heap.size+3/\Below w.heap.size w (((w.alloc a).alloc b).alloc c):=by
 obtain⟨h1,h2,h3,h4⟩:=al2 w a b;refine⟨(heap_alloc_old _ _ (by omega)).trans h1,(heap_alloc_old _ _ (by omega)).trans h2,?_,by simp,h4.alloc (by omega) _⟩
 have:=heap_alloc_new ((w.alloc a).alloc b) c
 rw[h3] at this;exact this
theorem al4 (w:World)(a b c d:Obj):((((w.alloc a).alloc b).alloc c).alloc d).heap[w.heap.size]?=some a/\((((w.alloc a).alloc b).alloc c).alloc d).heap[w.heap.size+1]?=some b/\((((w.alloc a).alloc b).alloc c).alloc d).heap[w.heap.size+2]?=some c/\((((w.alloc a).alloc b).alloc c).alloc d).heap[w.heap.size+3]?=some d/\((((w.alloc a).alloc b).alloc c).alloc d).heap.size=w.heap.size+4/\Below w.heap.size w ((((w.alloc a).alloc b).alloc c).alloc d):=by
 obtain⟨h1,h2,h3,h4,h5⟩:=al3 w a b c;refine⟨(heap_alloc_old _ _ (by omega)).trans h1,(heap_alloc_old _ _ (by omega)).trans h2,(heap_alloc_old _ _ (by omega)).trans h3,?_,by simp,h5.alloc (by omega) _⟩
 have:=heap_alloc_new (((w.alloc a).alloc b).alloc c) d
 rw[h4] at this;exact this
theorem al5 (w:World)(a b c d e:Obj):(((((w.alloc a).alloc b).alloc c).alloc d).alloc e).heap[w.heap.size]?=some a/\(((((w.alloc a).alloc b).alloc c).alloc d).alloc e).heap[w.heap.size+1]?=some b/\(((((w.alloc a).alloc b).alloc c).alloc d).alloc e).heap[w.heap.size+2]?=some c/\(((((w.alloc a).alloc b).alloc c).alloc d).alloc e).heap[w.heap.size+3]?=some d/\(((((w.alloc a).alloc b).alloc c).alloc d).alloc e).heap[w.heap.size+4]?=some e/\(((((w.alloc a).alloc b).alloc c).alloc d).alloc e).heap.size=w.heap.size+5/\Below w.heap.size w (((((w.alloc a).alloc b).alloc c).alloc d).alloc e):=by
 obtain⟨h1,h2,h3,h4,h5,h6⟩:=al4 w a b c d;refine⟨(heap_alloc_old _ _ (by omega)).trans h1,(heap_alloc_old _ _ (by omega)).trans h2,(heap_alloc_old _ _ (by omega)).trans h3,(heap_alloc_old _ _ (by omega)).trans h4,?_,by simp,h6.alloc (by omega) _⟩
 have:=heap_alloc_new ((((w.alloc a).alloc b).alloc c).alloc d) e
 rw[h5] at this;exact this
abbrev pt0 (b:Nat):Value:=.pointer (some ⟨b,0,none⟩)
theorem not0:¬I17 0:=by decide
def EPart (nc N:Nat):Prop:=∀ (e:Ex) (ao:Option Addr) (cap ar u:Nat) (w:World) (o:Nat->Nat) (rb:Nat) (lv:Value) (ls:List Int) (s:Em),e.kids.size<N->okE nc e->ls.length=nc->nc<=256->SnO w o e.kids ao->s.ks.length=ls.length ->
 s.mes+300*(e.kids.size+1)<=100000000->u+3*(e.kids.size+1)<=1000000000->ar+(e.kids.size+1)<=1000000000->s.dp<=1000000001->EmX w o lv ls->EmW w o rb lv s ->
 Calls Tryz.prog 40 #[pt0 rb,exN e ao cap,spV ar u] w (PosQ w o rb lv s (emE ls e ar u s) (300*(e.kids.size+1)))
structure Cx (rb gw gn ga:Nat)(k n:Int)(nm:List UInt8)(f:Fs)(ao:Option Addr)(cap ar u:Nat)(w:World)(o:Nat->Nat):Prop where
 bw:Blk w o 0 gw (.cells #[pt0 rb] 82)
 bn:Blk w o 0 gn (.cells #[.int .i64 k,.int .i64 n,stv nm,.slice ao f.len cap] 34)
 ba:Blk w o 0 ga (.cells #[.int .i64 (ar:Nat),.int .i64 (u:Nat)] 86)
 sn:SnO w o f ao
theorem Cx.step {I:Nat->Prop}{rb gw gn ga:Nat}{k n:Int}{nm:List UInt8}{f:Fs}{ao:Option Addr}{cap ar u:Nat}{w w':World}{o o':Nat->Nat}(h:Cx rb gw gn ga k n nm f ao cap ar u w o)(x:Step I w o w' o')(hi:¬I 0):Cx rb gw gn ga k n nm f ao cap ar u w' o' :=
 ⟨h.bw.step x hi,h.bn.step x hi,h.ba.step x hi,h.sn.stepO x hi⟩
theorem Cx.keeps (rb gw gn ga:Nat)(k n:Int)(nm:List UInt8)(f:Fs)(ao:Option Addr)(cap ar u:Nat):Keeps (Cx rb gw gn ga k n nm f ao cap ar u):=fun h x=>h.step x not0
theorem cell1e {w:World}{b:Nat}{x:Value}{t:TypeId}(h:w.heap[b]?=some (.cells #[x] t)):w.cell? ⟨b,0,none⟩=some x:=by simp[World.cell?,h]
abbrev Nd4 (w:World)(b j:Nat)(y:Ex)(ak:Option Addr)(ck:Nat):Prop:=w.cell? ⟨b,j,none⟩=some (.int .i64 y.k)/\w.cell? ⟨b,j+1,none⟩=some (.int .i64 y.n)/\w.cell? ⟨b,j+2,none⟩=some (stv y.nm)/\w.cell? ⟨b,j+3,none⟩=some (.slice ak y.kids.len ck)
theorem Nd4.block {w w':World}{b j:Nat}{y:Ex}{ak:Option Addr}{ck:Nat}(h:Nd4 w b j y ak ck)(e:w'.heap[b]?=w.heap[b]?):Nd4 w' b j y ak ck :=
 ⟨(World.cell?_of_block (a:=⟨b,j,none⟩) e).trans h.1,(World.cell?_of_block (a:=⟨b,j+1,none⟩) e).trans h.2.1,(World.cell?_of_block (a:=⟨b,j+2,none⟩) e).trans h.2.2.1,(World.cell?_of_block (a:=⟨b,j+3,none⟩) e).trans h.2.2.2⟩
theorem kidO {w:World}{o:Nat->Nat}{x r:Fs}{y:Ex}{ao:Option Addr}(h:SnO w o (x.app (Fs.ex y r)) ao)(i:Nat)(hi:x.len=i):∃b off ak ck,ao=some ⟨b,off,none⟩/\Nd4 w b (off+i*4) y ak ck/\SnO w o y.kids ak/\∀ {I:Nat->Prop}{w':World}{o':Nat->Nat},Step I w o w' o'->¬I 0->Nd4 w' b (off+i*4) y ak ck:=by
 subst hi;obtain⟨b,off,ak,ck,rfl,hlt,hp,x0,x1,x2,x3,S⟩:=SlN.kidQ h;have N:Nd4 w b (off+x.len*4) y ak ck:=⟨x0,x1,x2,x3⟩
 exact⟨b,off,ak,ck,rfl,N,S,fun x hi=>N.block (x.block b hlt (by rw[hp];exact hi))⟩
theorem cl_part1 (nc N:Nat)(HP:EPart nc N)(rb gw gn ga:Nat)(k n:Int)(nm:List UInt8)(x y z:Ex)(ao:Option Addr)(cap ar u:Nat)(lv:Value)(ls:List Int)(hok:okF nc (Fs.ex x (Fs.ex y (Fs.ex z .nil))))(hN:y.kids.size<N)(hls:ls.length=nc)(hnc:nc<=256)(hu:u+3*(y.kids.size+1)<=1000000000)(har:ar+(y.kids.size+1)<=1000000000) :
  Does rb lv ls (Cx rb gw gn ga k n nm (Fs.ex x (Fs.ex y (Fs.ex z .nil))) ao cap ar u) 80 #[pt0 gw,pt0 gn,pt0 ga] (emE ls y ar u) (300*(y.kids.size+1)):=by
 intro w o s X E K hm hd hks;obtain⟨bw,bn,ba,sn⟩:=K;have d1:Step (fun _=>False) w o w.drew o:=(Step.refl _ w o).drew;obtain⟨b,off,ak,ck,rfl,NN,Sy,NK⟩:=kidO (x:=one x) sn 1 rfl;have hlen:(Fs.ex x (Fs.ex y (Fs.ex z .nil))).len=3:=rfl;rw[hlen] at bn;have cw:=cell1e bw.1;obtain⟨⟨n0,n1,n2,n3⟩,-⟩:=cells4e bn.1;obtain⟨a0,a1⟩:=spot_box ba.1;have HC:=HP y ak ck ar u w.drew o rb lv ls s hN (okF_ex (okF_ex hok).2).1 hls hnc (Sy.stepO d1 id) hks hm hu har hd (X.step d1 id) (E.step d1 noF);rw[exN_out] at HC;have SD:Step I17 w o w.drew o:=(Step.refl _ w o).drew;have KK:Hid (∀ w' o',Step I17 w.drew o w' o'->w'.cell? ⟨gw,0,none⟩=some (pt0 rb)/\w'.cell? ⟨gn,3,none⟩=some (.slice (some ⟨b,off,none⟩) 3 cap)/\Nd4 w' b (off+4) y ak ck/\w'.cell? ⟨ga,0,none⟩=some (.int .i64 (ar:Nat))/\w'.cell? ⟨ga,1,none⟩=some (.int .i64 (u:Nat))):=fun w' o' S=>by
  have S':=SD.trans S;exact⟨cell1e (bw.step S' not0).1,(cells4e (bn.step S' not0).1).1.2.2.2,NK S' not0,(spot_box (ba.step S' not0).1).1,(spot_box (ba.step S' not0).1).2⟩
 obtain⟨cw',n3',NN',a0',a1'⟩:=KK.out _ _ (Step.refl I17 w.drew o);obtain⟨x0,x1,x2,x3⟩:=NN;obtain⟨y0,y1,y2,y3⟩:=NN';clear bw bn ba sn Sy hlen d1 NK;go_enter Tryz.func80,Tryz.ntmps80;go_wp2_with fail;go_region_held3 (fun wx=>wx.cell? ⟨gw,0,none⟩=some (pt0 rb)/\wx.cell? ⟨gn,3,none⟩=some (.slice (some ⟨b,off,none⟩) 3 cap)/\(wx.cell? ⟨b,off+4,none⟩=some (.int .i64 y.k)/\wx.cell? ⟨b,off+4+1,none⟩=some (.int .i64 y.n)/\wx.cell? ⟨b,off+4+2,none⟩=some (stv y.nm)/\wx.cell? ⟨b,off+4+3,none⟩=some (.slice ak y.kids.len ck))/\wx.cell? ⟨ga,0,none⟩=some (.int .i64 (ar:Nat))/\wx.cell? ⟨ga,1,none⟩=some (.int .i64 (u:Nat))) (go_keep) (first|(go_at_call 40;refine HC.mono ?_;rintro e w2 ⟨rfl,⟨o2,E2,S2⟩,g2⟩;obtain⟨cw',n3',⟨y0,y1,y2,y3⟩,a0',a1'⟩:=KK.out _ _ S2))
 all_goals
  go_end0
  exact⟨rfl,⟨o2,E2,SD.trans S2⟩,g2⟩
theorem cl_part2 (nc N:Nat)(HP:EPart nc N)(rb gw gn ga:Nat)(k n:Int)(nm:List UInt8)(x y z:Ex)(ao:Option Addr)(cap ar u:Nat)(lv:Value)(ls:List Int)(hok:okF nc (Fs.ex x (Fs.ex y (Fs.ex z .nil))))(hN:z.kids.size<N)(hls:ls.length=nc)(hnc:nc<=256)(hu:u+3*(z.kids.size+1)<=1000000000)(har:ar+(z.kids.size+1)<=1000000000) :
  Does rb lv ls (Cx rb gw gn ga k n nm (Fs.ex x (Fs.ex y (Fs.ex z .nil))) ao cap ar u) 81 #[pt0 gw,pt0 gn,pt0 ga] (emE ls z ar u) (300*(z.kids.size+1)):=by
 intro w o s X E K hm hd hks;obtain⟨bw,bn,ba,sn⟩:=K;have d1:Step (fun _=>False) w o w.drew o:=(Step.refl _ w o).drew;obtain⟨b,off,ak,ck,rfl,NN,Sy,NK⟩:=kidO (x:=Fs.ex x (one y)) sn 2 rfl;have hlen:(Fs.ex x (Fs.ex y (Fs.ex z .nil))).len=3:=rfl;rw[hlen] at bn;have cw:=cell1e bw.1;obtain⟨⟨n0,n1,n2,n3⟩,-⟩:=cells4e bn.1;obtain⟨a0,a1⟩:=spot_box ba.1;have HC:=HP z ak ck ar u w.drew o rb lv ls s hN (okF_ex (okF_ex (okF_ex hok).2).2).1 hls hnc (Sy.stepO d1 id) hks hm hu har hd (X.step d1 id) (E.step d1 noF);rw[exN_out] at HC;have SD:Step I17 w o w.drew o:=(Step.refl _ w o).drew;have KK:Hid (∀ w' o',Step I17 w.drew o w' o'->w'.cell? ⟨gw,0,none⟩=some (pt0 rb)/\w'.cell? ⟨gn,3,none⟩=some (.slice (some ⟨b,off,none⟩) 3 cap)/\Nd4 w' b (off+8) z ak ck/\w'.cell? ⟨ga,0,none⟩=some (.int .i64 (ar:Nat))/\w'.cell? ⟨ga,1,none⟩=some (.int .i64 (u:Nat))):=fun w' o' S=>by
  have S':=SD.trans S;exact⟨cell1e (bw.step S' not0).1,(cells4e (bn.step S' not0).1).1.2.2.2,NK S' not0,(spot_box (ba.step S' not0).1).1,(spot_box (ba.step S' not0).1).2⟩
 obtain⟨cw',n3',NN',a0',a1'⟩:=KK.out _ _ (Step.refl I17 w.drew o);obtain⟨x0,x1,x2,x3⟩:=NN;obtain⟨y0,y1,y2,y3⟩:=NN';clear bw bn ba sn Sy hlen d1 NK;go_enter Tryz.func81,Tryz.ntmps81;go_wp2_with fail;go_region_held3 (fun wx=>wx.cell? ⟨gw,0,none⟩=some (pt0 rb)/\wx.cell? ⟨gn,3,none⟩=some (.slice (some ⟨b,off,none⟩) 3 cap)/\(wx.cell? ⟨b,off+8,none⟩=some (.int .i64 z.k)/\wx.cell? ⟨b,off+8+1,none⟩=some (.int .i64 z.n)/\wx.cell? ⟨b,off+8+2,none⟩=some (stv z.nm)/\wx.cell? ⟨b,off+8+3,none⟩=some (.slice ak z.kids.len ck))/\wx.cell? ⟨ga,0,none⟩=some (.int .i64 (ar:Nat))/\wx.cell? ⟨ga,1,none⟩=some (.int .i64 (u:Nat))) (go_keep) (first|(go_at_call 40;refine HC.mono ?_;rintro e w2 ⟨rfl,⟨o2,E2,S2⟩,g2⟩;obtain⟨cw',n3',⟨y0,y1,y2,y3⟩,a0',a1'⟩:=KK.out _ _ S2))
 all_goals
  go_end0
  exact⟨rfl,⟨o2,E2,SD.trans S2⟩,g2⟩
theorem cl_con1 (nc N:Nat)(HP:EPart nc N)(rb gw gn ga:Nat)(k n:Int)(nm:List UInt8)(x y:Ex)(ao:Option Addr)(cap ar u:Nat)(lv:Value)(ls:List Int)(hok:okF nc (Fs.ex x (Fs.ex y .nil)))(hN:y.kids.size<N)(hls:ls.length=nc)(hnc:nc<=256)(hu:u+3*(y.kids.size+1)<=1000000000)(har:ar+(y.kids.size+1)<=1000000000) :
  Does rb lv ls (Cx rb gw gn ga k n nm (Fs.ex x (Fs.ex y .nil)) ao cap ar u) 124 #[pt0 gw,pt0 gn,pt0 ga] (emE ls y ar u) (300*(y.kids.size+1)):=by
 intro w o s X E K hm hd hks;obtain⟨bw,bn,ba,sn⟩:=K;have d1:Step (fun _=>False) w o w.drew o:=(Step.refl _ w o).drew;obtain⟨b,off,ak,ck,rfl,NN,Sy,NK⟩:=kidO (x:=one x) sn 1 rfl;have hlen:(Fs.ex x (Fs.ex y .nil)).len=2:=rfl;rw[hlen] at bn;have cw:=cell1e bw.1;obtain⟨⟨n0,n1,n2,n3⟩,-⟩:=cells4e bn.1;obtain⟨a0,a1⟩:=spot_box ba.1;have HC:=HP y ak ck ar u w.drew o rb lv ls s hN (okF_ex (okF_ex hok).2).1 hls hnc (Sy.stepO d1 id) hks hm hu har hd (X.step d1 id) (E.step d1 noF);rw[exN_out] at HC;have SD:Step I17 w o w.drew o:=(Step.refl _ w o).drew;have KK:Hid (∀ w' o',Step I17 w.drew o w' o'->w'.cell? ⟨gw,0,none⟩=some (pt0 rb)/\w'.cell? ⟨gn,3,none⟩=some (.slice (some ⟨b,off,none⟩) 2 cap)/\Nd4 w' b (off+4) y ak ck/\w'.cell? ⟨ga,0,none⟩=some (.int .i64 (ar:Nat))/\w'.cell? ⟨ga,1,none⟩=some (.int .i64 (u:Nat))):=fun w' o' S=>by
  have S':=SD.trans S;exact⟨cell1e (bw.step S' not0).1,(cells4e (bn.step S' not0).1).1.2.2.2,NK S' not0,(spot_box (ba.step S' not0).1).1,(spot_box (ba.step S' not0).1).2⟩
 obtain⟨cw',n3',NN',a0',a1'⟩:=KK.out _ _ (Step.refl I17 w.drew o);obtain⟨x0,x1,x2,x3⟩:=NN;obtain⟨y0,y1,y2,y3⟩:=NN';clear bw bn ba sn Sy hlen d1 NK;go_enter Tryz.func124,Tryz.ntmps124;go_wp2_with fail;go_region_held3 (fun wx=>wx.cell? ⟨gw,0,none⟩=some (pt0 rb)/\wx.cell? ⟨gn,3,none⟩=some (.slice (some ⟨b,off,none⟩) 2 cap)/\(wx.cell? ⟨b,off+4,none⟩=some (.int .i64 y.k)/\wx.cell? ⟨b,off+4+1,none⟩=some (.int .i64 y.n)/\wx.cell? ⟨b,off+4+2,none⟩=some (stv y.nm)/\wx.cell? ⟨b,off+4+3,none⟩=some (.slice ak y.kids.len ck))/\wx.cell? ⟨ga,0,none⟩=some (.int .i64 (ar:Nat))/\wx.cell? ⟨ga,1,none⟩=some (.int .i64 (u:Nat))) (go_keep) (first|(go_at_call 40;refine HC.mono ?_;rintro e w2 ⟨rfl,⟨o2,E2,S2⟩,g2⟩;obtain⟨cw',n3',⟨y0,y1,y2,y3⟩,a0',a1'⟩:=KK.out _ _ S2))
 all_goals
  go_end0
  exact⟨rfl,⟨o2,E2,SD.trans S2⟩,g2⟩
theorem Does.mono {rb:Nat}{lv:Value}{ls:List Int}{K K':World->(Nat->Nat)->Prop}{F:FuncId}{c:Array Value}{t:Em->Em}{n:Nat}(h:Does rb lv ls K F c t n)(hk:∀ w o,K' w o->K w o):Does rb lv ls K' F c t n:=fun w o s X E k=>h w o s X E (hk w o k)
theorem cl_con2 (rb gw gs ga ar u v:Nat)(lv:Value)(ls:List Int)(hv:v<=1)(hu:u<=1000000000) :
  Does rb lv ls (fun w o=>Blk w o 0 gw (.cells #[pt0 rb] 82)/\Blk w o 0 gs (.cells #[.int .i64 (v:Nat)] 3)/\Blk w o 0 ga (.cells #[.int .i64 (ar:Nat),.int .i64 (u:Nat)] 86)) 125 #[pt0 gw,pt0 gs,pt0 ga] (fun t=>t.con (v:Nat) 2 u) 2:=by
 intro w o s X E ⟨bw,bs,ba⟩ hm hd hks;have cw:=cell1e bw.1;have cs:=cell1e bs.1;obtain⟨a0,a1⟩:=spot_box ba.1;have HC:=constant_c (v:Nat) 2 ar u w o rb lv ls s (by omega) (by omega) hu hd (by omega) X E;clear bw bs ba;go_enter Tryz.func125,Tryz.ntmps125;go_wp2_with (first|(go_at_call 74;refine HC.mono ?_;rintro e w2 ⟨rfl,o2,E2,S2⟩))
 go_end0
 exact⟨rfl,⟨o2,E2,S2⟩,gr_con s _ _ _ hu⟩
theorem ent_con1:Ent 124:=fun _ _=>by kernel_rfl
theorem ent_con2:Ent 125:=fun _ _=>by kernel_rfl
def CxI (rb gw gn gs ga:Nat)(k n:Int)(nm:List UInt8)(f:Fs)(ao:Option Addr)(cap ar u v:Nat)(w:World)(o:Nat->Nat):Prop:=Cx rb gw gn ga k n nm f ao cap ar u w o/\Blk w o 0 gs (.cells #[.int .i64 (v:Nat)] 3)
theorem CxI.keeps (rb gw gn gs ga:Nat)(k n:Int)(nm:List UInt8)(f:Fs)(ao:Option Addr)(cap ar u v:Nat):Keeps (CxI rb gw gn gs ga k n nm f ao cap ar u v):=fun h x=>⟨h.1.step x not0,h.2.step x not0⟩
theorem conn_c (nc N:Nat)(HP:EPart nc N)(k n:Int)(nm:List UInt8)(a:Int)(x y:Ex)(ao:Option Addr)(cap op v ar u:Nat)(w:World)(o:Nat->Nat)(rb:Nat)(lv:Value)(ls:List Int)(s:Em)(hop:op<=255)(hv:v<=1)(hok:okF nc (Fs.ex x (Fs.ex y .nil)))(hN1:x.kids.size<N)(hN2:y.kids.size<N)(hls:ls.length=nc)(hnc:nc<=256)(hu:u+3*(x.kids.size+y.kids.size+2)<=1000000000)(har:ar+(x.kids.size+y.kids.size+2)<=1000000000)(S:SnO w o (Fs.ex x (Fs.ex y .nil)) ao)(hks:s.ks.length=ls.length)
  (hm:s.mes+(300*(x.kids.size+1)+(300*(y.kids.size+1)+4))<=100000000) (hd:s.dp<=1000000001) (X:EmX w o lv ls) (h:EmW w o rb lv s) :
  Calls Tryz.prog 78 #[pt0 rb,exN ⟨k,n,nm,a,Fs.ex x (Fs.ex y .nil)⟩ ao cap,.int .i64 (op:Nat),.int .i64 (v:Nat),spV ar u] w (PosQ w o rb lv s ((emE ls x ar u s).fork op (emE ls y ar u) (fun t=>t.con (v:Nat) 2 u)) (300*(x.kids.size+1)+(300*(y.kids.size+1)+4))):=by
 have hmf:∀ (fn:Fn) (first cap:Array Value) (w:World),(Instr.makeFunc fn first cap).run Tryz.prog w=.ok (.func fn first cap) w:=fun _ _ _ _=>rfl;have hlen:(Fs.ex x (Fs.ex y .nil)).len=2:=rfl;rw[exN_out];simp only;obtain⟨g,hg⟩:∃g,g=w.heap.size:=⟨_,rfl⟩
 obtain⟨w1,hw1⟩:∃w1,w1=(((w.alloc (.cells #[pt0 rb] 82)).alloc (.cells #[.int .i64 k,.int .i64 n,stv nm,.slice ao (Fs.ex x (Fs.ex y .nil)).len cap] 34)).alloc (.cells #[.int .i64 (v:Nat)] 3)).alloc (.cells #[.int .i64 (ar:Nat),.int .i64 (u:Nat)] 86):=⟨_,rfl⟩
 obtain⟨z1,z2,z3,z4,z5,z6⟩:=al4 w (.cells #[pt0 rb] 82) (.cells #[.int .i64 k,.int .i64 n,stv nm,.slice ao (Fs.ex x (Fs.ex y .nil)).len cap] 34) (.cells #[.int .i64 (v:Nat)] 3) (.cells #[.int .i64 (ar:Nat),.int .i64 (u:Nat)] 86);rw[<-hw1,<-hg] at z1 z2 z3 z4 z5 z6;have s0:∀ {I:Nat->Prop},Step I w o w1 (newLab w o 0):=fun {I}=>stepN o (by rw[<-hg];exact z6);have hnl:∀ j,newLab w o 0 (g+j)=0:=fun j=>newLab_new (by omega);have K1:CxI rb g (g+1) (g+2) (g+3) k n nm (Fs.ex x (Fs.ex y .nil)) ao cap ar u v w1 (newLab w o 0):=⟨⟨⟨z1,hnl 0⟩,⟨z2,hnl 1⟩,⟨z4,hnl 3⟩,S.stepO (s0 (I:=fun _=>False)) id⟩,⟨z3,hnl 2⟩⟩
 have E1:=h.step (s0 (I:=fun _=>False)) noF;have X1:=X.step (s0 (I:=fun _=>False)) id;have S0:=s0 (I:=I17);generalize newLab w o 0=o1 at *;have HG:=Lib.hid hg;clear s0 hnl z1 z2 z3 z4 z5 z6 h X S hg;have d1:Step (fun _=>False) w1 o1 w1.drew o1:=(Step.refl _ w1 o1).drew;have SD:Step I17 w1 o1 w1.drew o1:=(Step.refl _ w1 o1).drew;have KD:=K1.1.step d1 id;obtain⟨b,off,ak,ck,rfl,NN,Sy,NK⟩:=kidO (x:=.nil) K1.1.sn 0 rfl;have HC:=HP x ak ck ar u w1.drew o1 rb lv ls s hN1 (okF_ex hok).1 hls hnc (Sy.stepO d1 id) hks (by omega) (by omega) (by omega) hd (X1.step d1 id) (E1.step d1 noF);rw[exN_out] at HC;rw[hlen] at hw1 ⊢;have KK:Hid (∀ w' o',Step I17 w1.drew o1 w' o'->w'.cell? ⟨g,0,none⟩=some (pt0 rb)/\w'.cell? ⟨g+1,3,none⟩=some (.slice (some ⟨b,off,none⟩) 2 cap)/\Nd4 w' b off x ak ck/\w'.cell? ⟨g+3,0,none⟩=some (.int .i64 (ar:Nat))/\w'.cell? ⟨g+3,1,none⟩=some (.int .i64 (u:Nat))):=fun w' o' S=>by
  have S':=SD.trans S;have K2:=K1.1.step S' not0;exact⟨cell1e K2.bw.1,(cells4e K2.bn.1).1.2.2.2,NK S' not0,(spot_box K2.ba.1).1,(spot_box K2.ba.1).2⟩
 obtain⟨cw',n3',NN',a0',a1'⟩:=KK.out _ _ (Step.refl I17 w1.drew o1);have cw:=cell1e K1.1.bw.1;have n3:=(cells4e K1.1.bn.1).1.2.2.2;rw[hlen] at n3;obtain⟨a0,a1⟩:=spot_box K1.1.ba.1;obtain⟨x0,x1,x2,x3⟩:=NN;obtain⟨y0,y1,y2,y3⟩:=NN';have FK:∀ w2 o2 s2,CxI rb g (g+1) (g+2) (g+3) k n nm (Fs.ex x (Fs.ex y .nil)) (some ⟨b,off,none⟩) cap ar u v w2 o2->EmX w2 o2 lv ls->EmW w2 o2 rb lv s2->s2.mes+(300*(y.kids.size+1)+2+2)<=100000000->s2.dp<=1000000001->s2.ks.length=ls.length->_:=fun w2 o2 s2 K2 X2 E2 hm2 hd2 hk2 =>
  fork_c op 124 125 #[pt0 g,pt0 (g+1),pt0 (g+3)] #[pt0 g,pt0 (g+2),pt0 (g+3)] (emE ls y ar u) (fun t=>t.con (v:Nat) 2 u) (300*(y.kids.size+1)) 2 _ (CxI.keeps _ _ _ _ _ _ _ _ _ _ _ _ _ _) ent_con1 ent_con2 w2 o2 rb lv ls ((cl_con1 nc N HP rb g (g+1) (g+3) k n nm x y (some ⟨b,off,none⟩) cap ar u lv ls hok hN2 hls hnc (by omega) (by omega)).mono (fun _ _ h=>h.1)) ((cl_con2 rb g (g+2) (g+3) ar u v lv ls hv (by omega)).mono (fun _ _ h=>⟨h.1.bw,h.2,h.1.ba⟩)) s2 hop hm2 hd2 hk2 X2 E2 K2
 clear hlen d1 NK Sy KD E1 hok hN1 hN2;go_enter Tryz.func78,Tryz.ntmps78;go_upto_region 1 with fail;rw[<-hw1,<-HG.out];clear hw1;go_region_held3 (fun wx=>wx.cell? ⟨g,0,none⟩=some (pt0 rb)/\wx.cell? ⟨g+1,3,none⟩=some (.slice (some ⟨b,off,none⟩) 2 cap)/\(wx.cell? ⟨b,off,none⟩=some (.int .i64 x.k)/\wx.cell? ⟨b,off+1,none⟩=some (.int .i64 x.n)/\wx.cell? ⟨b,off+2,none⟩=some (stv x.nm)/\wx.cell? ⟨b,off+3,none⟩=some (.slice ak x.kids.len ck))/\wx.cell? ⟨g+3,0,none⟩=some (.int .i64 (ar:Nat))/\wx.cell? ⟨g+3,1,none⟩=some (.int .i64 (u:Nat))) (go_keep) (first|(go_at_call 40;refine HC.mono ?_;rintro e w2 ⟨rfl,⟨o2,E2,S2⟩,g2⟩;obtain⟨cw',n3',⟨y0,y1,y2,y3⟩,a0',a1'⟩:=KK.out _ _ S2))
 all_goals
  have S3:=SD.trans S2;have HF:=FK w2 o2 _ ⟨K1.1.step S3 not0,K1.2.step S3 not0⟩ (X1.step S3 not0) E2 (by have:=g2.mes;omega) (g2.dp hd) (g2.ks.trans hks);clear FK HC KK K1;go_wp2_with (first|(go_at_call 79;refine HF.mono ?_;rintro e w4 ⟨rfl,⟨o4,E4,S4⟩,g4⟩))
  go_end0
  exact⟨rfl,⟨o4,E4,(S0.trans S3).trans S4⟩,(g2.trans g4).le (by omega)⟩
theorem cell_c (nc N:Nat)(HP:EPart nc N)(n:Int)(nm:List UInt8)(a:Int)(x:Ex)(ao:Option Addr)(cap ar u:Nat)(w:World)(o:Nat->Nat)(rb:Nat)(lv:Value)(ls:List Int)(s:Em)(hoe:okE nc ⟨26,n,nm,a,Fs.ex x .nil⟩)(hN1:x.kids.size<N)(hls:ls.length=nc)(hnc:nc<=256)(hu:u+3*(x.kids.size+1)<=1000000000)(har:ar+(x.kids.size+1)<=1000000000)(S:SnO w o (Fs.ex x .nil) ao)(hks:s.ks.length=ls.length)
  (hm:s.mes+(300*(x.kids.size+1)+2)<=100000000) (hd:s.dp<=1000000001) (X:EmX w o lv ls) (h:EmW w o rb lv s) :
  Calls Tryz.prog 82 #[pt0 rb,exN ⟨26,n,nm,a,Fs.ex x .nil⟩ ao cap,spV ar u] w (PosQ w o rb lv s (((emE ls x ar u ((s.cel n.toNat (kdE x)).lay 17 n.toNat 0)).lay 18 n.toNat 0).land s.ws.length) (300*(x.kids.size+1)+2)):=by
 have hok:okF nc (Fs.ex x .nil):=hoe.2;have hn:0<=n/\n<(nc:Int):=hoe.1.2.2.1 rfl;obtain⟨n0,hn0⟩:∃n0:Nat,(n0:Int)=n:=⟨n.toNat,by omega⟩
 subst hn0;rw[Int.toNat_natCast];have hkx:=kdE_bd (okF_ex hok).1;have hlen:(Fs.ex x .nil).len=1:=rfl;have HKO:=fun w2 (S2:SnA w2 (Fs.ex x .nil) ao)=>kindOf_c nc ((Fs.ex x .nil).size+1) ⟨26,(n0:Int),nm,a,Fs.ex x .nil⟩ ao cap w2 (by show (Fs.ex x .nil).size < _;omega) hoe S2;have hke:kdE ⟨26,(n0:Int),nm,a,Fs.ex x .nil⟩=kdE x:=by simp only[kdE,kdF_ex];simp[kdN]
 rw[exN_out,hke] at HKO;rw[exN_out];simp only at HKO ⊢;obtain⟨g,hg⟩:∃g,g=w.heap.size:=⟨_,rfl⟩
 obtain⟨w1,hw1⟩:∃w1,w1=(w.alloc (.cells #[.int .i64 26,.int .i64 (n0:Nat),stv nm,.slice ao (Fs.ex x .nil).len cap] 34)).alloc (.cells #[.int .i64 (ar:Nat),.int .i64 (u:Nat)] 86):=⟨_,rfl⟩
 obtain⟨z1,z2,z5,z6⟩:=al2 w (.cells #[.int .i64 26,.int .i64 (n0:Nat),stv nm,.slice ao (Fs.ex x .nil).len cap] 34) (.cells #[.int .i64 (ar:Nat),.int .i64 (u:Nat)] 86);rw[<-hw1,<-hg] at z1 z2 z5 z6;have s0:∀ {I:Nat->Prop},Step I w o w1 (newLab w o 0):=fun {I}=>stepN o (by rw[<-hg];exact z6);have hnl:∀ j,newLab w o 0 (g+j)=0:=fun j=>newLab_new (by omega);have K1:Blk w1 (newLab w o 0) 0 g (.cells #[.int .i64 26,.int .i64 (n0:Nat),stv nm,.slice ao (Fs.ex x .nil).len cap] 34)/\Blk w1 (newLab w o 0) 0 (g+1) (.cells #[.int .i64 (ar:Nat),.int .i64 (u:Nat)] 86):=⟨⟨z1,hnl 0⟩,⟨z2,hnl 1⟩⟩
 have SN1:=S.stepO (s0 (I:=fun _=>False)) id;have E1:=h.step (s0 (I:=fun _=>False)) noF;have X1:=X.step (s0 (I:=fun _=>False)) id;have S0:=s0 (I:=I17);generalize newLab w o 0=o1 at *;have HG:=Lib.hid hg;clear s0 hnl z1 z2 z5 z6 h X S hg;rw[hlen] at hw1 K1 HKO ⊢;have d1:Step (fun _=>False) w1 o1 w1.drew o1:=(Step.refl _ w1 o1).drew;have HK:=HKO w1.drew (SN1.all.below (Below.refl _ w1).drew);obtain⟨b,off,ak,ck,rfl,NN,Sy,NK⟩:=kidO (x:=.nil) SN1 0 rfl;obtain⟨h1,h2,h3,vw,vc,vn,vk,mc,mn,q0,q1,q2,q3,q4,q5,q6⟩:=E1;obtain⟨gk,capk,rfl,ogk,-,-,hgl,hck,hfk⟩:=q4.pos (by rw[hks,hls];omega);have hne1:rb≠gk:=fun e=>by have:=q0.2;rw[e,ogk] at this;cases this
 have hne2:g≠gk:=fun e=>by have:=K1.1.2;rw[e,ogk] at this;cases this
 have hn0:n0<s.ks.length:=by rw[hks,hls];omega
 have HS:Hid (∀ w2,Below w1.heap.size w1 w2->EmW (w2.setCell ⟨gk,n0,none⟩ (.int .i64 (kdE x))) o1 rb lv (s.cel n0 (kdE x))/\Step I17 w1 o1 (w2.setCell ⟨gk,n0,none⟩ (.int .i64 (kdE x))) o1):=fun w2 B=>by
  have x0:=Step.ofBelow (I:=fun _=>False) o1 B;have x1:Step (fun k=>k=5) w1 o1 (w2.setCell ⟨gk,n0,none⟩ (.int .i64 (kdE x))) o1:=(Step.ofBelow o1 B).setCell ⟨gk,n0,none⟩ _ ogk;refine⟨⟨h1,h2,h3,_,_,_,_,mc,mn,q0.step x1 (by decide),q1.step x1 (by decide),q2.step x1 (by decide),q3.step x1 (by decide),?_,q5.step x1 (by decide),q6.step x1 (by decide)⟩,x1.mono (I17_of (by decide))⟩;have r:=(q4.step x0 id).store n0 (.int .i64 (kdE x));have e2:eiV (s.cel n0 (kdE x)).ks=(eiV s.ks).set n0 (.int .i64 (kdE x)):=by simp[eiV,Em.cel]
  have e3:(s.cel n0 (kdE x)).ks.length=s.ks.length:=by simp[Em.cel]
  rw[e2,e3];exact r
 have KK:Hid (∀ w' o',Step I17 w1 o1 w' o'->w'.cell? ⟨g,0,none⟩=some (.int .i64 26)/\w'.cell? ⟨g,1,none⟩=some (.int .i64 (n0:Nat))/\w'.cell? ⟨g,2,none⟩=some (stv nm)/\w'.cell? ⟨g,3,none⟩=some (.slice (some ⟨b,off,none⟩) 1 cap)/\Nd4 w' b off x ak ck/\w'.cell? ⟨g+1,0,none⟩=some (.int .i64 (ar:Nat))/\w'.cell? ⟨g+1,1,none⟩=some (.int .i64 (u:Nat))):=fun w' o' S=>by
  obtain⟨⟨e0,e1,e2,e3⟩,-⟩:=cells4e (K1.1.step S not0).1;obtain⟨f0,f1⟩:=spot_box (K1.2.step S not0).1;exact⟨e0,e1,e2,e3,NK S not0,f0,f1⟩
 have FZ:Hid (∀ w2,Below w1.heap.size w1 w2->w2.cell? ⟨rb,3,none⟩=some (.slice (some ⟨gk,0,none⟩) s.ks.length capk)/\(∃v,w2.cell? ⟨gk,n0,none⟩=some v)/\w2.frozen? ⟨gk,n0,none⟩=false):=fun w2 B=>by
  refine⟨(B.cell (p:=⟨rb,3,none⟩) q0.lt).trans (cells8 q0.1).1.2.2.2.1,⟨.int .i64 (s.ks[n0]),?_⟩,?_⟩
  ·rw[B.cell (p:=⟨gk,n0,none⟩) hgl,hck n0 (by omega)];simp[eiV,hn0]
  ·have e:=B.block gk hgl
   have:=hfk n0
   unfold World.frozen? at this ⊢;rw[e];exact this
 obtain⟨r3,⟨vz,rz⟩,rf⟩:=FZ.out w1 (Below.refl _ _);obtain⟨r3',⟨vz',rz'⟩,rf'⟩:=FZ.out w1.drew (Below.refl _ w1).drew;obtain⟨c0,c1,c2,c3,⟨x0,x1,x2,x3⟩,a0,a1⟩:=KK.out _ _ (Step.refl I17 w1 o1);obtain⟨d0,d1',d2,d3,⟨y0,y1,y2,y3⟩,b0,b1⟩:=KK.out _ _ ((Step.refl I17 w1 o1).drew);have hnI:(n0:Int)<(s.ks.length:Int):=by omega
 have SyD:=Sy;have gc:=gr_cel s n0 (kdE x);have gl:=gr_lay (s.cel n0 (kdE x)) 17 n0 0;clear q0 q1 q2 q3 q4 q5 q6 h1 h2 h3 hck hfk NK SN1 HKO hke hlen NN;generalize hkk:kdE x=kx at *
 go_enter_defers Tryz.func82,Tryz.ntmps82
 go_upto_region 1 with fail;rw[<-hw1,<-HG.out];clear hw1;go_region_held3 (fun wx=>wx.cell? ⟨g,0,none⟩=some (.int .i64 26)/\wx.cell? ⟨g,1,none⟩=some (.int .i64 (n0:Nat))/\wx.cell? ⟨g,2,none⟩=some (stv nm)/\wx.cell? ⟨g,3,none⟩=some (.slice (some ⟨b,off,none⟩) 1 cap)/\wx.cell? ⟨rb,3,none⟩=some (.slice (some ⟨gk,0,none⟩) s.ks.length capk)) (go_keep) (first|(go_at_call 75;refine HK.mono ?_;rintro e w2 ⟨rfl,B2⟩;have BB2:=((Below.refl _ w1).drew).trans B2;obtain⟨e0,e1,e2,e3,-,-,-⟩:=KK.out _ _ (Step.ofBelow o1 BB2);obtain⟨t3,⟨tz,tr⟩,tf⟩:=FZ.out w2 BB2;obtain⟨m0,m1,m2,m3,-,-,-⟩:=KK.out _ _ (HS.out w2 BB2).2;have mr:=(World.cell?_of_block (a:=⟨rb,3,none⟩) (heap_setCell_other w2 ⟨gk,n0,none⟩ rb (.int .i64 kx) hne1)).trans t3))
 all_goals
  obtain⟨ES,SS⟩:=HS.out w2 BB2;clear HS FZ HK m0 m1 m2 m3 mr t3 tz tr tf e0 e1 e2 e3 r3 r3' rz rz' rf rf' c0 c1 c2 c3 d0 d1' d2 d3 x0 x1 x2 x3 y0 y1 y2 y3 a0 a1 b0 b1;generalize w2.setCell ⟨gk,n0,none⟩ (.int .i64 kx)=w3 at *;have XS:=X1.step SS not0;have HL:=lay_c 17 n0 0 w3 o1 rb lv ls (s.cel n0 kx) (by omega) (by omega) (by omega) (by have:=gc.mes;omega) XS ES;obtain⟨c0,c1,c2,c3,⟨x0,x1,x2,x3⟩,a0,a1⟩:=KK.out _ _ SS;go_upto_region 3 with (first|(go_at_call 41;refine HL.mono ?_;rintro e w4 ⟨rfl,o4,E4,S4⟩))
  have ST:=SS.trans S4;have d4:Step (fun _=>False) w4 o4 w4.drew o4:=(Step.refl _ w4 o4).drew;have D4:Step I17 w4 o4 w4.drew o4:=(Step.refl _ w4 o4).drew;have STD:=ST.trans D4;have HC:=HP x ak ck ar u w4.drew o4 rb lv ls ((s.cel n0 kx).lay 17 n0 0) hN1 (okF_ex hok).1 hls hnc (Sy.stepO STD not0) ((gc.trans gl).ks.trans hks) (by have:=(gc.trans gl).mes;omega) (by omega) (by omega) ((gc.trans gl).dp hd) (X1.step STD not0) (E4.step d4 noF);rw[exN_out] at HC;clear c0 c1 c2 c3 x0 x1 x2 x3 a0 a1 HL;obtain⟨c0,c1,c2,c3,⟨x0,x1,x2,x3⟩,a0,a1⟩:=KK.out _ _ ST;obtain⟨e0,e1,e2,e3,⟨y0,y1,y2,y3⟩,b0,b1⟩:=KK.out _ _ STD;go_region_held3 (fun wx=>wx.cell? ⟨g,3,none⟩=some (.slice (some ⟨b,off,none⟩) 1 cap)/\(wx.cell? ⟨b,off,none⟩=some (.int .i64 x.k)/\wx.cell? ⟨b,off+1,none⟩=some (.int .i64 x.n)/\wx.cell? ⟨b,off+2,none⟩=some (stv x.nm)/\wx.cell? ⟨b,off+3,none⟩=some (.slice ak x.kids.len ck))/\wx.cell? ⟨g+1,0,none⟩=some (.int .i64 (ar:Nat))/\wx.cell? ⟨g+1,1,none⟩=some (.int .i64 (u:Nat))) (go_keep) (first|(go_at_call 40;refine HC.mono ?_;rintro e w5 ⟨rfl,⟨o5,E5,S5⟩,g5⟩;obtain⟨m0,m1,m2,m3,⟨z0,z1,z2,z3⟩,h0,h1⟩:=KK.out _ _ (STD.trans S5)))
  all_goals
   have SU:=STD.trans S5;have g15:=(gc.trans gl).trans g5;have HL:=lay_c 18 n0 0 w5 o5 rb lv ls (emE ls x ar u ((s.cel n0 kx).lay 17 n0 0)) (by omega) (by omega) (by omega) (by have:=g15.mes;omega) (X1.step SU not0) E5;clear HC c0 c1 c2 c3 x0 x1 x2 x3 a0 a1 e0 e1 e2 e3 y0 y1 y2 y3 b0 b1;obtain⟨s5,hs5⟩:∃s5,s5=emE ls x ar u ((s.cel n0 kx).lay 17 n0 0):=⟨_,rfl⟩
   rw[<-hs5] at E5 g5 g15 HL;have HS5:=Lib.hid hs5;clear hs5;go_wp2_with (first|(go_at_call 41;refine HL.mono ?_;rintro e w6 ⟨rfl,o6,E6,S6⟩));have hwl:s.ws.length<(s5.lay 18 n0 0).ws.length:=by
    have h1:=g5.ws;have h2:((s.cel n0 kx).lay 17 n0 0).ws.length=s.ws.length+1:=by simp[Em.lay,Em.cel]
    have h3:(s5.lay 18 n0 0).ws.length=s5.ws.length+1:=by simp[Em.lay]
    omega
   have g6:=g15.trans (gr_lay s5 18 n0 0);have HD:=land_d s.ws.length .returning w6 o6 rb lv ls (s5.lay 18 n0 0) hwl (by have:=g6.mes;omega) (X1.step (SU.trans S6) not0) E6;refine leaves_cons (f:=126) (args:=#[.pointer (some ⟨rb,0,none⟩),.int .i64 (s.ws.length:Nat)]) (by simp) (by simp[go_sem,Em.cel]) ?_;refine HD.mono ?_;rintro e u' w7 ⟨rfl,rfl,o7,E7,S7⟩;exact⟨_,results_none rfl _ _ _,rfl,by rw[<-HS5.out];exact⟨⟨o7,E7,((S0.trans SU).trans S6).trans S7⟩,(g6.trans (gr_land _ _)).le (by omega)⟩⟩
end Go.Proofs.YtkhgahljbpmfaaaGreatDoor

import Derived.Test.YtbjdkekhnajafaaGreatDoorEmT
set_option maxRecDepth 100000
set_option maxHeartbeats 8000000
namespace Go.Proofs.YtbjdkekhnajafaaGreatDoor
open Go.ChangeShapes Go.WideShapes Go.ChangeAt Go.RowKit
set_option linter.unusedVariables false
set_option linter.unusedSimpArgs false
theorem sF:(Tryz.prog.info? 54).map (fun i=>(i.zero,i.size,i.bytes))=some (some (.int .u64 0),1,8):=by kernel_rfl
theorem oi:(Tryz.prog.info? 3).map (fun i=>(i.zero,i.size,i.bytes))=some (some (.int .i64 0),1,8):=by kernel_rfl
theorem rJ:(Tryz.prog.info? 9).map (fun i=>(i.zero,i.size,i.bytes))=some (some (.string ⟨#[]⟩),1,16):=by kernel_rfl
theorem ge (v:Value)(h:v.oneCell'=true):∀ u ∈ [v],u.oneCell'=true:=by
 intro u hu;simp at hu;subst hu;exact h
theorem noF:∀ k,I17 k->¬(fun _:Nat=>False) k:=fun _ _=>id
theorem bU (op a b:Nat)(w:World)(o:Nat->Nat)(rb:Nat)(lv:Value)(ls:List Int)(s:Em)(hop:op<=255)(ha:a<=268435455)(hb:b<=268435455)(hm:s.mes<=100000000)(X:EmX w o lv ls)(h:EmW w o rb lv s) :
  Calls Tryz.prog 47 #[.pointer (some ⟨rb,0,none⟩),.int .i64 (op:Nat),.int .i64 (a:Nat),.int .i64 (b:Nat)] w (j6 w o rb lv (s.lay op a b) (.int .i64 (s.ws.length:Nat))):=by
 obtain⟨h1,h2,h3,vw,vc,vn,vk,mc,mn,q0,q1,q2,q3,q4,q5,q6⟩:=h;obtain⟨ii,i1,i2,i3,i4⟩:=aH sF;obtain⟨⟨c0,c1,c2,c3,c4,c5,c6,c7⟩,cf⟩:=dZ q0.1;have HW:=qr (op:Int) (a:Int) (b:Int) w X.tab (by omega) (by omega) (by omega) (by omega) (by omega) (by omega);have hl:s.ws.length<=100000000:=by unfold Em.mes at hm;omega
 have hx:Hid ((⟨op,a,b⟩:Wo).ok):=⟨hop,ha,hb⟩
 have hn1:s.ws.length+1<=maxLen:=by unfold maxLen;omega
 have hn2:(s.ws.length+1)*8<=140737488355328:=by omega
 have he:(((op:Int)*268435456+(a:Int))*268435456+(b:Int))=eP ⟨op,a,b⟩:=rfl;rw[he] at HW;have hwv:Hid (woV (s.lay op a b).ws=woV s.ws++[.int .u64 (eP ⟨op,a,b⟩)]):=by show _=_;simp[woV,Em.lay]
 generalize eP ⟨op,a,b⟩=ev at *;have q1':=q1.step (aa.ofBelow (I:=fun _=>False) o (b1 w (.cells #[.int .u64 ev] 54))) id;clear he X hm;go_enter Tryz.func47,Tryz.ntmps47;go_wp2_with (first|(go_at_call 98;refine HW.mono ?_;rintro e w1 ⟨rfl,hww⟩;subst hww)|(at_builtin;refine aB rfl (.tmp 23) (.tmp 25) 39 rfl 54 ii (.int .u64 0) 1 8 Tryz.underlying39 i1 i2 i3 i4 rfl (by decide) o 2 vw s.ws.length (woV s.ws) rfl q1' ⟨w1.heap.size,0,none⟩ 1 1 [.int .u64 ev] rfl rfl (cL _ _ _) (ge _ rfl) (by decide) hn1 hn2 ?_)|go_in);intro g1 cp w2 o2 R2 S2;have s1:aa (fun k=>k=2) w1 o w2 o2:=(aa.ofBelow o (b1 w1 _)).trans S2;have p0:=q0.step s1 (by decide);have p2:=q2.step s1 (by decide);have p3:=q3.step s1 (by decide);have p4:=q4.step s1 (by decide);have p5:=q5.step s1 (by decide);have p6:=q6.step s1 (by decide);obtain⟨⟨d0,d1,d2,d3,d4,d5,d6,d7⟩,df⟩:=dZ p0.1;have df0:=df 0;have s3:aa (fun k=>k=1) w2 o2 (w2.setCell ⟨rb,0,none⟩ (.slice (some ⟨g1,0,none⟩) (s.ws.length+1) cp)) o2:=bT _ w2 o2 ⟨rb,0,none⟩ _ p0.2;have HF:Hid (EmW (w2.setCell ⟨rb,0,none⟩ (.slice (some ⟨g1,0,none⟩) (s.ws.length+1) cp)) o2 rb lv (s.lay op a b)/\aa I17 w1 o (w2.setCell ⟨rb,0,none⟩ (.slice (some ⟨g1,0,none⟩) (s.ws.length+1) cp)) o2):=by
  refine⟨⟨fun x hx2=>?_,h2,h3,_,vc,vn,vk,mc,mn,p0.set 0 _,?_,p2.step s3 (by decide),p3.step s3 (by decide),p4.step s3 (by decide),p5.step s3 (by decide),p6.step s3 (by decide)⟩,(s1.mono (cC (by decide))).trans (s3.mono (cC (by decide)))⟩
  ·rcases List.mem_append.1 hx2 with hx2|hx2
   ·exact h1 x hx2
   ·simp at hx2;rw[hx2];exact hx.out
  ·rw[hwv.out]
   have:=R2.step s3 (by decide)
   have e:(s.lay op a b).ws.length=s.ws.length+1:=by simp[Em.lay]
   rw[e];exact this
 have hsub:((s.ws.length+1:Nat):Int)-1=(s.ws.length:Int):=by omega
 clear s1 s3 R2 S2 p0 p2 p3 p4 p5 p6 q0 q1 q2 q3 q4 q5 q6 q1' HW c0 c1 c2 c3 c4 c5 c6 c7 cf;go_wp2;go_ret;exact⟨by first|rfl|(simp;done)|(congr 1;simp),o2,HF.out⟩
theorem qP (w:World)(o:Nat->Nat)(rb:Nat)(lv:Value)(s:Em)(h:EmW w o rb lv s) :
  Calls Tryz.prog 223 #[.pointer (some ⟨rb,0,none⟩)] w fun e w'=>e=.returned (.int .i64 (s.ws.length:Nat))/\w'=w:=by
 obtain⟨h1,h2,h3,vw,vc,vn,vk,mc,mn,q0,q1,-⟩:=h;obtain⟨⟨c0,c1,c2,c3,c4,c5,c6,c7⟩,cf⟩:=dZ q0.1;obtain⟨ao,cap,rfl⟩:=q1.form;clear q0 q1;go_enter Tryz.func223,Tryz.ntmps223;go_wp2;go_ret;exact⟨rfl,rfl⟩
abbrev spV (ar u:Nat):Value:=.agg #[.int .i64 (ar:Nat),.int .i64 (u:Nat)]
theorem io {w:World}{b:Nat}{x0 x1:Value}{t:TypeId}(h:w.heap[b]?=some (.cells #[x0,x1] t)):(w.cell? ⟨b,0,none⟩=some x0/\w.cell? ⟨b,1,none⟩=some x1)/\∀ j,w.frozen? ⟨b,j,none⟩=false:=by
 refine⟨⟨?_,?_⟩,fun j=>?_⟩<;>simp[World.cell?,World.frozen?,h]
theorem sw (op a b ar u:Nat)(w:World)(o:Nat->Nat)(rb:Nat)(lv:Value)(ls:List Int)(s:Em)(hop:op<=255)(ha:a<=268435455)(hb:b<=268435455)(hu:u<=1000000000)(hd:s.dp<=1000000001)(hm:s.mes<=100000000)(X:EmX w o lv ls)(h:EmW w o rb lv s) :
  Calls Tryz.prog 88 #[.pointer (some ⟨rb,0,none⟩),.int .i64 (op:Nat),.int .i64 (a:Nat),.int .i64 (b:Nat),spV ar u] w (j6 w o rb lv (s.push op a b u) (.tuple #[])):=by
 obtain⟨w1,hw1⟩:∃w1,w1=w.alloc (.cells #[.int .i64 (ar:Nat),.int .i64 (u:Nat)] 91):=⟨_,rfl⟩
 obtain⟨g,hg⟩:∃g,g=w.heap.size:=⟨_,rfl⟩
 have s0:∀ {I:Nat->Prop},aa I w o w1 (ae w o 0):=fun {I}=>by rw[hw1];exact aO I w o _
 have B1:Blk w1 (ae w o 0) 0 g (.cells #[.int .i64 (ar:Nat),.int .i64 (u:Nat)] 91):=by rw[hw1,hg];exact⟨heap_alloc_new _ _,ax (Nat.le_refl _)⟩
 have H1:=h.step (s0 (I:=fun _=>False)) noF;have X1:=X.step (s0 (I:=fun _=>False)) id;have S0:=s0 (I:=I17);generalize ae w o 0=o1 at *;have HL:=bU op a b w1 o1 rb lv ls s hop ha hb hm X1 H1;have HG:=Lib.hid hg;clear s0 h X hg H1 X1;go_enter Tryz.func88,Tryz.ntmps88;go_upto_region 1 with fail;rw[<-hw1,<-HG.out];clear hw1;go_upto_region 2 with (first|(go_at_call 47;refine HL.mono ?_;rintro e w2 ⟨rfl,o2,E2,S2⟩))
 have B2:=B1.step S2 (by decide);obtain⟨h1,h2,h3,vw,vc,vn,vk,mc,mn,q0,q1,q2,q3,q4,q5,q6⟩:=E2;have t3:aa (fun k=>k=1) w2 o2 (w2.setCell ⟨rb,7,none⟩ (.int .i64 (max s.dp (u+1):Nat))).drew o2:=((aa.refl _ w2 o2).setCell ⟨rb,7,none⟩ _ q0.2).drew;have HF:Hid (EmW (w2.setCell ⟨rb,7,none⟩ (.int .i64 (max s.dp (u+1):Nat))).drew o2 rb lv (s.push op a b u)/\aa I17 w o (w2.setCell ⟨rb,7,none⟩ (.int .i64 (max s.dp (u+1):Nat))).drew o2):=by
  have q0d:=(q0.set 7 (.int .i64 (max s.dp (u+1):Nat))).step ((aa.refl (fun _=>False) _ o2).drew) id;exact⟨⟨h1,h2,h3,vw,vc,vn,vk,mc,mn,q0d,q1.step t3 (by decide),q2.step t3 (by decide),q3.step t3 (by decide),q4.step t3 (by decide),q5.step t3 (by decide),q6.step t3 (by decide)⟩,(S0.trans S2).trans (t3.mono (cC (by decide)))⟩
 obtain⟨⟨c0,c1,c2,c3,c4,c5,c6,c7⟩,cf⟩:=dZ q0.1;obtain⟨⟨e0,e1⟩,-⟩:=io B2.1;have cf7:=cf 7;have hdp:(s.lay op a b).dp=s.dp:=rfl;rw[hdp] at c7;have hmx:(if (s.dp:Int)<(u:Int)+1 then (u:Int)+1 else (s.dp:Int))=((max s.dp (u+1):Nat):Int):=by split<;>omega
 have HMX:=Lib.hid hmx;have HMY:Hid (max (s.dp:Int) ((u:Int)+1)=((max s.dp (u+1):Nat):Int)):=by show _=_;omega
 clear t3 q0 q1 q2 q3 q4 q5 q6 B1 B2 HL S2 S0 hmx cf;go_region
 all_goals
  first|rw[HMX.out] | rw[HMY.out]
  go_end0
  exact⟨rfl,o2,HF.out⟩
theorem f6 (ar u v:Nat)(w:World)(hu:u<=1000000000)(hv:v<=1000000000) :
  Calls Tryz.prog 96 #[spV ar u,.int .i64 (v:Nat)] w fun e w'=>e=.returned (spV ar (u+v))/\Below w.heap.size w w':=by
 obtain⟨w1,hw1⟩:∃w1,w1=(w.alloc (.cells #[.int .i64 (ar:Nat),.int .i64 (u:Nat)] 91)).alloc (.cells #[.int .i64 0,.int .i64 0] 91):=⟨_,rfl⟩
 obtain⟨g,hg⟩:∃g,g=w.heap.size:=⟨_,rfl⟩
 have B1:Below g w w1:=by rw[hw1,hg];exact((Below.refl _ w).alloc (Nat.le_refl _) _).alloc (by simp) _
 have e0:w1.heap[g]?=some (.cells #[.int .i64 (ar:Nat),.int .i64 (u:Nat)] 91):=by rw[hw1,hg];exact(heap_alloc_old _ _ (by simp)).trans (heap_alloc_new _ _)
 have e1:w1.heap[g+1]?=some (.cells #[.int .i64 0,.int .i64 0] 91):=by
  have:=heap_alloc_new (w.alloc (.cells #[.int .i64 (ar:Nat),.int .i64 (u:Nat)] 91)) (.cells #[.int .i64 0,.int .i64 0] 91)
  rw[hw1,hg];simpa using this
 obtain⟨⟨c0,c1⟩,cf⟩:=io e0;obtain⟨⟨d0,d1⟩,df⟩:=io e1;have HG:=Lib.hid hg;clear hg;go_enter Tryz.func96,Tryz.ntmps96;go_upto_region 1 with fail;rw[<-hw1,<-HG.out];clear hw1;have z1:=heap_setCell_same _ (g+1) 1 #[.int .i64 (ar:Nat),.int .i64 0] _ (.int .i64 ((u:Int)+(v:Int))) (heap_setCell_same _ (g+1) 0 _ _ (.int .i64 (ar:Nat)) ((heap_setCell_other w1 ⟨g,1,none⟩ (g+1) (.int .i64 ((u:Int)+(v:Int))) (by simp)).trans e1));obtain⟨⟨m0,m1⟩,-⟩:=io z1;have BE:Hid (Below g w (((w1.setCell ⟨g,1,none⟩ (.int .i64 ((u:Int)+(v:Int)))).setCell ⟨g+1,0,none⟩ (.int .i64 (ar:Nat))).setCell ⟨g+1,1,none⟩ (.int .i64 ((u:Int)+(v:Int))))):=((B1.setCell (p:=⟨g,1,none⟩) (Nat.le_refl _) _).setCell (p:=⟨g+1,0,none⟩) (by show g<=g+1;omega) _).setCell (p:=⟨g+1,1,none⟩) (by show g<=g+1;omega) _;clear z1 B1 e0 e1;go_wp2;exact bodyPost_ret (v:=spV ar (u+v)) (by simp[results,Tryz.results96,go_sem,m0,m1]) rfl ⟨rfl,by rw[<-HG.out];exact BE.out⟩
theorem tS (k:Int)(w:World)(o:Nat->Nat)(rb:Nat)(lv:Value)(ls:List Int)(s:Em)(hk:-9223372036854775808<=k/\k<=9223372036854775807)(hm:s.mes<=100000000)(X:EmX w o lv ls)(h:EmW w o rb lv s) :
  Calls Tryz.prog 89 #[.pointer (some ⟨rb,0,none⟩),.int .i64 k] w (j6 w o rb lv (s.kc k) (.int .i64 (s.cs.idxOf k:Nat))):=by
 have h':=h;obtain⟨h1,h2,h3,vw,vc,vn,vk,mc,mn,q0,q1,q2,q3,q4,q5,q6⟩:=h;obtain⟨ii,i1,i2,i3,i4⟩:=aH oi;obtain⟨⟨c0,c1,c2,c3,c4,c5,c6,c7⟩,cf⟩:=dZ q0.1;obtain⟨ao,cap,rfl⟩:=q2.form;have hl:s.cs.length<=100000000:=by unfold Em.mes at hm;omega
 by_cases hin:k ∈ s.cs
 ·have hr:=q5.look k hk hin;have e:s.kc k=s:=by simp[Em.kc,hin]
  rw[e];have HF:=Lib.hid h';clear h' q0 q1 q2 q3 q4 q5 q6 e;go_enter Tryz.func89,Tryz.ntmps89;go_wp2;go_ret;exact⟨rfl,o,HF.out,aa.refl _ _ _⟩
 ·obtain⟨x,hr⟩:=q5.miss k hk hin;obtain⟨w1,hr2,M1,s1⟩:=q5.put k hk hin (by omega);have hn1:s.cs.length+1<=maxLen:=by unfold maxLen;omega
  have hn2:(s.cs.length+1)*8<=140737488355328:=by omega
  have p0:=q0.step s1 (by decide);have pr:=(q2.step s1 (by decide)).step (aa.ofBelow (I:=fun _=>False) o (b1 w1 (.cells #[.int .i64 k] 3))) id;obtain⟨⟨d0,d1,d2,d3,d4,d5,d6,d7⟩,df⟩:=dZ p0.1;have HX:Hid (s.kc k=⟨s.ws,s.cs++[k],s.ns,s.ks,s.dp⟩/\s.cs.idxOf k=s.cs.length):=⟨by simp[Em.kc,hin],jd hin⟩
  clear X;go_enter Tryz.func89,Tryz.ntmps89;go_wp2_with (first|(at_builtin;refine aB rfl (.tmp 35) (.tmp 37) 35 rfl 3 ii (.int .i64 0) 1 8 Tryz.underlying35 i1 i2 i3 i4 rfl (by decide) o 3 (.slice ao s.cs.length cap) s.cs.length (eiV s.cs) rfl pr ⟨w1.heap.size,0,none⟩ 1 1 [.int .i64 k] rfl rfl (cL _ _ _) (ge _ rfl) (by decide) hn1 hn2 ?_)|go_in);intro g1 cp w2 o2 R2 S2;have s2:aa (fun k=>k=3) w1 o w2 o2:=(aa.ofBelow o (b1 w1 _)).trans S2;have r0:=p0.step s2 (by decide);obtain⟨⟨d0,d1,d2,d3,d4,d5,d6,d7⟩,df⟩:=dZ r0.1;have df0:=df 1;have s3:aa (fun k=>k=1) w2 o2 (w2.setCell ⟨rb,1,none⟩ (.slice (some ⟨g1,0,none⟩) (s.cs.length+1) cp)) o2:=bT _ w2 o2 ⟨rb,1,none⟩ _ r0.2;have HF:Hid (EmW (w2.setCell ⟨rb,1,none⟩ (.slice (some ⟨g1,0,none⟩) (s.cs.length+1) cp)) o2 rb lv (s.kc k)/\aa I17 w o (w2.setCell ⟨rb,1,none⟩ (.slice (some ⟨g1,0,none⟩) (s.cs.length+1) cp)) o2):=by
   rw[HX.out.1];refine⟨⟨h1,?_,h3,vw,_,vn,vk,mc,mn,r0.set 1 _,((q1.step s1 (by decide)).step s2 (by decide)).step s3 (by decide),?_,((q3.step s1 (by decide)).step s2 (by decide)).step s3 (by decide),((q4.step s1 (by decide)).step s2 (by decide)).step s3 (by decide),(M1.step s2 (by decide)).step s3 (by decide),((q6.step s1 (by decide)).step s2 (by decide)).step s3 (by decide)⟩,((s1.mono (cC (by decide))).trans (s2.mono (cC (by decide)))).trans (s3.mono (cC (by decide)))⟩
   ·intro y hy;rcases List.mem_append.1 hy with hy|hy
    ·exact h2 y hy
    ·simp at hy;rw[hy];exact hk
   ·have:=R2.step s3 (by decide)
    have e:(s.cs++[k]).length=s.cs.length+1:=by simp
    have e2:eiV (s.cs++[k])=eiV s.cs++[.int .i64 k]:=by simp[eiV]
    rw[e,e2];exact this
  have HI:Hid (s.cs.idxOf k=s.cs.length):=HX.out.2;clear s1 s2 s3 R2 S2 p0 pr r0 q0 q1 q2 q3 q4 q5 q6 hr hr2 M1 HX;go_wp2;go_ret;exact⟨by rw[HI.out];rfl,o2,HF.out⟩
theorem xW (k:List UInt8)(w:World)(o:Nat->Nat)(rb:Nat)(lv:Value)(ls:List Int)(s:Em)(hk:k.length<=maxLen)(hm:s.mes<=100000000)(X:EmX w o lv ls)(h:EmW w o rb lv s) :
  Calls Tryz.prog 157 #[.pointer (some ⟨rb,0,none⟩),stv k] w (j6 w o rb lv (s.kn k) (.int .i64 (s.ns.idxOf k:Nat))):=by
 have h':=h;obtain⟨h1,h2,h3,vw,vc,vn,vk,mc,mn,q0,q1,q2,q3,q4,q5,q6⟩:=h;obtain⟨ii,i1,i2,i3,i4⟩:=aH rJ;obtain⟨⟨c0,c1,c2,c3,c4,c5,c6,c7⟩,cf⟩:=dZ q0.1;obtain⟨ao,cap,rfl⟩:=q3.form;have hl:s.ns.length<=100000000:=by unfold Em.mes at hm;omega
 by_cases hin:k ∈ s.ns
 ·have hr:=q6.look k hk hin;have e:s.kn k=s:=by simp[Em.kn,hin]
  rw[e];have HF:=Lib.hid h';clear h' q0 q1 q2 q3 q4 q5 q6 e;go_enter Tryz.func157,Tryz.ntmps157;go_wp2;go_ret;exact⟨rfl,o,HF.out,aa.refl _ _ _⟩
 ·obtain⟨x,hr⟩:=q6.miss k hk hin;obtain⟨w1,hr2,M1,s1⟩:=q6.put k hk hin (by omega);have hn1:s.ns.length+1<=maxLen:=by unfold maxLen;omega
  have hn2:(s.ns.length+1)*16<=140737488355328:=by omega
  have p0:=q0.step s1 (by decide);have pr:=(q3.step s1 (by decide)).step (aa.ofBelow (I:=fun _=>False) o (b1 w1 (.cells #[stv k] 9))) id;obtain⟨⟨d0,d1,d2,d3,d4,d5,d6,d7⟩,df⟩:=dZ p0.1;have HX:Hid (s.kn k=⟨s.ws,s.cs,s.ns++[k],s.ks,s.dp⟩/\s.ns.idxOf k=s.ns.length):=⟨by simp[Em.kn,hin],jd hin⟩
  clear X;go_enter Tryz.func157,Tryz.ntmps157;go_wp2_with (first|(at_builtin;refine aB rfl (.tmp 35) (.tmp 37) 40 rfl 9 ii (.string ⟨#[]⟩) 1 16 Tryz.underlying40 i1 i2 i3 i4 rfl (by decide) o 4 (.slice ao s.ns.length cap) s.ns.length (esV s.ns) rfl pr ⟨w1.heap.size,0,none⟩ 1 1 [stv k] rfl rfl (cL _ _ _) (ge _ rfl) (by decide) hn1 hn2 ?_)|go_in);intro g1 cp w2 o2 R2 S2;have s2:aa (fun k=>k=4) w1 o w2 o2:=(aa.ofBelow o (b1 w1 _)).trans S2;have r0:=p0.step s2 (by decide);obtain⟨⟨d0,d1,d2,d3,d4,d5,d6,d7⟩,df⟩:=dZ r0.1;have df0:=df 2;have s3:aa (fun k=>k=1) w2 o2 (w2.setCell ⟨rb,2,none⟩ (.slice (some ⟨g1,0,none⟩) (s.ns.length+1) cp)) o2:=bT _ w2 o2 ⟨rb,2,none⟩ _ r0.2;have HF:Hid (EmW (w2.setCell ⟨rb,2,none⟩ (.slice (some ⟨g1,0,none⟩) (s.ns.length+1) cp)) o2 rb lv (s.kn k)/\aa I17 w o (w2.setCell ⟨rb,2,none⟩ (.slice (some ⟨g1,0,none⟩) (s.ns.length+1) cp)) o2):=by
   rw[HX.out.1];refine⟨⟨h1,h2,?_,vw,vc,_,vk,mc,mn,r0.set 2 _,((q1.step s1 (by decide)).step s2 (by decide)).step s3 (by decide),((q2.step s1 (by decide)).step s2 (by decide)).step s3 (by decide),?_,((q4.step s1 (by decide)).step s2 (by decide)).step s3 (by decide),((q5.step s1 (by decide)).step s2 (by decide)).step s3 (by decide),(M1.step s2 (by decide)).step s3 (by decide)⟩,((s1.mono (cC (by decide))).trans (s2.mono (cC (by decide)))).trans (s3.mono (cC (by decide)))⟩
   ·intro y hy;rcases List.mem_append.1 hy with hy|hy
    ·exact h3 y hy
    ·simp at hy;rw[hy];exact hk
   ·have:=R2.step s3 (by decide)
    have e:(s.ns++[k]).length=s.ns.length+1:=by simp
    have e2:esV (s.ns++[k])=esV s.ns++[stv k]:=by simp[esV]
    rw[e,e2];exact this
  have HI:Hid (s.ns.idxOf k=s.ns.length):=HX.out.2;clear s1 s2 s3 R2 S2 p0 pr r0 q0 q1 q2 q3 q4 q5 q6 hr hr2 M1 HX;go_wp2;go_ret;exact⟨by rw[HI.out];rfl,o2,HF.out⟩
theorem aE {w:World}{g:Nat}{ar u:Nat}(h:w.heap[g]?=some (.cells #[.int .i64 (ar:Nat),.int .i64 (u:Nat)] 91)):w.cell? ⟨g,0,none⟩=some (.int .i64 (ar:Nat))/\w.cell? ⟨g,1,none⟩=some (.int .i64 (u:Nat)):=(io h).1
theorem bY (n:Int)(kd ar u:Nat)(w:World)(o:Nat->Nat)(rb:Nat)(lv:Value)(ls:List Int)(s:Em)(hn:-9223372036854775808<=n/\n<=9223372036854775807)(hk:kd<=268435455)(hu:u<=1000000000)(hd:s.dp<=1000000001)(hm:s.mes<=99999998)(X:EmX w o lv ls)(h:EmW w o rb lv s) :
  Calls Tryz.prog 86 #[.pointer (some ⟨rb,0,none⟩),.int .i64 n,.int .i64 (kd:Nat),spV ar u] w (j6 w o rb lv (s.con n kd u) (.tuple #[])):=by
 obtain⟨w1,hw1⟩:∃w1,w1=w.alloc (.cells #[.int .i64 (ar:Nat),.int .i64 (u:Nat)] 91):=⟨_,rfl⟩
 obtain⟨g,hg⟩:∃g,g=w.heap.size:=⟨_,rfl⟩
 have s0:∀ {I:Nat->Prop},aa I w o w1 (ae w o 0):=fun {I}=>by rw[hw1];exact aO I w o _
 have B1:Blk w1 (ae w o 0) 0 g (.cells #[.int .i64 (ar:Nat),.int .i64 (u:Nat)] 91):=by rw[hw1,hg];exact⟨heap_alloc_new _ _,ax (Nat.le_refl _)⟩
 have H1:=h.step (s0 (I:=fun _=>False)) noF;have X1:=X.step (s0 (I:=fun _=>False)) id;have S0:=s0 (I:=I17);generalize ae w o 0=o1 at *;have HG:=Lib.hid hg;have kd1:=s.mes_kc n;have kd2:s.cs.idxOf n<=268435455:=by
  have:=List.idxOf_le_length (a:=n) (l:=s.cs)
  unfold Em.mes at hm;omega
 clear s0 h X hg;go_enter Tryz.func86,Tryz.ntmps86;go_upto_region 1 with fail;rw[<-hw1,<-HG.out];clear hw1;have d1:aa (fun _=>False) w1 o1 w1.drew o1:=(aa.refl _ w1 o1).drew;have HC:=tS n w1.drew o1 rb lv ls s hn (by omega) (X1.step d1 id) (H1.step d1 noF);have B1d:=B1.step d1 id;have SD:aa I17 w o w1.drew o1:=S0.trans ((aa.refl _ w1 o1).drew);have HP:∀ w2 o2,EmW w2 o2 rb lv (s.kc n)->EmX w2 o2 lv ls->Calls Tryz.prog 88 #[.pointer (some ⟨rb,0,none⟩),.int .i64 1,.int .i64 (s.cs.idxOf n:Nat),.int .i64 (kd:Nat),spV ar u] w2 (j6 w2 o2 rb lv (s.con n kd u) (.tuple #[])):=fun w2 o2 E2 X2=>sw 1 (s.cs.idxOf n) kd ar u w2 o2 rb lv ls (s.kc n) (by omega) kd2 hk hu hd (by omega) X2 E2;obtain⟨a0,a1⟩:=aE B1.1;obtain⟨b0,b1⟩:=aE B1d.1;have XD:=X1.step d1 id;clear H1 X1 d1 S0 B1;go_region_held3 (fun wx=>wx.cell? ⟨g,0,none⟩=some (.int .i64 (ar:Nat))/\wx.cell? ⟨g,1,none⟩=some (.int .i64 (u:Nat))) (go_keep) (first|(go_at_call 89;refine HC.mono ?_;rintro e w2 ⟨rfl,o2,E2,S2⟩;obtain⟨b0,b1⟩:=aE (B1d.step S2 (by decide)).1;have HP2:=HP w2 o2 E2 (XD.step S2 (by decide)))|(go_at_call 88;refine HP2.mono ?_;rintro e w3 ⟨rfl,o3,E3,S3⟩;obtain⟨b0,b1⟩:=aE ((B1d.step S2 (by decide)).step S3 (by decide)).1))
 all_goals
  go_end0
  exact⟨rfl,o3,E3,(SD.trans S2).trans S3⟩
structure Grw (s s':Em)(n:Nat):Prop where
 mes:s'.mes<=s.mes+n
 ws:s.ws.length<=s'.ws.length
 ks:s'.ks.length=s.ks.length
 dp:s.dp<=1000000001->s'.dp<=1000000001
theorem Grw.trans {a b c:Em}{n m:Nat}(h:Grw a b n)(k:Grw b c m):Grw a c (n+m):=⟨by have:=h.mes;have:=k.mes;omega,Nat.le_trans h.ws k.ws,k.ks.trans h.ks,fun x=>k.dp (h.dp x)⟩
theorem Grw.le {a b:Em}{n m:Nat}(h:Grw a b n)(hm:n<=m):Grw a b m:=⟨by have:=h.mes;omega,h.ws,h.ks,h.dp⟩
theorem bF (s:Em)(op a b:Nat):Grw s (s.lay op a b) 1:=⟨by rw[Em.mes_lay];omega,by simp[Em.lay],rfl,id⟩
theorem kZ (s:Em)(i:Nat):Grw s (s.land i) 0:=⟨by rw[Em.mes_land];omega,by simp[Em.land],rfl,id⟩
theorem Cv (s:Em)(i:Nat)(k:Int):Grw s (s.cel i k) 0:=⟨Nat.le_refl _,Nat.le_refl _,by simp[Em.cel],id⟩
theorem eC (s:Em)(n:Int)(kd u:Nat)(hu:u<=1000000000):Grw s (s.con n kd u) 2:=⟨s.mes_con n kd u,by simp[Em.con,Em.push,Em.kc],rfl,fun h=>by show max s.dp (u+1)<=_;omega⟩
def lA (w:World)(o:Nat->Nat)(rb:Nat)(lv:Value)(s s':Em)(n:Nat)(e:Ending)(w':World):Prop:=e=.returned (.tuple #[])/\(∃o',EmW w' o' rb lv s'/\aa I17 w o w' o')/\Grw s s' n
theorem D2 {x:Wo}{n:Nat}(h:x.ok)(hn:n<=268435455):(x.to n).ok:=by
 obtain⟨h1,h2,h3⟩:=h;unfold Wo.to;split
 ·exact⟨h1,h2,hn⟩
 ·exact⟨h1,hn,h3⟩
theorem nH {l:List Wo}{i:Nat}(h:i<l.length)(f:Wo->Wo):l.modify i f=l.set i (f (l[i])):=by
 apply List.ext_getElem?;intro j;rw[List.getElem?_modify,List.getElem?_set];by_cases e:i=j
 ·subst e;simp[h]
 ·simp[e]
theorem nV (i:Nat)(u:FrameMode)(w:World)(o:Nat->Nat)(rb:Nat)(lv:Value)(ls:List Int)(s:Em)(hi:i<s.ws.length)(hm:s.mes<=100000000)(X:EmX w o lv ls)(h:EmW w o rb lv s) :
  CallsD Tryz.prog 150 #[.pointer (some ⟨rb,0,none⟩),.int .i64 (i:Nat)] u w fun e u' w'=>u'=u/\j6 w o rb lv (s.land i) (.tuple #[]) e w':=by
 have h':=h;obtain⟨h1,h2,h3,vw,vc,vn,vk,mc,mn,q0,q1,q2,q3,q4,q5,q6⟩:=h;obtain⟨⟨c0,c1,c2,c3,c4,c5,c6,c7⟩,cf⟩:=dZ q0.1;obtain⟨g,cap,rfl,og,-,-,hgl,hc,hf⟩:=q1.pos (by omega);have hx:=h1 s.ws[i] (List.getElem_mem hi);have ci:w.cell? ⟨g,i,none⟩=some (.int .u64 (eP s.ws[i])):=by
  rw[hc i (by omega)];simp[woV,hi]
 have bd:=zw hx;have pt:=rI hx;have HP:=uj (eP s.ws[i]) w X.tab bd.1 bd.2;rw[pt.1,pt.2.1,pt.2.2] at HP;have hl:s.ws.length<=100000000:=by unfold Em.mes at hm;omega
 have ho:=D2 hx (n:=s.ws.length) (by omega);have HS:Hid (∀ w',Below w.heap.size w w'->EmW (w'.setCell ⟨g,i,none⟩ (.int .u64 (eP (s.ws[i].to s.ws.length)))).drew o rb lv (s.land i)/\aa I17 w o (w'.setCell ⟨g,i,none⟩ (.int .u64 (eP (s.ws[i].to s.ws.length)))).drew o):=fun w' B=>by
  have x0:=aa.ofBelow (I:=fun _=>False) o B;have r1:=((q1.step x0 id).store i (.int .u64 (eP (s.ws[i].to s.ws.length)))).step ((aa.refl (fun _=>False) _ o).drew) id;have x1:aa (fun k=>k=2) w o (w'.setCell ⟨g,i,none⟩ (.int .u64 (eP (s.ws[i].to s.ws.length)))).drew o:=((aa.ofBelow o B).setCell ⟨g,i,none⟩ _ og).drew;have e:(s.land i).ws=s.ws.set i (s.ws[i].to s.ws.length):=nH hi _;refine⟨⟨fun x hx2=>?_,h2,h3,_,vc,vn,vk,mc,mn,q0.step x1 (by decide),?_,q2.step x1 (by decide),q3.step x1 (by decide),q4.step x1 (by decide),q5.step x1 (by decide),q6.step x1 (by decide)⟩,x1.mono (cC (by decide))⟩
  ·rw[e] at hx2;rcases List.mem_or_eq_of_mem_set hx2 with hx2|hx2
   ·exact h1 x hx2
   ·rw[hx2];exact ho
  ·have e2:woV (s.land i).ws=(woV s.ws).set i (.int .u64 (eP (s.ws[i].to s.ws.length))):=by rw[e];simp[woV]
   have e3:(s.land i).ws.length=s.ws.length:=by rw[e];simp
   rw[e2,e3];exact r1
 have HW:∀ (a b:Nat) (wx:World),Tab wx->a<=268435455->b<=268435455->Calls Tryz.prog 98 #[.int .i64 (s.ws[i].op:Nat),.int .i64 (a:Nat),.int .i64 (b:Nat)] wx fun e w'=>e=.returned (.tuple #[.int .u64 (eP ⟨s.ws[i].op,a,b⟩),.int .i64 0])/\w'=wx:=fun a b wx T ha hb=>qr (s.ws[i].op:Int) (a:Int) (b:Int) wx T (by omega) (by have:=hx.1;omega) (by omega) (by omega) (by omega) (by omega);have HN:∀ w',Below w.heap.size w w'->Calls Tryz.prog 223 #[.pointer (some ⟨rb,0,none⟩)] w' fun e w''=>e=.returned (.int .i64 (s.ws.length:Nat))/\w''=w':=fun w' B=>qP w' o rb lv s (h'.below B);have hiI:(i:Int)<(s.ws.length:Int):=by omega
 have hfx:Hid (∀ w',Below w.heap.size w w'->w'.cell? ⟨rb,0,none⟩=some (.slice (some ⟨g,0,none⟩) s.ws.length cap)/\w'.cell? ⟨g,i,none⟩=some (.int .u64 (eP s.ws[i]))/\w'.frozen? ⟨g,i,none⟩=false/\Tab w'):=fun w' B=>by
  refine⟨(B.cell (p:=⟨rb,0,none⟩) q0.lt).trans c0,(B.cell (p:=⟨g,i,none⟩) hgl).trans ci,?_,(X.below B).tab⟩;have e:=B.block g hgl
  have:=hf i
  unfold World.frozen? at this ⊢;rw[e];exact this
 have htn:∀ x:Wo,x.to s.ws.length=if x.op=17 then ⟨x.op,x.a,s.ws.length⟩ else ⟨x.op,s.ws.length,x.b⟩:=fun x=>rfl;rw[htn] at HS;clear htn ho X q0 q1 q2 q3 q4 q5 q6 h' c1 c2 c3 c4 c5 c6 c7 cf hc hf pt bd h1 h2 h3 hm;obtain⟨hx1,hx2,hx3⟩:=hx;generalize hxx:s.ws[i]=x at *;clear hxx;obtain⟨op,a,b⟩:=x;simp only at HP HW HS hx1 hx2 hx3
 go_enter_d Tryz.func150,Tryz.ntmps150
 go_upto_region 1 with (first|(go_at_call 169;refine HP.mono ?_;rintro e w1 ⟨rfl,B1⟩))
 have HN1:=HN w1 B1;obtain⟨d0,d1,d2,d3⟩:=hfx.out w1 B1;obtain⟨e0,e1,e2,e3⟩:=hfx.out w1.drew B1.drew;by_cases hop:op=17
 ·subst hop;rw[if_pos rfl] at HS;have HZ:=Lib.hid (HS.out w1 B1);have HW1:=HW a s.ws.length w1.drew e3 hx2 (by omega);generalize eP ⟨17,a,s.ws.length⟩=ev at *;clear HS HP HN hfx HW;go_upto_region 4 with (first|(go_at_call 223;refine HN1.mono ?_;rintro e w2 ⟨rfl,hww⟩;subst hww))
  go_region_with (first|(go_at_call 98;refine HW1.mono ?_;rintro e w3 ⟨rfl,hww⟩;subst hww))
  all_goals
   go_end0
   exact⟨rfl,o,HZ.out⟩
 ·rw[if_neg hop] at HS;have HZ:=Lib.hid (HS.out w1 B1);have HW1:=HW s.ws.length b w1.drew e3 (by omega) hx3;have hopI:¬(op:Int)=17:=by omega
  generalize eP ⟨op,s.ws.length,b⟩=ev at *;clear HS HP HN hfx HW hop;go_upto_region 4 with (first|(go_at_call 223;refine HN1.mono ?_;rintro e w2 ⟨rfl,hww⟩;subst hww))
  go_region_with (first|(go_at_call 98;refine HW1.mono ?_;rintro e w3 ⟨rfl,hww⟩;subst hww))
  all_goals
   go_end0
   exact⟨rfl,o,HZ.out⟩
def kK (rb:Nat)(lv:Value)(ls:List Int)(K:World->(Nat->Nat)->Prop)(F:FuncId)(c:Array Value)(t:Em->Em)(n:Nat):Prop :=
 ∀ w o s,EmX w o lv ls->EmW w o rb lv s->K w o->s.mes+n<=100000000->s.dp<=1000000001->s.ks.length=ls.length->Calls Tryz.prog F c w (lA w o rb lv s (t s) n)
abbrev lG (K:World->(Nat->Nat)->Prop):Prop:=∀ {w o w' o'},K w o->aa I17 w o w' o'->K w' o'
abbrev Ent (F:FuncId):Prop:=∀ (args:Array Value) (w:World),(callFunc F args).run Tryz.prog w=.ok (.enter F args) w
theorem qQ (op:Nat)(F:FuncId)(c:Array Value)(t:Em->Em)(n:Nat)(K:World->(Nat->Nat)->Prop)(hK:lG K)(HE:Ent F)(w:World)(o:Nat->Nat)(rb:Nat)(lv:Value)(ls:List Int)(H:kK rb lv ls K F c t n)(s:Em)(hop:op<=255)(hm:s.mes+n+2<=100000000)(hd:s.dp<=1000000001)(hks:s.ks.length=ls.length)(X:EmX w o lv ls)(h:EmW w o rb lv s)(k:K w o) :
  Calls Tryz.prog 151 #[.pointer (some ⟨rb,0,none⟩),.int .i64 (op:Nat),.func (.func F) #[] c] w fun e w'=>e=.returned (.int .i64 ((t (s.lay op 0 0)).ws.length:Nat))/\(∃o',EmW w' o' rb lv (((t (s.lay op 0 0)).lay 13 0 0).land s.ws.length)/\aa I17 w o w' o')/\Grw s (((t (s.lay op 0 0)).lay 13 0 0).land s.ws.length) (n+2)/\Grw (s.lay op 0 0) (t (s.lay op 0 0)) n:=by
 have HL:=bU op 0 0 w o rb lv ls s hop (by omega) (by omega) (by omega) X h;have g1:=bF s op 0 0
 go_enter_defers Tryz.func151,Tryz.ntmps151
 go_upto_region 2 with (first|(go_at_call 47;refine HL.mono ?_;rintro e w1 ⟨rfl,o1,E1,S1⟩))
 have X1:=X.step S1 (by decide);have HC:=H w1 o1 (s.lay op 0 0) X1 E1 (hK k S1) (by have:=g1.mes;omega) (g1.dp hd) (g1.ks.trans hks);clear HL;go_wp2_with fail;refine HC.mono ?_;rintro e w2 ⟨rfl,⟨o2,E2,S2⟩,g2⟩;have hw1:(s.lay op 0 0).ws.length=s.ws.length+1:=by simp[Em.lay]
 have g3:=bF (t (s.lay op 0 0)) 13 0 0;have X2:=X1.step S2 (by decide);have HL2:=bU 13 0 0 w2 o2 rb lv ls (t (s.lay op 0 0)) (by omega) (by omega) (by omega) (by have:=g1.mes;have:=g2.mes;omega) X2 E2;clear HC HE;obtain⟨s2,hs2⟩:∃s2,s2=t (s.lay op 0 0):=⟨_,rfl⟩
 rw[<-hs2] at E2 g2 g3 HL2;have HS2:=Lib.hid hs2;clear hs2;go_wp2_with fail;refine HL2.mono ?_;rintro e w3 ⟨rfl,o3,E3,S3⟩;have X3:=X2.step S3 (by decide);have hlt:s.ws.length<(s2.lay 13 0 0).ws.length:=by have:=g2.ws;have:=g3.ws;omega
 have HD:=nV s.ws.length .returning w3 o3 rb lv ls (s2.lay 13 0 0) hlt (by have:=g1.mes;have:=g2.mes;have:=g3.mes;omega) X3 E3;have HF:Hid (∀ w4 o4,EmW w4 o4 rb lv ((s2.lay 13 0 0).land s.ws.length)->aa I17 w3 o3 w4 o4->(∃o',EmW w4 o' rb lv ((s2.lay 13 0 0).land s.ws.length)/\aa I17 w o w4 o')/\Grw s ((s2.lay 13 0 0).land s.ws.length) (n+2)/\Grw (s.lay op 0 0) s2 n):=fun w4 o4 E4 S4 =>
  ⟨⟨o4,E4,((S1.trans S2).trans S3).trans S4⟩,(((g1.trans g2).trans g3).trans (kZ _ _)).le (by omega),g2⟩
 clear HL2;go_wp2;refine leaves_cons (f:=150) (args:=#[.pointer (some ⟨rb,0,none⟩),.int .i64 (s.ws.length:Nat)]) (by simp) (by simp[go_sem]) ?_;refine HD.mono ?_;rintro e u' w4 ⟨rfl,rfl,o4,E4,S4⟩;exact⟨_,results_tmp rfl _ _ _,by rw[<-HS2.out];rfl,by rw[<-HS2.out];exact HF.out w4 o4 E4 S4⟩
theorem qY (op:Nat)(F1 F2:FuncId)(c1 c2:Array Value)(t1 t2:Em->Em)(n1 n2:Nat)(K:World->(Nat->Nat)->Prop)(hK:lG K)(HE1:Ent F1)(HE2:Ent F2)(w:World)(o:Nat->Nat)(rb:Nat)(lv:Value)(ls:List Int)(H1:kK rb lv ls K F1 c1 t1 n1)(H2:kK rb lv ls K F2 c2 t2 n2)(s:Em)(hop:op<=255)(hm:s.mes+(n1+n2+2)<=100000000)(hd:s.dp<=1000000001)(hks:s.ks.length=ls.length)(X:EmX w o lv ls)(h:EmW w o rb lv s)(k:K w o) :
  Calls Tryz.prog 91 #[.pointer (some ⟨rb,0,none⟩),.int .i64 (op:Nat),.func (.func F1) #[] c1,.func (.func F2) #[] c2] w (lA w o rb lv s (s.fork op t1 t2) (n1+n2+2)):=by
 have HW:=qQ op F1 c1 t1 n1 K hK HE1 w o rb lv ls H1 s hop (by omega) hd hks X h k;have hfk:Hid (s.fork op t1 t2=(t2 (((t1 (s.lay op 0 0)).lay 13 0 0).land s.ws.length)).land (t1 (s.lay op 0 0)).ws.length):=rfl;have hw1:(s.lay op 0 0).ws.length=s.ws.length+1:=by simp[Em.lay]
 have hw2:((((t1 (s.lay op 0 0)).lay 13 0 0).land s.ws.length)).ws.length=(t1 (s.lay op 0 0)).ws.length+1:=by simp[Em.lay,Em.land]
 go_enter_defers Tryz.func91,Tryz.ntmps91
 go_upto_region 1 with (first|(go_at_call 151;refine HW.mono ?_;rintro e w1 ⟨rfl,⟨o1,E1,S1⟩,g1,g1b⟩))
 clear HW;generalize ((t1 (s.lay op 0 0)).lay 13 0 0).land s.ws.length=s1 at *;generalize (t1 (s.lay op 0 0)).ws.length=j at *;have X1:=X.step S1 (by decide);have HC:=H2 w1 o1 s1 X1 E1 (hK k S1) (by have:=g1.mes;omega) (g1.dp hd) (g1.ks.trans hks);go_wp2_with fail;refine HC.mono ?_;rintro e w2 ⟨rfl,⟨o2,E2,S2⟩,g2⟩;have X2:=X1.step S2 (by decide);clear HC HE2;generalize t2 s1=s2 at *;have HD:=nV j .returning w2 o2 rb lv ls s2 (by have:=g2.ws;omega) (by have:=g1.mes;have:=g2.mes;omega) X2 E2;have HF:Hid (∀ w4 o4,EmW w4 o4 rb lv (s2.land j)->aa I17 w2 o2 w4 o4->(∃o',EmW w4 o' rb lv (s.fork op t1 t2)/\aa I17 w o w4 o')/\Grw s (s.fork op t1 t2) (n1+n2+2)):=fun w4 o4 E4 S4=>by
  rw[hfk.out];exact⟨⟨o4,E4,(S1.trans S2).trans S4⟩,((g1.trans g2).trans (kZ _ _)).le (by omega)⟩
 go_wp2;refine leaves_cons (f:=150) (args:=#[.pointer (some ⟨rb,0,none⟩),.int .i64 (j:Nat)]) (by simp) (by simp[go_sem]) ?_;refine HD.mono ?_;rintro e u' w4 ⟨rfl,rfl,o4,E4,S4⟩;exact⟨_,results_none rfl _ _ _,rfl,HF.out w4 o4 E4 S4⟩
theorem qO (n:Int)(w:World):Calls Tryz.prog 146 #[.int .i64 n] w fun e w'=>e=.returned (.int .i64 (qk n))/\w'=w:=by
 by_cases h1:n=1
 ·subst h1;go_enter Tryz.func146,Tryz.ntmps146;go_wp2;go_ret;exact⟨rfl,rfl⟩
 ·by_cases h2:n=2
  ·subst h2;go_enter Tryz.func146,Tryz.ntmps146;go_wp2;go_ret;exact⟨rfl,rfl⟩
  ·by_cases h3:n=10
   ·subst h3;go_enter Tryz.func146,Tryz.ntmps146;go_wp2;go_ret;exact⟨rfl,rfl⟩
   ·have e:qk n=1:=by simp[qk,h1,h2,h3]
    rw[e];go_enter Tryz.func146,Tryz.ntmps146;go_wp2;go_ret;exact⟨rfl,rfl⟩
theorem pU (n:Int)(w:World):Calls Tryz.prog 147 #[.int .i64 n] w fun e w'=>e=.returned (.int .i64 (qi n))/\w'=w:=by
 by_cases h1:n=1
 ·subst h1;go_enter Tryz.func147,Tryz.ntmps147;go_wp2;go_ret;exact⟨rfl,rfl⟩
 ·by_cases h2:n=2
  ·subst h2;go_enter Tryz.func147,Tryz.ntmps147;go_wp2;go_ret;exact⟨rfl,rfl⟩
  ·have e:qi n=1:=by simp[qi,h1,h2]
   rw[e];go_enter Tryz.func147,Tryz.ntmps147;go_wp2;go_ret;exact⟨rfl,rfl⟩
theorem ju {f:Fs}(h:f.len=1):∃x,f=Fs.ex x .nil:=by
 cases f using Fs.on with
 | nil=>simp[Fs.len] at h
 | cons k n nm a ks r =>
  cases r using Fs.on with
  | nil=>exact⟨⟨k,n,nm,a,ks⟩,rfl⟩
  | cons=>simp[Fs.len] at h
theorem eq {f:Fs}(h:f.len=2):∃x y,f=Fs.ex x (Fs.ex y .nil):=by
 cases f using Fs.on with
 | nil=>simp[Fs.len] at h
 | cons k n nm a ks r =>
  obtain⟨y,rfl⟩:=ju (f:=r) (by simp[Fs.len] at h;exact h);exact⟨⟨k,n,nm,a,ks⟩,y,rfl⟩
theorem gZ {f:Fs}(h:f.len=3):∃x y z,f=Fs.ex x (Fs.ex y (Fs.ex z .nil)):=by
 cases f using Fs.on with
 | nil=>simp[Fs.len] at h
 | cons k n nm a ks r =>
  obtain⟨y,z,rfl⟩:=eq (f:=r) (by simp[Fs.len] at h;exact h);exact⟨⟨k,n,nm,a,ks⟩,y,z,rfl⟩
theorem gX {k n:Int}{nm:List UInt8}{len:Nat}(h:aD k n nm len=true):(k=19->len=3)/\(k=26->len=1)/\(8<=k->k<=18->len=2)/\(k=21->len=2/\1<=n/\n<=6)/\(k=20->1<=n/\n<=10)/\(k=5\/k=3->0<=n)/\(k=22\/k=23->len=0)/\(k=1\/k=2\/k=3\/k=5->len=0):=by
 unfold aD at h;refine⟨fun e=>?_,fun e=>?_,fun e1 e2=>?_,fun e=>?_,fun e=>?_,fun e=>?_,fun e=>?_,fun e=>?_⟩
 ·subst e;simp at h;omega
 ·subst e;simp at h;omega
 ·rw[if_neg (by omega),if_neg (by omega),if_neg (by omega),if_neg (by omega),if_pos (by omega)] at h;simp at h;omega
 ·subst e;simp at h;omega
 ·subst e;simp at h;omega
 ·rcases e with rfl|rfl<;>simp at h<;>omega
 ·rcases e with rfl|rfl<;>simp at h<;>omega
 ·rcases e with rfl|rfl|rfl|rfl<;>simp at h<;>omega
theorem sR {P:Nat->Prop}{w:World}{y:Ex}{r:Fs}{ao:Option Addr}(h:SlN w P (Fs.ex y r) ao):∃b off ak ck,ao=some ⟨b,off,none⟩/\w.cell? ⟨b,off,none⟩=some (.int .i64 y.k)/\w.cell? ⟨b,off+1,none⟩=some (.int .i64 y.n)/\w.cell? ⟨b,off+2,none⟩=some (stv y.nm)/\w.cell? ⟨b,off+3,none⟩=some (.slice ak y.kids.len ck)/\SlN w P y.kids ak:=by
 obtain⟨b,off,ak,ck,h1,h2,h3,h4,h5,h6⟩:=SlN.kidP (x:=.nil) (r:=r) (y:=y) h 0 rfl;exact⟨b,off,ak,ck,h1,h2,h3,h4,h5,h6⟩
theorem BJ {P:Nat->Prop}{w:World}{x y:Ex}{r:Fs}{ao:Option Addr}(h:SlN w P (Fs.ex x (Fs.ex y r)) ao):∃b off ak ck,ao=some ⟨b,off,none⟩/\w.cell? ⟨b,off+4,none⟩=some (.int .i64 y.k)/\w.cell? ⟨b,off+5,none⟩=some (.int .i64 y.n)/\w.cell? ⟨b,off+6,none⟩=some (stv y.nm)/\w.cell? ⟨b,off+7,none⟩=some (.slice ak y.kids.len ck)/\SlN w P y.kids ak:=by
 obtain⟨b,off,ak,ck,h1,h2,h3,h4,h5,h6⟩:=SlN.kidP (x:=one x) (r:=r) (y:=y) h 1 rfl;exact⟨b,off,ak,ck,h1,h2,h3,h4,h5,h6⟩
theorem as {w:World}{b:Nat}{x0 x1 x2 x3:Value}{t:TypeId}(h:w.heap[b]?=some (.cells #[x0,x1,x2,x3] t)):(w.cell? ⟨b,0,none⟩=some x0/\w.cell? ⟨b,1,none⟩=some x1/\w.cell? ⟨b,2,none⟩=some x2/\w.cell? ⟨b,3,none⟩=some x3)/\∀ j,w.frozen? ⟨b,j,none⟩=false:=by
 refine⟨⟨?_,?_,?_,?_⟩,fun j=>?_⟩<;>simp[World.cell?,World.frozen?,h]
theorem aK {nc:Nat}{x:Ex}{r:Fs}(h:okF nc (Fs.ex x r)):okE nc x/\okF nc r:=⟨⟨h.1,h.2.1⟩,h.2.2⟩
theorem aV (x:Ex)(r:Fs):(Fs.ex x r).size=x.kids.size+r.size+1:=rfl
theorem iD (x:Ex)(r:Fs):kdF (Fs.ex x r)=kdE x::kdF r:=rfl
theorem gL (nc N:Nat):∀ (e:Ex) (ao:Option Addr) (cap:Nat) (w:World),e.kids.size<N->okE nc e->SnA w e.kids ao ->
  Calls Tryz.prog 87 #[exN e ao cap] w fun r w'=>r=.returned (.int .i64 (kdE e))/\Below w.heap.size w w':=by
 induction N with
 | zero=>intro e ao cap w hs;omega
 | succ N ih =>
  intro e ao cap w hs ho S;obtain⟨k,n,nm,a,ks⟩:=e;obtain⟨⟨hd,-,-⟩,hk⟩:=ho;simp only at hs hd hk S;rw[ah];simp only;have hdl:=gX hd;by_cases h19:k=19
  ·subst h19;have hlen:ks.len=3:=hdl.1 rfl;rw[hlen];obtain⟨x,y,z,hks⟩:=gZ hlen;have S':=S;rw[hks] at S' hk hs;obtain⟨w1,hw1⟩:∃w1,w1=w.alloc (.cells #[.int .i64 19,.int .i64 n,stv nm,.slice ao 3 cap] 34):=⟨_,rfl⟩
   obtain⟨g,hg⟩:∃g,g=w.heap.size:=⟨_,rfl⟩
   have B1:Below w.heap.size w w1:=by rw[hw1];exact b1 _ _
   have C1:w1.heap[g]?=some (.cells #[.int .i64 19,.int .i64 n,stv nm,.slice ao 3 cap] 34):=by rw[hw1,hg];exact heap_alloc_new _ _
   obtain⟨⟨c0,c1,c2,c3⟩,-⟩:=as C1;have HG:=Lib.hid hg;have HB:=Lib.hid B1;obtain⟨b,off,ak,ck,rfl,x0,x1,x2,x3,Sy⟩:=BJ (S'.below B1);have hv:kdE ⟨19,n,nm,a,ks⟩=kdE y:=by simp only[kdE,hks,iD];simp[kdN]
   rw[hv];have HC:=ih y ak ck w1 (by simp only[aV] at hs;omega) (aK (aK hk).2).1 Sy;rw[ah] at HC;clear B1 S S' hks hk hs hg C1 hv hdl hd;go_enter Tryz.func87,Tryz.ntmps87;go_upto_region 1 with fail;rw[<-hw1,<-HG.out];clear hw1;go_wp2_with fail;refine HC.mono ?_;rintro r w2 ⟨rfl,B2⟩;go_wp2;go_ret;exact⟨rfl,HB.out.trans (B2.mono HB.out.size)⟩
  by_cases h26:k=26
  ·subst h26;have hlen:ks.len=1:=hdl.2.1 rfl;rw[hlen];obtain⟨x,hks⟩:=ju hlen;have S':=S;rw[hks] at S' hk hs;obtain⟨w1,hw1⟩:∃w1,w1=w.alloc (.cells #[.int .i64 26,.int .i64 n,stv nm,.slice ao 1 cap] 34):=⟨_,rfl⟩
   obtain⟨g,hg⟩:∃g,g=w.heap.size:=⟨_,rfl⟩
   have B1:Below w.heap.size w w1:=by rw[hw1];exact b1 _ _
   have C1:w1.heap[g]?=some (.cells #[.int .i64 26,.int .i64 n,stv nm,.slice ao 1 cap] 34):=by rw[hw1,hg];exact heap_alloc_new _ _
   obtain⟨⟨c0,c1,c2,c3⟩,-⟩:=as C1;have HG:=Lib.hid hg;have HB:=Lib.hid B1;obtain⟨b,off,ak,ck,rfl,x0,x1,x2,x3,Sy⟩:=sR (S'.below B1);have hv:kdE ⟨26,n,nm,a,ks⟩=kdE x:=by simp only[kdE,hks,iD];simp[kdN]
   rw[hv];have HC:=ih x ak ck w1 (by simp only[aV] at hs;omega) (aK hk).1 Sy;rw[ah] at HC;clear B1 S S' hks hk hs hg C1 hv hdl hd;go_enter Tryz.func87,Tryz.ntmps87;go_upto_region 1 with fail;rw[<-hw1,<-HG.out];clear hw1;go_wp2_with fail;refine HC.mono ?_;rintro r w2 ⟨rfl,B2⟩;go_wp2;go_ret;exact⟨rfl,HB.out.trans (B2.mono HB.out.size)⟩
  by_cases h20:k=20
  ·subst h20;have hv:kdE ⟨20,n,nm,a,ks⟩=qk n:=by simp[kdE,kdN]
   rw[hv];obtain⟨w1,hw1⟩:∃w1,w1=w.alloc (.cells #[.int .i64 20,.int .i64 n,stv nm,.slice ao ks.len cap] 34):=⟨_,rfl⟩
   obtain⟨g,hg⟩:∃g,g=w.heap.size:=⟨_,rfl⟩
   have B1:Below w.heap.size w w1:=by rw[hw1];exact b1 _ _
   have C1:w1.heap[g]?=some (.cells #[.int .i64 20,.int .i64 n,stv nm,.slice ao ks.len cap] 34):=by rw[hw1,hg];exact heap_alloc_new _ _
   obtain⟨⟨c0,c1,c2,c3⟩,-⟩:=as C1;have HG:=Lib.hid hg;have HB:=Lib.hid B1;have HC:=qO n w1;clear B1 S hk hs hg C1 hv hdl hd;go_enter Tryz.func87,Tryz.ntmps87;go_upto_region 1 with fail;rw[<-hw1,<-HG.out];clear hw1;go_wp2_with fail;refine HC.mono ?_;rintro r w2 ⟨rfl,hww⟩;subst hww;go_wp2;go_ret;exact⟨rfl,HB.out⟩
  by_cases h21:k=21
  ·subst h21;have hv:kdE ⟨21,n,nm,a,ks⟩=qi n:=by simp[kdE,kdN]
   rw[hv];obtain⟨w1,hw1⟩:∃w1,w1=w.alloc (.cells #[.int .i64 21,.int .i64 n,stv nm,.slice ao ks.len cap] 34):=⟨_,rfl⟩
   obtain⟨g,hg⟩:∃g,g=w.heap.size:=⟨_,rfl⟩
   have B1:Below w.heap.size w w1:=by rw[hw1];exact b1 _ _
   have C1:w1.heap[g]?=some (.cells #[.int .i64 21,.int .i64 n,stv nm,.slice ao ks.len cap] 34):=by rw[hw1,hg];exact heap_alloc_new _ _
   obtain⟨⟨c0,c1,c2,c3⟩,-⟩:=as C1;have HG:=Lib.hid hg;have HB:=Lib.hid B1;have HC:=pU n w1;clear B1 S hk hs hg C1 hv hdl hd;go_enter Tryz.func87,Tryz.ntmps87;go_upto_region 1 with fail;rw[<-hw1,<-HG.out];clear hw1;go_wp2_with fail;refine HC.mono ?_;rintro r w2 ⟨rfl,hww⟩;subst hww;go_wp2;go_ret;exact⟨rfl,HB.out⟩
  have hc:k=1\/k=2\/k=3\/k=5\/k=6\/k=7\/k=8\/k=9\/k=10\/k=11\/k=12\/k=13\/k=14\/k=15\/k=16\/k=17\/k=18\/k=22\/k=23\/k=24\/k=25:=by
   have:=dI hd
   omega
  obtain⟨w1,hw1⟩:∃w1,w1=w.alloc (.cells #[.int .i64 k,.int .i64 n,stv nm,.slice ao ks.len cap] 34):=⟨_,rfl⟩
  obtain⟨g,hg⟩:∃g,g=w.heap.size:=⟨_,rfl⟩
  have B1:Below w.heap.size w w1:=by rw[hw1];exact b1 _ _
  have C1:w1.heap[g]?=some (.cells #[.int .i64 k,.int .i64 n,stv nm,.slice ao ks.len cap] 34):=by rw[hw1,hg];exact heap_alloc_new _ _
  obtain⟨⟨c0,c1,c2,c3⟩,-⟩:=as C1;have HG:=Lib.hid hg;have HB:=Lib.hid B1;clear B1 S hk hs hg C1 hd hdl ih h19 h26 h20 h21;rcases hc with rfl|rfl|rfl|rfl|rfl|rfl|rfl|rfl|rfl|rfl|rfl|rfl|rfl|rfl|rfl|rfl|rfl|rfl|rfl|rfl|rfl
  all_goals
   go_enter Tryz.func87,Tryz.ntmps87;go_upto_region 1 with fail;rw[<-hw1,<-HG.out];clear hw1;go_wp2;go_ret;exact⟨rfl,HB.out⟩
end Go.Proofs.YtbjdkekhnajafaaGreatDoor

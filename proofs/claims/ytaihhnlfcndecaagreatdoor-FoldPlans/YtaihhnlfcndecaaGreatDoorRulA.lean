import Derived.Test.YtaihhnlfcndecaaGreatDoorNovC
set_option maxRecDepth 100000
set_option maxHeartbeats 8000000
namespace Go.Proofs.YtaihhnlfcndecaaGreatDoor
open Go.ChangeShapes Go.WideShapes Go.ChangeAt Go.RowKit
set_option linter.unusedVariables false
set_option linter.unusedSimpArgs false
theorem overplan_c (Y:Ex)(ay:Option Addr)(cy:Nat)(v:Value)(C2:List Int)(n0 g:Nat)(w:World)(hlen:Y.kids.len<=1000000000)(hsh:Y.kids.short)(hcl:C2.length<=1000000000)(hn:n0<=w.heap.size)(S:SlcN w (fun k=>n0<=k/\k≠g) Y.kids ay cy)(hown:w.ownsRow 0 3 1 v C2.length (C2.map (Value.int .i64)))(hk:∀ k,v.ownBlock=some k->k=g/\n0<=k) :
  Calls Tryz.prog 21 #[plV Y ay cy v] w fun x w'=>x=.returned (.tuple #[])/\Below n0 w w':=by
 obtain ⟨ii,hii,hzi0,hzi1,hzi2⟩:=info_parts infoInt;obtain ⟨o,ho⟩:∃o:Nat->Nat,o=fun k=>if v.ownBlock=some k then 5 else 0:=⟨_,rfl⟩
 have R:Row w o 5 3 1 v C2.length (C2.map (Value.int .i64)):=⟨hown,fun k hk=>by rw[ho];simp only;rw[if_pos hk]⟩
 have LO:Hid (∀ k,k<n0->o k=0):=fun k hkn=>by
  rw[ho];simp only;rw[if_neg];intro h
  have:=(hk k h).2
  omega
 obtain ⟨av,cw,hv⟩:=R.form;have HT:Hid (∀ k,o k=5->k<w.heap.size->∃cur,w.heap[k]?=some (.cells cur 3 (0,0))):=fun k hk5 hkl=>by
  rw[ho] at hk5;simp only at hk5
  split at hk5
  ·rename_i h1
   rcases hown.2 with ⟨h2,-⟩|⟨g',cap,cur,h2,hb,hgg,rest⟩
   ·rw[h2] at h1;simp[Value.ownBlock] at h1
   ·rw[h2] at h1;simp[Value.ownBlock] at h1;subst h1;exact ⟨cur,hgg⟩
  ·cases hk5
 have HN:Hid (o w.heap.size≠5):=fun h=>by
  rw[ho] at h;simp only at h
  split at h
  ·rename_i h1
   exact absurd (R.lt h1) (Nat.lt_irrefl _)
  ·cases h
 clear ho hown;subst hv;obtain ⟨w0,hw0⟩:∃w0,w0=w.alloc (.cells #[.int .i64 Y.k,.int .i64 Y.n,stv Y.nm,.slice ay Y.kids.len cy,.slice av C2.length cw] 37):=⟨_,rfl⟩;have B0:Below w.heap.size w w0:=by rw[hw0];exact (Below.refl _ w).alloc (Nat.le_refl _) _
 have E0:w0.heap[w.heap.size]?=some (.cells #[.int .i64 Y.k,.int .i64 Y.n,stv Y.nm,.slice ay Y.kids.len cy,.slice av C2.length cw] 37 (0,0)):=by rw[hw0];exact heap_alloc_new w _
 have S0:SwN n0 w.heap.size w0 Y.kids ay cy:=(SlcN.sw (S.mono (fun _ _ _=>rfl) (Nat.le_refl _) (fun k hp _=>hp.1))).ov (OvN.ofBelow B0 (Nat.le_refl _))
 have c1:=overn_ok (Y.kids.size+1) Y.k Y.n ⟨Y.nm.toArray⟩ Y.kids ay cy n0 w.heap.size w0 (by omega) hlen hsh B0.size S0
 have c1:Calls Tryz.prog 45 #[.agg #[.int .i64 Y.k,.int .i64 Y.n,stv Y.nm,.slice ay Y.kids.len cy]] w0 (PostOn n0 w.heap.size w0):=c1;rw[plV_out];go_enter Tryz.func21,Tryz.ntmps21;go_upto_region 1 with fail;rw[<-hw0];clear hw0;obtain ⟨p0,p1,p2,p3,p4,pf⟩:=box5 E0;go_wp2_with fail;refine c1.mono ?_;rintro x w1 ⟨rfl,o1⟩;have E1:w1.heap[w.heap.size]?=some (.cells #[.int .i64 Y.k,.int .i64 Y.n,stv Y.nm,.slice ay Y.kids.len cy,.slice av C2.length cw] 37 (0,0)):=(o1.blk _ (lt_of_block E0) (.inr (Nat.le_refl _))).trans E0;have s1:Step (fun k=>k≠5/\k≠0) w (fun k=>if o k=5 then 5 else if k<n0\/w.heap.size<=k then 0 else 1) w1 (fun k=>if o k=5 then 5 else if k<n0\/w.heap.size<=k then 0 else 1):=by
  refine ⟨o1.os.trans B0.os,o1.tape.trans B0.tape,o1.output.trans B0.output,Nat.le_trans B0.size o1.size,fun _ _=>rfl,fun k hkl hnn=>?_⟩
  by_cases h5:o k=5
  ·obtain ⟨cur,hcur⟩:=HT.out k h5 hkl;have h0:=(B0.block k hkl).trans hcur;refine ((o1.oth k _ (Nat.lt_of_lt_of_le hkl B0.size) h0 ?_)).trans hcur.symm;intro cur' he;injection he with he1 he2
   exact absurd he2 (by decide)
  ·by_cases h6:k<n0
   ·exact (o1.blk k (Nat.lt_of_lt_of_le hkl B0.size) (.inl h6)).trans (B0.block k hkl)
   ·exact absurd (by rw[if_neg h5,if_neg (by omega)];decide) hnn
 have R1:Row w1 (fun k=>if o k=5 then 5 else if k<n0\/w.heap.size<=k then 0 else 1) 5 3 1 (.slice av C2.length cw) C2.length (C2.map (Value.int .i64)) :=
  Row.step (w:=w) ⟨R.1,fun k hk=>by show (if o k=5 then 5 else if k<n0\/w.heap.size<=k then 0 else 1)=5;rw[if_pos (R.2 k hk)]⟩ s1 (by simp)
 have B1:Below n0 w w1:=⟨s1.os,s1.tape,s1.output,s1.size,fun k hkn=>s1.block k (by omega) (by show ¬((if o k=5 then 5 else if k<n0\/w.heap.size<=k then 0 else 1)≠5/\(if o k=5 then 5 else if k<n0\/w.heap.size<=k then 0 else 1)≠0);rw[if_neg (by rw[LO.out k hkn];decide),if_pos (.inl hkn)];decide)⟩
 have hob:o w.heap.size≠5:=HN.out;have X1:Blk w1 (fun k=>if o k=5 then 5 else if k<n0\/w.heap.size<=k then 0 else 1) 0 w.heap.size (.cells #[.int .i64 Y.k,.int .i64 Y.n,stv Y.nm,.slice ay Y.kids.len cy,.slice av C2.length cw] 37):=⟨E1,by show (if o w.heap.size=5 then 5 else if w.heap.size<n0\/w.heap.size<=w.heap.size then 0 else 1)=0;rw[if_neg hob,if_pos (.inr (Nat.le_refl _))]⟩
 have L2:Hid (∀ k,k<n0->(fun k=>if o k=5 then 5 else if k<n0\/w.heap.size<=k then 0 else 1) k≠5):=fun k hkn=>by show (if o k=5 then 5 else if k<n0\/w.heap.size<=k then 0 else 1)≠5;rw[if_neg (by rw[LO.out k hkn];decide),if_pos (.inl hkn)];decide
 clear c1 o1 s1 E0 E1 B0 S0 S R HT LO HN hk hob p0 p1 p2 p3 p4 pf;generalize (fun k=>if o k=5 then 5 else if k<n0\/w.heap.size<=k then 0 else 1)=o2 at *
 obtain ⟨bx,hbx⟩:∃bx,bx=w.heap.size:=⟨_,rfl⟩;rw[<-hbx] at X1 hn
 try rw[<-hbx]
 have HB:Hid (bx=w.heap.size):=hbx;clear hbx;go_wp2
 go_loopw [2] (fun vi wr=>∃(i:Nat) (xs:List Value),vi=.int .i64 (i:Nat)/\i<=C2.length/\Row wr o2 5 3 1 (.slice av C2.length cw) C2.length xs/\Blk wr o2 0 bx (.cells #[.int .i64 Y.k,.int .i64 Y.n,stv Y.nm,.slice ay Y.kids.len cy,.slice av C2.length cw] 37)/\Below n0 w wr) (fun vi _=>C2.length - (intOf vi).toNat)
 case atStart=>exact ⟨0,_,by show _=Value.int .i64 ((0:Nat):Int);rfl,by omega,R1,X1,B1⟩
 case round =>
  clear R1 X1 B1;obtain ⟨i,xs,rfl,hi,R1,X1,B1⟩:=hrel;obtain ⟨p0,p1,p2,p3,p4,pf⟩:=box5 X1.1;have hxl:=R1.len;by_cases hlt:i<C2.length
  ·obtain ⟨g',cap',hv,hg5,hc1,hc2,hgl,hc,hfz⟩:=R1.pos (by omega)
   injection hv with hv1 hv2 hv3
   subst hv1;subst hv3;have hltI:(i:Int)<(C2.length:Int):=by omega
   obtain ⟨u0,hcell⟩:∃u0,wr.cell? ⟨g',i,none⟩=some u0:=⟨xs[i]'(by omega),by rw[hc i (by omega)];exact List.getElem?_eq_getElem _⟩
   have hfi:=hfz i;have s2:Step (fun k=>k=5) wr o2 (wr.setCell ⟨g',i,none⟩ (.int .i64 (-9))) o2:=setStep _ wr o2 ⟨g',i,none⟩ _ hg5
   have R2:=R1.store i (.int .i64 (-9));have X2:=X1.step s2 (by decide)
   have B2:Below n0 w (wr.setCell ⟨g',i,none⟩ (.int .i64 (-9))):=below_stepB B1 s2 (fun k hk=>L2.out k hk) (by rw[<-HB.out];exact hn)
   clear hc hfz hxl R1 X1 B1 s2 hv2;go_wp2
   go_roundw
   case rel=>(try ((repeat apply Exists.intro);refine ⟨?_,rfl⟩));exact ⟨i+1,_,by go_num,by omega,R2,X2,B2⟩
   case measure=>simp[intOf];omega
  ·have hltI:¬(i:Int)<(C2.length:Int):=by omega
   have s2:=boxStep (fun _=>False) wr o2 (.cells #[.int .i64 (-8)] 3)
   have R2:=R1.step s2 id;have hone:∀ u ∈ [Value.int .i64 (-8)],u.oneCell'=true:=by intro u hu;simp at hu;subst hu;rfl
   have q1:C2.length+1<=maxLen:=by unfold maxLen;omega
   have q2:(C2.length+1)*8<=140737488355328:=by omega
   have hwr:=X1.lt;have B2:Below n0 w (wr.alloc (.cells #[.int .i64 (-8)] 3)):=B1.alloc (by omega) _
   have L3:Hid (∀ k,k<n0->newLab wr o2 0 k≠5):=fun k hk=>by rw[newLab_old (by omega)];exact L2.out k hk
   clear hxl s2 R1 B1;go_wp2_with (first|(at_builtin;refine wpList_append_lab rfl (.tmp 19) (.tmp 20) 35 rfl 3 ii (.int .i64 0) 1 8 Tryz.underlying35 hii hzi0 hzi1 hzi2 rfl (by decide) (newLab wr o2 0) 5 _ C2.length xs rfl R2 ⟨wr.heap.size,0,none⟩ 1 1 [.int .i64 (-8)] rfl rfl (new_one wr _ _) hone (by decide) q1 q2 ?_)|go_in)
   intro g9 c9 w9 o9 r9 s9;have B9:=below_stepB B2 s9 (fun k hk=>L3.out k hk) (by rw[<-HB.out];exact hn)
   have hg9:n0<=g9:=by
    rcases Nat.lt_or_ge g9 n0 with h|h
    ·have h1:o9 g9=5:=r9.2 g9 rfl;rw[s9.lab g9 (by simp;omega)] at h1
     exact absurd h1 (L3.out g9 h)
    ·exact h
   have hxl9:=r9.len;obtain ⟨g',cap',hv,-,hc1,hc2,hgl,hc,hfz⟩:=r9.pos (by omega)
   injection hv with hv1 hv2 hv3
   injection hv1 with hv1
   injection hv1 with hv1
   subst hv1;subst hv3;obtain ⟨u0,hcell⟩:∃u0,w9.cell? ⟨g9,C2.length,none⟩=some u0:=⟨(xs++[Value.int .i64 (-8)])[C2.length]'(by omega),by rw[hc C2.length (by omega)];exact List.getElem?_eq_getElem _⟩
   have hfi:=hfz C2.length;have HZ:Hid (Below n0 w (w9.setCell ⟨g9,C2.length,none⟩ (.int .i64 1))):=B9.setCell hg9 _;have hwI:IntKind.i64.wrap (((C2.length+1:Nat):Int) - 1)=(C2.length:Int):=by rw[IntKind.wrap_i64];omega
   clear hc hfz hxl9 r9 s9 B9 B2 R2 L3 hv2;go_wp2
   go_end0
   exact ⟨rfl,HZ.out⟩
def fltP (k a b:Int):Int:=match rckP k a b with
 | some _=>0
 | none=>if (k=11\/k=12)/\b=0 then 4 else 1
def wrV (k a b:Int):Value:=.tuple #[.int .i64 ((rckP k a b).getD 0),.int .i64 (fltP k a b)]
theorem ov_wr {k a b x:Int}(h:rckP k a b=okI x)(hn:¬((k=11\/k=12)/\b=0)):wrV k a b=ovV x:=by
 unfold wrV fltP ovV;rw[h,if_neg hn];unfold okI;cases inI x <;> rfl
theorem tr_wr {k a b x:Int}(h:rckP k a b=some x):wrV k a b=.tuple #[.int .i64 x,.int .i64 0]:=by
 unfold wrV fltP;rw[h];rfl
theorem qu_wr (a b:Int):wrV 11 a b=quV a b:=by
 unfold quV;by_cases h:b=0
 ·rw[if_pos h];unfold wrV fltP;rw[show rckP 11 a b=none by simp[rckP,h],if_pos ⟨.inl rfl,h⟩]
  rfl
 ·rw[if_neg h];exact ov_wr (by simp[rckP,h]) (fun hh=>h hh.2)
theorem re_wr (a b:Int):wrV 12 a b=reV a b:=by
 unfold reV;by_cases h:b=0
 ·rw[if_pos h];unfold wrV fltP;rw[show rckP 12 a b=none by simp[rckP,h],if_pos ⟨.inr rfl,h⟩]
  rfl
 ·rw[if_neg h];exact tr_wr (by simp[rckP,h])
theorem qu_form (a b:Int):∃p q,quV a b=.tuple #[.int .i64 p,.int .i64 q]:=by unfold quV;split <;> exact ⟨_,_,rfl⟩
theorem re_form (a b:Int):∃p q,reV a b=.tuple #[.int .i64 p,.int .i64 q]:=by unfold reV;split <;> exact ⟨_,_,rfl⟩
theorem ov_form (a:Int):∃p q,ovV a=.tuple #[.int .i64 p,.int .i64 q]:=⟨_,_,rfl⟩
theorem worth6_c {a b:Int}(ha:In64 a)(hb:In64 b)(w:World):Calls Tryz.prog 162 #[.int .i64 6,.int .i64 a,.int .i64 b] w fun e w'=>e=.returned (wrV 6 a b)/\w'=w:=by
 have c:=minus_c (a:=0) (b:=a) ⟨by omega,by omega⟩ ha w
 rw[show wrV 6 a b=ovV (0 - a) from ov_wr (by simp[rckP]) (by omega)]
 obtain ⟨p,q,hv⟩:=ov_form (0 - a);rw[hv] at c ⊢;clear hv ha hb;go_enter Tryz.func162,Tryz.ntmps162;go_wp2_with fail;refine c.mono ?_;rintro u w2 ⟨rfl,rfl⟩;go_wp2;exact bodyPost_ret (v:=.tuple #[.int .i64 p,.int .i64 q]) (by simp[results,Tryz.results162,go_sem]) rfl ⟨rfl,rfl⟩
theorem worth7_c {a b:Int}(ha:In64 a)(hb:In64 b)(w:World):Calls Tryz.prog 162 #[.int .i64 7,.int .i64 a,.int .i64 b] w fun e w'=>e=.returned (wrV 7 a b)/\w'=w:=by
 have c:=truth_c (a==0) w;rw[show wrV 7 a b=.tuple #[.int .i64 (trI (a==0)),.int .i64 0] from tr_wr (by simp[rckP])]
 clear ha hb;go_enter Tryz.func162,Tryz.ntmps162;go_wp2_with fail;refine c.mono ?_;rintro u w2 ⟨rfl,rfl⟩;go_wp2;exact bodyPost_ret (v:=.tuple #[.int .i64 (trI (a==0)),.int .i64 0]) (by simp[results,Tryz.results162,go_sem]) rfl ⟨rfl,rfl⟩
theorem worth8_c {a b:Int}(ha:In64 a)(hb:In64 b)(w:World):Calls Tryz.prog 162 #[.int .i64 8,.int .i64 a,.int .i64 b] w fun e w'=>e=.returned (wrV 8 a b)/\w'=w:=by
 have c:=plus_c ha hb w;rw[show wrV 8 a b=ovV (a+b) from ov_wr (by simp[rckP]) (by omega)]
 obtain ⟨p,q,hv⟩:=ov_form (a+b);rw[hv] at c ⊢;clear hv ha hb;go_enter Tryz.func162,Tryz.ntmps162;go_wp2_with fail;refine c.mono ?_;rintro u w2 ⟨rfl,rfl⟩;go_wp2;exact bodyPost_ret (v:=.tuple #[.int .i64 p,.int .i64 q]) (by simp[results,Tryz.results162,go_sem]) rfl ⟨rfl,rfl⟩
theorem worth9_c {a b:Int}(ha:In64 a)(hb:In64 b)(w:World):Calls Tryz.prog 162 #[.int .i64 9,.int .i64 a,.int .i64 b] w fun e w'=>e=.returned (wrV 9 a b)/\w'=w:=by
 have c:=minus_c ha hb w;rw[show wrV 9 a b=ovV (a - b) from ov_wr (by simp[rckP]) (by omega)]
 obtain ⟨p,q,hv⟩:=ov_form (a - b);rw[hv] at c ⊢;clear hv ha hb;go_enter Tryz.func162,Tryz.ntmps162;go_wp2_with fail;refine c.mono ?_;rintro u w2 ⟨rfl,rfl⟩;go_wp2;exact bodyPost_ret (v:=.tuple #[.int .i64 p,.int .i64 q]) (by simp[results,Tryz.results162,go_sem]) rfl ⟨rfl,rfl⟩
theorem worth10_c {a b:Int}(ha:In64 a)(hb:In64 b)(w:World):Calls Tryz.prog 162 #[.int .i64 10,.int .i64 a,.int .i64 b] w fun e w'=>e=.returned (wrV 10 a b)/\w'=w:=by
 have c:=times_c ha hb w;rw[show wrV 10 a b=ovV (a*b) from ov_wr (by simp[rckP]) (by omega)]
 obtain ⟨p,q,hv⟩:=ov_form (a*b);rw[hv] at c ⊢;clear hv ha hb;go_enter Tryz.func162,Tryz.ntmps162;go_wp2_with fail;refine c.mono ?_;rintro u w2 ⟨rfl,rfl⟩;go_wp2;exact bodyPost_ret (v:=.tuple #[.int .i64 p,.int .i64 q]) (by simp[results,Tryz.results162,go_sem]) rfl ⟨rfl,rfl⟩
theorem worth11_c {a b:Int}(ha:In64 a)(hb:In64 b)(w:World):Calls Tryz.prog 162 #[.int .i64 11,.int .i64 a,.int .i64 b] w fun e w'=>e=.returned (wrV 11 a b)/\w'=w:=by
 have c:=quotient_c ha hb w;rw[qu_wr];obtain ⟨p,q,hv⟩:=qu_form a b;rw[hv] at c ⊢;clear hv ha hb;go_enter Tryz.func162,Tryz.ntmps162;go_wp2_with fail;refine c.mono ?_;rintro u w2 ⟨rfl,rfl⟩;go_wp2;exact bodyPost_ret (v:=.tuple #[.int .i64 p,.int .i64 q]) (by simp[results,Tryz.results162,go_sem]) rfl ⟨rfl,rfl⟩
theorem worth12_c {a b:Int}(ha:In64 a)(hb:In64 b)(w:World):Calls Tryz.prog 162 #[.int .i64 12,.int .i64 a,.int .i64 b] w fun e w'=>e=.returned (wrV 12 a b)/\w'=w:=by
 have c:=rest_c ha hb w;rw[re_wr];obtain ⟨p,q,hv⟩:=re_form a b;rw[hv] at c ⊢;clear hv ha hb;go_enter Tryz.func162,Tryz.ntmps162;go_wp2_with fail;refine c.mono ?_;rintro u w2 ⟨rfl,rfl⟩;go_wp2;exact bodyPost_ret (v:=.tuple #[.int .i64 p,.int .i64 q]) (by simp[results,Tryz.results162,go_sem]) rfl ⟨rfl,rfl⟩
theorem worth13_c {a b:Int}(ha:In64 a)(hb:In64 b)(w:World):Calls Tryz.prog 162 #[.int .i64 13,.int .i64 a,.int .i64 b] w fun e w'=>e=.returned (wrV 13 a b)/\w'=w:=by
 have c:=truth_c (a==b) w;rw[show wrV 13 a b=.tuple #[.int .i64 (trI (a==b)),.int .i64 0] from tr_wr (by simp[rckP])]
 clear ha hb;go_enter Tryz.func162,Tryz.ntmps162;go_wp2_with fail;refine c.mono ?_;rintro u w2 ⟨rfl,rfl⟩;go_wp2;exact bodyPost_ret (v:=.tuple #[.int .i64 (trI (a==b)),.int .i64 0]) (by simp[results,Tryz.results162,go_sem]) rfl ⟨rfl,rfl⟩
theorem worth14_c {a b:Int}(ha:In64 a)(hb:In64 b)(w:World):Calls Tryz.prog 162 #[.int .i64 14,.int .i64 a,.int .i64 b] w fun e w'=>e=.returned (wrV 14 a b)/\w'=w:=by
 have c:=truth_c (a != b) w;rw[show wrV 14 a b=.tuple #[.int .i64 (trI (a != b)),.int .i64 0] from tr_wr (by simp[rckP])]
 clear ha hb;go_enter Tryz.func162,Tryz.ntmps162;go_wp2_with fail;refine c.mono ?_;rintro u w2 ⟨rfl,rfl⟩;go_wp2;exact bodyPost_ret (v:=.tuple #[.int .i64 (trI (a != b)),.int .i64 0]) (by simp[results,Tryz.results162,go_sem]) rfl ⟨rfl,rfl⟩
theorem worth15_c {a b:Int}(ha:In64 a)(hb:In64 b)(w:World):Calls Tryz.prog 162 #[.int .i64 15,.int .i64 a,.int .i64 b] w fun e w'=>e=.returned (wrV 15 a b)/\w'=w:=by
 have c:=truth_c (decide (a<b)) w;rw[show wrV 15 a b=.tuple #[.int .i64 (trI (decide (a<b))),.int .i64 0] from tr_wr (by simp[rckP])]
 clear ha hb;go_enter Tryz.func162,Tryz.ntmps162;go_wp2_with fail;refine c.mono ?_;rintro u w2 ⟨rfl,rfl⟩;go_wp2;exact bodyPost_ret (v:=.tuple #[.int .i64 (trI (decide (a<b))),.int .i64 0]) (by simp[results,Tryz.results162,go_sem]) rfl ⟨rfl,rfl⟩
theorem worth16_c {a b:Int}(ha:In64 a)(hb:In64 b)(w:World):Calls Tryz.prog 162 #[.int .i64 16,.int .i64 a,.int .i64 b] w fun e w'=>e=.returned (wrV 16 a b)/\w'=w:=by
 have c:=truth_c (decide (a<=b)) w;rw[show wrV 16 a b=.tuple #[.int .i64 (trI (decide (a<=b))),.int .i64 0] from tr_wr (by simp[rckP])]
 clear ha hb;go_enter Tryz.func162,Tryz.ntmps162;go_wp2_with fail;refine c.mono ?_;rintro u w2 ⟨rfl,rfl⟩;go_wp2;exact bodyPost_ret (v:=.tuple #[.int .i64 (trI (decide (a<=b))),.int .i64 0]) (by simp[results,Tryz.results162,go_sem]) rfl ⟨rfl,rfl⟩
theorem worth_c {k a b:Int}(hk:6<=k/\k<=16)(ha:In64 a)(hb:In64 b)(w:World):Calls Tryz.prog 162 #[.int .i64 k,.int .i64 a,.int .i64 b] w fun e w'=>e=.returned (wrV k a b)/\w'=w:=by
 have:k=6\/k=7\/k=8\/k=9\/k=10\/k=11\/k=12\/k=13\/k=14\/k=15\/k=16:=by omega
 rcases this with rfl|rfl|rfl|rfl|rfl|rfl|rfl|rfl|rfl|rfl|rfl
 ·exact worth6_c ha hb w
 ·exact worth7_c ha hb w
 ·exact worth8_c ha hb w
 ·exact worth9_c ha hb w
 ·exact worth10_c ha hb w
 ·exact worth11_c ha hb w
 ·exact worth12_c ha hb w
 ·exact worth13_c ha hb w
 ·exact worth14_c ha hb w
 ·exact worth15_c ha hb w
 ·exact worth16_c ha hb w
theorem reck8_c {a b:Int}(ha:In64 a)(hb:In64 b)(w:World):Calls Tryz.prog 106 #[.int .i64 8,.int .i64 a,.int .i64 b] w fun e w'=>e=.returned (wrV 8 a b)/\w'=w:=by
 rw[show wrV 8 a b=ovV (a+b) from ov_wr (by simp[rckP]) (by omega)]
 obtain ⟨ha1,ha2⟩:=ha;obtain ⟨hb1,hb2⟩:=hb;unfold ovV;by_cases h0:0<b
 ·have r1:-9223372036854775808<=9223372036854775807 - b:=by omega
  have r2:9223372036854775807 - b<=9223372036854775807:=by omega
  by_cases h:9223372036854775807 - b<a
  ·have hn:¬In64 (a+b):=by unfold In64;omega
   rw[inI_neg hn];simp only[Bool.false_eq_true,if_false];clear hn;go_enter Tryz.func106,Tryz.ntmps106;go_wp2;exact bodyPost_ret (v:=.tuple #[.int .i64 (0),.int .i64 1]) (by simp[results,Tryz.results106,go_sem]) rfl ⟨rfl,rfl⟩
  ·have hn:In64 (a+b):=by unfold In64;omega
   rw[inI_pos hn];simp only[if_true];obtain ⟨hi1,hi2⟩:=hn;go_enter Tryz.func106,Tryz.ntmps106;go_wp2;exact bodyPost_ret (v:=.tuple #[.int .i64 (a+b),.int .i64 0]) (by simp[results,Tryz.results106,go_sem]) rfl ⟨rfl,rfl⟩
 ·by_cases h2:b<0
  ·have r1:-9223372036854775808<=-9223372036854775808 - b:=by omega
   have r2:-9223372036854775808 - b<=9223372036854775807:=by omega
   by_cases h:a < -9223372036854775808 - b
   ·have hn:¬In64 (a+b):=by unfold In64;omega
    rw[inI_neg hn];simp only[Bool.false_eq_true,if_false];clear hn;go_enter Tryz.func106,Tryz.ntmps106;go_wp2;exact bodyPost_ret (v:=.tuple #[.int .i64 (0),.int .i64 1]) (by simp[results,Tryz.results106,go_sem]) rfl ⟨rfl,rfl⟩
   ·have hn:In64 (a+b):=by unfold In64;omega
    rw[inI_pos hn];simp only[if_true];obtain ⟨hi1,hi2⟩:=hn;go_enter Tryz.func106,Tryz.ntmps106;go_wp2;exact bodyPost_ret (v:=.tuple #[.int .i64 (a+b),.int .i64 0]) (by simp[results,Tryz.results106,go_sem]) rfl ⟨rfl,rfl⟩
  ·have hn:In64 (a+b):=by unfold In64;omega
   rw[inI_pos hn];simp only[if_true];obtain ⟨hi1,hi2⟩:=hn;go_enter Tryz.func106,Tryz.ntmps106;go_wp2;exact bodyPost_ret (v:=.tuple #[.int .i64 (a+b),.int .i64 0]) (by simp[results,Tryz.results106,go_sem]) rfl ⟨rfl,rfl⟩
theorem reck9_c {a b:Int}(ha:In64 a)(hb:In64 b)(w:World):Calls Tryz.prog 106 #[.int .i64 9,.int .i64 a,.int .i64 b] w fun e w'=>e=.returned (wrV 9 a b)/\w'=w:=by
 rw[show wrV 9 a b=ovV (a - b) from ov_wr (by simp[rckP]) (by omega)]
 obtain ⟨ha1,ha2⟩:=ha;obtain ⟨hb1,hb2⟩:=hb;unfold ovV;by_cases h0:b<0
 ·have r1:-9223372036854775808<=9223372036854775807+b:=by omega
  have r2:9223372036854775807+b<=9223372036854775807:=by omega
  by_cases h:9223372036854775807+b<a
  ·have hn:¬In64 (a - b):=by unfold In64;omega
   rw[inI_neg hn];simp only[Bool.false_eq_true,if_false];clear hn;go_enter Tryz.func106,Tryz.ntmps106;go_wp2;exact bodyPost_ret (v:=.tuple #[.int .i64 (0),.int .i64 1]) (by simp[results,Tryz.results106,go_sem]) rfl ⟨rfl,rfl⟩
  ·have hn:In64 (a - b):=by unfold In64;omega
   rw[inI_pos hn];simp only[if_true];obtain ⟨hi1,hi2⟩:=hn;go_enter Tryz.func106,Tryz.ntmps106;go_wp2;exact bodyPost_ret (v:=.tuple #[.int .i64 (a - b),.int .i64 0]) (by simp[results,Tryz.results106,go_sem]) rfl ⟨rfl,rfl⟩
 ·by_cases h2:0<b
  ·have r1:-9223372036854775808<=-9223372036854775808+b:=by omega
   have r2:-9223372036854775808+b<=9223372036854775807:=by omega
   by_cases h:a < -9223372036854775808+b
   ·have hn:¬In64 (a - b):=by unfold In64;omega
    rw[inI_neg hn];simp only[Bool.false_eq_true,if_false];clear hn;go_enter Tryz.func106,Tryz.ntmps106;go_wp2;exact bodyPost_ret (v:=.tuple #[.int .i64 (0),.int .i64 1]) (by simp[results,Tryz.results106,go_sem]) rfl ⟨rfl,rfl⟩
   ·have hn:In64 (a - b):=by unfold In64;omega
    rw[inI_pos hn];simp only[if_true];obtain ⟨hi1,hi2⟩:=hn;go_enter Tryz.func106,Tryz.ntmps106;go_wp2;exact bodyPost_ret (v:=.tuple #[.int .i64 (a - b),.int .i64 0]) (by simp[results,Tryz.results106,go_sem]) rfl ⟨rfl,rfl⟩
  ·have hn:In64 (a - b):=by unfold In64;omega
   rw[inI_pos hn];simp only[if_true];obtain ⟨hi1,hi2⟩:=hn;go_enter Tryz.func106,Tryz.ntmps106;go_wp2;exact bodyPost_ret (v:=.tuple #[.int .i64 (a - b),.int .i64 0]) (by simp[results,Tryz.results106,go_sem]) rfl ⟨rfl,rfl⟩
theorem reck10_c {a b:Int}(ha:In64 a)(hb:In64 b)(w:World):Calls Tryz.prog 106 #[.int .i64 10,.int .i64 a,.int .i64 b] w fun e w'=>e=.returned (wrV 10 a b)/\w'=w:=by
 rw[show wrV 10 a b=ovV (a*b) from ov_wr (by simp[rckP]) (by omega)]
 by_cases h0:a=0
 ·subst h0;rw[Int.zero_mul];unfold ovV;rw[inI_pos (show In64 0 from ⟨by decide,by decide⟩)]
  simp only[if_true];go_enter Tryz.func106,Tryz.ntmps106;go_wp2;exact bodyPost_ret (v:=.tuple #[.int .i64 (0),.int .i64 0]) (by simp[results,Tryz.results106,go_sem]) rfl ⟨rfl,rfl⟩
 by_cases h1:b=0
 ·subst h1;rw[Int.mul_zero];unfold ovV;rw[inI_pos (show In64 0 from ⟨by decide,by decide⟩)]
  simp only[if_true];have ha0:(a==0)=false:=by simpa using h0
  go_enter Tryz.func106,Tryz.ntmps106;go_wp2;exact bodyPost_ret (v:=.tuple #[.int .i64 (0),.int .i64 0]) (by simp[results,Tryz.results106,go_sem]) rfl ⟨rfl,rfl⟩
 have ha0:(a==0)=false:=by simpa using h0
 have hb0:(b==0)=false:=by simpa using h1
 unfold ovV;by_cases h:In64 (a*b)
 ·rw[inI_pos h];simp only[if_true];have hq:(a*b).tdiv b=a:=Int.mul_tdiv_cancel a h1;have n1:a=-1->(b==-9223372036854775808)=false:=fun e=>by
   rw[beq_eq_false_iff_ne];rintro rfl;rw[e] at h;exact absurd h.2 (by decide)
  have n2:b=-1->(a==-9223372036854775808)=false:=fun e=>by
   rw[beq_eq_false_iff_ne];rintro rfl;rw[e] at h;exact absurd h.2 (by decide)
  obtain ⟨hi1,hi2⟩:=h;obtain ⟨ha1,ha2⟩:=ha;by_cases e1:a=-1
  ·have x1:(a==-1)=true:=by simpa using e1
   have y1:=n1 e1;by_cases e2:b=-1
   ·have x2:(b==-1)=true:=by simpa using e2
    have y2:=n2 e2;clear e1 e2 n1 n2;go_enter Tryz.func106,Tryz.ntmps106;go_wp2;exact bodyPost_ret (v:=.tuple #[.int .i64 (a*b),.int .i64 0]) (by simp[results,Tryz.results106,go_sem]) rfl ⟨rfl,rfl⟩
   ·have x2:(b==-1)=false:=by simpa using e2
    clear e1 e2 n1 n2;go_enter Tryz.func106,Tryz.ntmps106;go_wp2;exact bodyPost_ret (v:=.tuple #[.int .i64 (a*b),.int .i64 0]) (by simp[results,Tryz.results106,go_sem]) rfl ⟨rfl,rfl⟩
  ·have x1:(a==-1)=false:=by simpa using e1
   by_cases e2:b=-1
   ·have x2:(b==-1)=true:=by simpa using e2
    have y2:=n2 e2;clear e1 e2 n1 n2;go_enter Tryz.func106,Tryz.ntmps106;go_wp2;exact bodyPost_ret (v:=.tuple #[.int .i64 (a*b),.int .i64 0]) (by simp[results,Tryz.results106,go_sem]) rfl ⟨rfl,rfl⟩
   ·have x2:(b==-1)=false:=by simpa using e2
    clear e1 e2 n1 n2;go_enter Tryz.func106,Tryz.ntmps106;go_wp2;exact bodyPost_ret (v:=.tuple #[.int .i64 (a*b),.int .i64 0]) (by simp[results,Tryz.results106,go_sem]) rfl ⟨rfl,rfl⟩
 ·rw[inI_neg h];simp only[Bool.false_eq_true,if_false];by_cases m1:a=-1/\b=-9223372036854775808
  ·have x1:(a==-1)=true:=by simpa using m1.1
   have y1:(b==-9223372036854775808)=true:=by simpa using m1.2
   clear m1 h;go_enter Tryz.func106,Tryz.ntmps106;go_wp2;exact bodyPost_ret (v:=.tuple #[.int .i64 (0),.int .i64 1]) (by simp[results,Tryz.results106,go_sem]) rfl ⟨rfl,rfl⟩
  by_cases m2:b=-1/\a=-9223372036854775808
  ·have x1:(a==-1)=false:=by rw[m2.2];decide
   have x2:(b==-1)=true:=by simpa using m2.1
   have y2:(a==-9223372036854775808)=true:=by simpa using m2.2
   clear m1 m2 h;go_enter Tryz.func106,Tryz.ntmps106;go_wp2;exact bodyPost_ret (v:=.tuple #[.int .i64 (0),.int .i64 1]) (by simp[results,Tryz.results106,go_sem]) rfl ⟨rfl,rfl⟩
  have hq:¬(wrap64 (a*b)).tdiv b=a:=fun hq=>mul_round ha hb h1 h hq
  have hp:In64 (wrap64 (a*b)):=by unfold In64 wrap64;omega
  have hx:¬(wrap64 (a*b)=-9223372036854775808/\b=-1):=by
   rintro ⟨h2,rfl⟩;obtain ⟨ha1,ha2⟩:=ha;unfold In64 at h;unfold wrap64 at h2;omega
  obtain ⟨hi1,hi2⟩:=tdiv_in hp h1 hx;have n1:a=-1->(b==-9223372036854775808)=false:=fun e=>by
   rw[beq_eq_false_iff_ne];exact fun e2=>m1 ⟨e,e2⟩
  have n2:b=-1->(a==-9223372036854775808)=false:=fun e=>by
   rw[beq_eq_false_iff_ne];exact fun e2=>m2 ⟨e,e2⟩
  clear m1 m2 hx h;by_cases e1:a=-1
  ·have x1:(a==-1)=true:=by simpa using e1
   have y1:=n1 e1;by_cases e2:b=-1
   ·have x2:(b==-1)=true:=by simpa using e2
    have y2:=n2 e2;clear e1 e2 n1 n2;go_enter Tryz.func106,Tryz.ntmps106;go_wp2;exact bodyPost_ret (v:=.tuple #[.int .i64 (0),.int .i64 1]) (by simp[results,Tryz.results106,go_sem]) rfl ⟨rfl,rfl⟩
   ·have x2:(b==-1)=false:=by simpa using e2
    clear e1 e2 n1 n2;go_enter Tryz.func106,Tryz.ntmps106;go_wp2;exact bodyPost_ret (v:=.tuple #[.int .i64 (0),.int .i64 1]) (by simp[results,Tryz.results106,go_sem]) rfl ⟨rfl,rfl⟩
  ·have x1:(a==-1)=false:=by simpa using e1
   by_cases e2:b=-1
   ·have x2:(b==-1)=true:=by simpa using e2
    have y2:=n2 e2;clear e1 e2 n1 n2;go_enter Tryz.func106,Tryz.ntmps106;go_wp2;exact bodyPost_ret (v:=.tuple #[.int .i64 (0),.int .i64 1]) (by simp[results,Tryz.results106,go_sem]) rfl ⟨rfl,rfl⟩
   ·have x2:(b==-1)=false:=by simpa using e2
    clear e1 e2 n1 n2;go_enter Tryz.func106,Tryz.ntmps106;go_wp2;exact bodyPost_ret (v:=.tuple #[.int .i64 (0),.int .i64 1]) (by simp[results,Tryz.results106,go_sem]) rfl ⟨rfl,rfl⟩
theorem reck11_c {a b:Int}(ha:In64 a)(hb:In64 b)(w:World):Calls Tryz.prog 106 #[.int .i64 11,.int .i64 a,.int .i64 b] w fun e w'=>e=.returned (wrV 11 a b)/\w'=w:=by
 rw[qu_wr];unfold quV;by_cases h0:b=0
 ·subst h0;rw[if_pos rfl];go_enter Tryz.func106,Tryz.ntmps106;go_wp2;exact bodyPost_ret (v:=.tuple #[.int .i64 (0),.int .i64 4]) (by simp[results,Tryz.results106,go_sem]) rfl ⟨rfl,rfl⟩
 ·rw[if_neg h0];have hb0:(b==0)=false:=by simpa using h0
  by_cases h1:b=-1
  ·have hv:ovV (a.tdiv b)=wrV 9 0 a:=by
    rw[h1,show wrV 9 0 a=ovV (0 - a) from ov_wr (by simp[rckP]) (by omega),show a.tdiv (-1)=0 - a by rw[Int.tdiv_neg,Int.tdiv_one];omega]
   have c:=reck9_c (a:=0) (b:=a) ⟨by decide,by decide⟩ ha w
   have x1:(b==-1)=true:=by simpa using h1
   rw[hv];obtain ⟨p,q,hw⟩:∃p q,wrV 9 0 a=.tuple #[.int .i64 p,.int .i64 q]:=⟨_,_,rfl⟩;rw[hw] at c ⊢;clear hv hw h1 h0 ha hb;go_enter Tryz.func106,Tryz.ntmps106;go_wp2_with fail;refine c.mono ?_;rintro u w2 ⟨rfl,rfl⟩;go_wp2;exact bodyPost_ret (v:=.tuple #[.int .i64 p,.int .i64 q]) (by simp[results,Tryz.results106,go_sem]) rfl ⟨rfl,rfl⟩
  ·have hn:=tdiv_in ha h0 (fun h=>h1 h.2)
   have x1:(b==-1)=false:=by simpa using h1
   unfold ovV;rw[inI_pos hn];simp only[if_true];obtain ⟨hi1,hi2⟩:=hn;clear h1;go_enter Tryz.func106,Tryz.ntmps106;go_wp2;exact bodyPost_ret (v:=.tuple #[.int .i64 (a.tdiv b),.int .i64 0]) (by simp[results,Tryz.results106,go_sem]) rfl ⟨rfl,rfl⟩
theorem reck12_c {a b:Int}(ha:In64 a)(hb:In64 b)(w:World):Calls Tryz.prog 106 #[.int .i64 12,.int .i64 a,.int .i64 b] w fun e w'=>e=.returned (wrV 12 a b)/\w'=w:=by
 rw[re_wr];unfold reV;by_cases h0:b=0
 ·subst h0;rw[if_pos rfl];go_enter Tryz.func106,Tryz.ntmps106;go_wp2;exact bodyPost_ret (v:=.tuple #[.int .i64 (0),.int .i64 4]) (by simp[results,Tryz.results106,go_sem]) rfl ⟨rfl,rfl⟩
 ·rw[if_neg h0];have hb0:(b==0)=false:=by simpa using h0
  obtain ⟨hi1,hi2⟩:=tmod_in ha h0;by_cases h1:b=-1
  ·have x1:(b==-1)=true:=by simpa using h1
   rw[show a.tmod b=0 by rw[h1,Int.tmod_neg,Int.tmod_one]]
   clear h1;go_enter Tryz.func106,Tryz.ntmps106;go_wp2;exact bodyPost_ret (v:=.tuple #[.int .i64 (0),.int .i64 0]) (by simp[results,Tryz.results106,go_sem]) rfl ⟨rfl,rfl⟩
  ·have x1:(b==-1)=false:=by simpa using h1
   clear h1;go_enter Tryz.func106,Tryz.ntmps106;go_wp2;exact bodyPost_ret (v:=.tuple #[.int .i64 (a.tmod b),.int .i64 0]) (by simp[results,Tryz.results106,go_sem]) rfl ⟨rfl,rfl⟩
theorem reck_c {k a b:Int}(hk:8<=k/\k<=12)(ha:In64 a)(hb:In64 b)(w:World):Calls Tryz.prog 106 #[.int .i64 k,.int .i64 a,.int .i64 b] w fun e w'=>e=.returned (wrV k a b)/\w'=w:=by
 have:k=8\/k=9\/k=10\/k=11\/k=12:=by omega
 rcases this with rfl|rfl|rfl|rfl|rfl
 ·exact reck8_c ha hb w
 ·exact reck9_c ha hb w
 ·exact reck10_c ha hb w
 ·exact reck11_c ha hb w
 ·exact reck12_c ha hb w
theorem isr_c (e:Ex)(ao:Option Addr)(cap:Nat)(k n:Int)(w:World):Calls Tryz.prog 107 #[exN e ao cap,.int .i64 k,.int .i64 n] w fun x w'=>x=.returned (.bool (isE e k n))/\Below w.heap.size w w':=by
 have B0:Below w.heap.size w (w.alloc (.cells #[.int .i64 e.k,.int .i64 e.n,stv e.nm,.slice ao e.kids.len cap] 34)):=(Below.refl _ w).alloc (Nat.le_refl _) _;have E0:(w.alloc (.cells #[.int .i64 e.k,.int .i64 e.n,stv e.nm,.slice ao e.kids.len cap] 34)).heap[w.heap.size]?=some (.cells #[.int .i64 e.k,.int .i64 e.n,stv e.nm,.slice ao e.kids.len cap] 34):=heap_alloc_new w _;rw[exN_out];unfold isE;go_enter Tryz.func107,Tryz.ntmps107;go_upto_region 1 with fail;generalize w.alloc (.cells #[.int .i64 e.k,.int .i64 e.n,stv e.nm,.slice ao e.kids.len cap] 34)=w0 at *;obtain ⟨bx,hbx⟩:∃bx,bx=w.heap.size:=⟨_,rfl⟩;rw[<-hbx] at E0 B0 ⊢;have HB:Hid (bx=w.heap.size):=hbx;clear hbx;obtain ⟨p0,p1,p2,p3,pf⟩:=box4 E0;cases hk:(e.k==k) with
 | true =>
  go_wp2;go_ret;exact ⟨by simp[hk],by rw[<-HB.out];exact B0⟩
 | false =>
  go_wp2;go_ret;exact ⟨by simp[hk],by rw[<-HB.out];exact B0⟩
theorem isnum_c (e:Ex)(ao:Option Addr)(cap:Nat)(n:Int)(w:World):Calls Tryz.prog 164 #[exN e ao cap,.int .i64 n] w fun x w'=>x=.returned (.bool (isE e 1 n))/\Below w.heap.size w w':=by
 have B0:Below w.heap.size w (w.alloc (.cells #[.int .i64 e.k,.int .i64 e.n,stv e.nm,.slice ao e.kids.len cap] 34)):=(Below.refl _ w).alloc (Nat.le_refl _) _;have E0:(w.alloc (.cells #[.int .i64 e.k,.int .i64 e.n,stv e.nm,.slice ao e.kids.len cap] 34)).heap[w.heap.size]?=some (.cells #[.int .i64 e.k,.int .i64 e.n,stv e.nm,.slice ao e.kids.len cap] 34):=heap_alloc_new w _;rw[exN_out];unfold isE;go_enter Tryz.func164,Tryz.ntmps164;go_upto_region 1 with fail;generalize w.alloc (.cells #[.int .i64 e.k,.int .i64 e.n,stv e.nm,.slice ao e.kids.len cap] 34)=w0 at *;obtain ⟨bx,hbx⟩:∃bx,bx=w.heap.size:=⟨_,rfl⟩;rw[<-hbx] at E0 B0 ⊢;have HB:Hid (bx=w.heap.size):=hbx;clear hbx;obtain ⟨p0,p1,p2,p3,pf⟩:=box4 E0;cases hk:(e.k==1) with
 | true =>
  go_wp2;go_ret;exact ⟨by simp[hk],by rw[<-HB.out];exact B0⟩
 | false =>
  go_wp2;go_ret;exact ⟨by simp[hk],by rw[<-HB.out];exact B0⟩
theorem istru_c (e:Ex)(ao:Option Addr)(cap:Nat)(n:Int)(w:World):Calls Tryz.prog 165 #[exN e ao cap,.int .i64 n] w fun x w'=>x=.returned (.bool (isE e 2 n))/\Below w.heap.size w w':=by
 have B0:Below w.heap.size w (w.alloc (.cells #[.int .i64 e.k,.int .i64 e.n,stv e.nm,.slice ao e.kids.len cap] 34)):=(Below.refl _ w).alloc (Nat.le_refl _) _;have E0:(w.alloc (.cells #[.int .i64 e.k,.int .i64 e.n,stv e.nm,.slice ao e.kids.len cap] 34)).heap[w.heap.size]?=some (.cells #[.int .i64 e.k,.int .i64 e.n,stv e.nm,.slice ao e.kids.len cap] 34):=heap_alloc_new w _;rw[exN_out];unfold isE;go_enter Tryz.func165,Tryz.ntmps165;go_upto_region 1 with fail;generalize w.alloc (.cells #[.int .i64 e.k,.int .i64 e.n,stv e.nm,.slice ao e.kids.len cap] 34)=w0 at *;obtain ⟨bx,hbx⟩:∃bx,bx=w.heap.size:=⟨_,rfl⟩;rw[<-hbx] at E0 B0 ⊢;have HB:Hid (bx=w.heap.size):=hbx;clear hbx;obtain ⟨p0,p1,p2,p3,pf⟩:=box4 E0;cases hk:(e.k==2) with
 | true =>
  go_wp2;go_ret;exact ⟨by simp[hk],by rw[<-HB.out];exact B0⟩
 | false =>
  go_wp2;go_ret;exact ⟨by simp[hk],by rw[<-HB.out];exact B0⟩
theorem iscon_c (e:Ex)(ao:Option Addr)(cap:Nat)(w:World):Calls Tryz.prog 115 #[exN e ao cap] w fun x w'=>x=.returned (.bool (cnE e))/\Below w.heap.size w w':=by
 have B0:Below w.heap.size w (w.alloc (.cells #[.int .i64 e.k,.int .i64 e.n,stv e.nm,.slice ao e.kids.len cap] 34)):=(Below.refl _ w).alloc (Nat.le_refl _) _;have E0:(w.alloc (.cells #[.int .i64 e.k,.int .i64 e.n,stv e.nm,.slice ao e.kids.len cap] 34)).heap[w.heap.size]?=some (.cells #[.int .i64 e.k,.int .i64 e.n,stv e.nm,.slice ao e.kids.len cap] 34):=heap_alloc_new w _;rw[exN_out];unfold cnE;go_enter Tryz.func115,Tryz.ntmps115;go_upto_region 1 with fail;generalize w.alloc (.cells #[.int .i64 e.k,.int .i64 e.n,stv e.nm,.slice ao e.kids.len cap] 34)=w0 at *;obtain ⟨bx,hbx⟩:∃bx,bx=w.heap.size:=⟨_,rfl⟩;rw[<-hbx] at E0 B0 ⊢;have HB:Hid (bx=w.heap.size):=hbx;clear hbx;obtain ⟨p0,p1,p2,p3,pf⟩:=box4 E0;cases hk:(e.k==1) with
 | true =>
  go_wp2;go_ret;exact ⟨by simp[hk],by rw[<-HB.out];exact B0⟩
 | false =>
  go_wp2;go_ret;exact ⟨by simp[hk],by rw[<-HB.out];exact B0⟩
def ckE (k:Int):Int:=if k=6\/(8<=k/\k<=12) then 1 else 2
theorem conkind_c {k:Int}(hk:6<=k/\k<=16)(w:World):Calls Tryz.prog 163 #[.int .i64 k] w fun x w'=>x=.returned (.int .i64 (ckE k))/\w'=w:=by
 have:k=6\/k=7\/k=8\/k=9\/k=10\/k=11\/k=12\/k=13\/k=14\/k=15\/k=16:=by omega
 rcases this with rfl|rfl|rfl|rfl|rfl|rfl|rfl|rfl|rfl|rfl|rfl
 ·go_enter Tryz.func163,Tryz.ntmps163;go_wp2;go_ret;exact ⟨rfl,rfl⟩
 ·go_enter Tryz.func163,Tryz.ntmps163;go_wp2;go_ret;exact ⟨rfl,rfl⟩
 ·go_enter Tryz.func163,Tryz.ntmps163;go_wp2;go_ret;exact ⟨rfl,rfl⟩
 ·go_enter Tryz.func163,Tryz.ntmps163;go_wp2;go_ret;exact ⟨rfl,rfl⟩
 ·go_enter Tryz.func163,Tryz.ntmps163;go_wp2;go_ret;exact ⟨rfl,rfl⟩
 ·go_enter Tryz.func163,Tryz.ntmps163;go_wp2;go_ret;exact ⟨rfl,rfl⟩
 ·go_enter Tryz.func163,Tryz.ntmps163;go_wp2;go_ret;exact ⟨rfl,rfl⟩
 ·go_enter Tryz.func163,Tryz.ntmps163;go_wp2;go_ret;exact ⟨rfl,rfl⟩
 ·go_enter Tryz.func163,Tryz.ntmps163;go_wp2;go_ret;exact ⟨rfl,rfl⟩
 ·go_enter Tryz.func163,Tryz.ntmps163;go_wp2;go_ret;exact ⟨rfl,rfl⟩
 ·go_enter Tryz.func163,Tryz.ntmps163;go_wp2;go_ret;exact ⟨rfl,rfl⟩
theorem number_c (n:Int)(w:World):Calls Tryz.prog 104 #[.int .i64 n] w fun x w'=>x=.returned (exN (numE n) none 0)/\Below w.heap.size w w':=by
 have B0:Below w.heap.size w (w.alloc (.cells #[.int .i64 0,.int .i64 0,.string ⟨#[]⟩,.slice none 0 0] 34)):=(Below.refl _ w).alloc (Nat.le_refl _) _;have E0:(w.alloc (.cells #[.int .i64 0,.int .i64 0,.string ⟨#[]⟩,.slice none 0 0] 34)).heap[w.heap.size]?=some (.cells #[.int .i64 0,.int .i64 0,.string ⟨#[]⟩,.slice none 0 0] 34):=heap_alloc_new w _;have B1:=(((B0.setCell (p:=⟨w.heap.size,0,none⟩) (Nat.le_refl _) (.int .i64 1)).setCell (p:=⟨w.heap.size,1,none⟩) (Nat.le_refl _) (.int .i64 n)).setCell (p:=⟨w.heap.size,2,none⟩) (Nat.le_refl _) (.string ⟨#[]⟩)).setCell (p:=⟨w.heap.size,3,none⟩) (Nat.le_refl _) (.slice none 0 0);have E1:=set4k (b0:=.int .i64 1) (b1:=.int .i64 n) (b2:=.string ⟨#[]⟩) (b3:=.slice none 0 0) E0;go_enter Tryz.func104,Tryz.ntmps104;go_upto_region 1 with fail;generalize w.alloc (.cells #[.int .i64 0,.int .i64 0,.string ⟨#[]⟩,.slice none 0 0] 34)=w0 at *;obtain ⟨bx,hbx⟩:∃bx,bx=w.heap.size:=⟨_,rfl⟩;rw[<-hbx] at E0 E1 B0 B1 ⊢;have HB:Hid (bx=w.heap.size):=hbx;clear hbx;obtain ⟨p0,p1,p2,p3,pf⟩:=box4 E0;have HU:Hid (∃wz,wz=(((w0.setCell ⟨bx,0,none⟩ (.int .i64 1)).setCell ⟨bx,1,none⟩ (.int .i64 n)).setCell ⟨bx,2,none⟩ (.string ⟨#[]⟩)).setCell ⟨bx,3,none⟩ (.slice none 0 0)/\wz.heap[bx]?=some (.cells #[.int .i64 1,.int .i64 n,.string ⟨#[]⟩,.slice none 0 0] 34)/\Below bx w wz):=⟨_,rfl,E1,B1⟩;clear B0 E0 B1 E1;go_wp2;obtain ⟨wz,hwz,E2,B2⟩:=HU.out;rw[<-hwz];obtain ⟨v0,v1,v2,v3,-⟩:=box4 E2;refine bodyPost_ret (v:=exN (numE n) none 0) (by simp[results,Tryz.results104,go_sem,v0,v1,v2,v3,exN,numE,stv,Fs.nil,Fs.len]) rfl ⟨rfl,by rw[<-HB.out];exact B2⟩
theorem truthr_c (b:Bool)(w:World):Calls Tryz.prog 105 #[.bool b] w fun x w'=>x=.returned (exN (truE b) none 0)/\Below w.heap.size w w':=by
 have B0:Below w.heap.size w (w.alloc (.cells #[.int .i64 0,.int .i64 0,.string ⟨#[]⟩,.slice none 0 0] 34)):=(Below.refl _ w).alloc (Nat.le_refl _) _;have E0:(w.alloc (.cells #[.int .i64 0,.int .i64 0,.string ⟨#[]⟩,.slice none 0 0] 34)).heap[w.heap.size]?=some (.cells #[.int .i64 0,.int .i64 0,.string ⟨#[]⟩,.slice none 0 0] 34):=heap_alloc_new w _;cases b with
 | true =>
  have B1:=(((B0.setCell (p:=⟨w.heap.size,0,none⟩) (Nat.le_refl _) (.int .i64 2)).setCell (p:=⟨w.heap.size,1,none⟩) (Nat.le_refl _) (.int .i64 1)).setCell (p:=⟨w.heap.size,2,none⟩) (Nat.le_refl _) (.string ⟨#[]⟩)).setCell (p:=⟨w.heap.size,3,none⟩) (Nat.le_refl _) (.slice none 0 0);have E1:=set4k (b0:=.int .i64 2) (b1:=.int .i64 1) (b2:=.string ⟨#[]⟩) (b3:=.slice none 0 0) E0;go_enter Tryz.func105,Tryz.ntmps105;go_upto_region 1 with fail;generalize w.alloc (.cells #[.int .i64 0,.int .i64 0,.string ⟨#[]⟩,.slice none 0 0] 34)=w0 at *;obtain ⟨bx,hbx⟩:∃bx,bx=w.heap.size:=⟨_,rfl⟩;rw[<-hbx] at E0 E1 B0 B1 ⊢;have HB:Hid (bx=w.heap.size):=hbx;clear hbx;obtain ⟨p0,p1,p2,p3,pf⟩:=box4 E0;have HU:Hid (∃wz,wz=(((w0.setCell ⟨bx,0,none⟩ (.int .i64 2)).setCell ⟨bx,1,none⟩ (.int .i64 1)).setCell ⟨bx,2,none⟩ (.string ⟨#[]⟩)).setCell ⟨bx,3,none⟩ (.slice none 0 0)/\wz.heap[bx]?=some (.cells #[.int .i64 2,.int .i64 1,.string ⟨#[]⟩,.slice none 0 0] 34)/\Below bx w wz):=⟨_,rfl,E1,B1⟩;clear B0 E0 B1 E1;go_wp2;obtain ⟨wz,hwz,E2,B2⟩:=HU.out;rw[<-hwz];obtain ⟨v0,v1,v2,v3,-⟩:=box4 E2;refine bodyPost_ret (v:=exN (truE true) none 0) (by simp[results,Tryz.results105,go_sem,v0,v1,v2,v3,exN,truE,trI,stv,Fs.nil,Fs.len]) rfl ⟨rfl,by rw[<-HB.out];exact B2⟩
 | false =>
  have B1:=(((B0.setCell (p:=⟨w.heap.size,0,none⟩) (Nat.le_refl _) (.int .i64 2)).setCell (p:=⟨w.heap.size,1,none⟩) (Nat.le_refl _) (.int .i64 0)).setCell (p:=⟨w.heap.size,2,none⟩) (Nat.le_refl _) (.string ⟨#[]⟩)).setCell (p:=⟨w.heap.size,3,none⟩) (Nat.le_refl _) (.slice none 0 0);have E1:=set4k (b0:=.int .i64 2) (b1:=.int .i64 0) (b2:=.string ⟨#[]⟩) (b3:=.slice none 0 0) E0;go_enter Tryz.func105,Tryz.ntmps105;go_upto_region 1 with fail;generalize w.alloc (.cells #[.int .i64 0,.int .i64 0,.string ⟨#[]⟩,.slice none 0 0] 34)=w0 at *;obtain ⟨bx,hbx⟩:∃bx,bx=w.heap.size:=⟨_,rfl⟩;rw[<-hbx] at E0 E1 B0 B1 ⊢;have HB:Hid (bx=w.heap.size):=hbx;clear hbx;obtain ⟨p0,p1,p2,p3,pf⟩:=box4 E0;have HU:Hid (∃wz,wz=(((w0.setCell ⟨bx,0,none⟩ (.int .i64 2)).setCell ⟨bx,1,none⟩ (.int .i64 0)).setCell ⟨bx,2,none⟩ (.string ⟨#[]⟩)).setCell ⟨bx,3,none⟩ (.slice none 0 0)/\wz.heap[bx]?=some (.cells #[.int .i64 2,.int .i64 0,.string ⟨#[]⟩,.slice none 0 0] 34)/\Below bx w wz):=⟨_,rfl,E1,B1⟩;clear B0 E0 B1 E1;go_wp2;obtain ⟨wz,hwz,E2,B2⟩:=HU.out;rw[<-hwz];obtain ⟨v0,v1,v2,v3,-⟩:=box4 E2;refine bodyPost_ret (v:=exN (truE false) none 0) (by simp[results,Tryz.results105,go_sem,v0,v1,v2,v3,exN,truE,trI,stv,Fs.nil,Fs.len]) rfl ⟨rfl,by rw[<-HB.out];exact B2⟩
end Go.Proofs.YtaihhnlfcndecaaGreatDoor

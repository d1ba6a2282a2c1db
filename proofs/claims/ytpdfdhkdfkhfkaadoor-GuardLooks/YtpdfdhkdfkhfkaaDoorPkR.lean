import Derived.Test.YtpdfdhkdfkhfkaaDoorGrF
set_option maxRecDepth 100000
set_option maxHeartbeats 8000000
namespace Go.Proofs.YtpdfdhkdfkhfkaaDoor
open Go.ChangeShapes Go.WideShapes Go.ChangeAt Go.RowKit
set_option linter.unusedVariables false
set_option linter.unusedSimpArgs false
theorem set_e {w:World}{o:Nat->Nat}{vb ls cap:Nat}{p:Pl}{c:Cd}{e:Nat}{v:Vw}(h:WkM w o vb ls cap p c (e,v))(x:Nat):WkM (w.setCell ⟨vb,8,none⟩ (.int .i64 (x:Nat))) o vb ls cap p c (x,v)/\Step I2q w o (w.setCell ⟨vb,8,none⟩ (.int .i64 (x:Nat))) o :=
 ⟨⟨h.blk.setq 8 _,h.rs.step ((Step.refl (fun k=>k=1) w o).setCell ⟨vb,8,none⟩ _ h.blk.2) (by decide)⟩,((Step.refl _ w o).setCell ⟨vb,8,none⟩ _ (Or.inl h.blk.2))⟩
theorem set_k {w:World}{o:Nat->Nat}{vb ls cap:Nat}{p:Pl}{c:Cd}{e:Nat}{v:Vw}(h:WkM w o vb ls cap p c (e,v))(x:Nat):WkM (w.setCell ⟨vb,7,none⟩ (.int .i64 (x:Nat))) o vb ls cap p c (e,⟨v.tb,v.dn,v.st,v.rd,x⟩)/\Step I2q w o (w.setCell ⟨vb,7,none⟩ (.int .i64 (x:Nat))) o :=
 ⟨⟨h.blk.setq 7 _,h.rs.step ((Step.refl (fun k=>k=1) w o).setCell ⟨vb,7,none⟩ _ h.blk.2) (by decide)⟩,((Step.refl _ w o).setCell ⟨vb,7,none⟩ _ (Or.inl h.blk.2))⟩
theorem halts_c (w:World)(o:Nat->Nat)(vb ls cap:Nat)(p:Pl)(c:Cd)(v:Vw)(s:St)(kn dn:Bool)(S:StOk s)(hM:WkM w o vb ls cap p c (0,v)) :
  Calls Tryd.prog 31 #[.pointer (some ⟨vb,0,none⟩),sV s.1 s.2 kn dn] w (PostQ w o vb ls cap p c (haltF s v)):=by
 obtain⟨l,r⟩:=s;obtain⟨sb,hsb⟩:∃sb,sb=bs l:=⟨_,rfl⟩
 obtain⟨g,hg⟩:∃g,g=w.heap.size:=⟨_,rfl⟩
 obtain⟨w1,hw1⟩:∃w1,w1=w.alloc (.cells #[.string sb,.int .i64 (r:Nat),.bool kn,.bool dn] 51):=⟨_,rfl⟩
 obtain⟨o1,ho1⟩:∃o1,o1=newLab w o 0:=⟨_,rfl⟩
 have S1:Step (fun _=>False) w o w1 o1:=by rw[hw1,ho1];exact new_q o _
 have M1:=hM.step S1 id id;have hb1:w1.heap[g]?=some (.cells #[.string sb,.int .i64 (r:Nat),.bool kn,.bool dn] 51 (0,0)):=by rw[hw1,hg];exact h1G w _
 obtain⟨f0,f1,f2,f3⟩:=box4_cells hb1;obtain⟨⟨-,-,-,-,-,-,-,a7,a8⟩,af⟩:=cells9q M1.blk.1;have af8:=af 8;have af7:=af 7;have HG:=Lib.hid hg;have hsl:sb.size=l.length:=by rw[hsb,bs_size]
 have S1':Step I2q w o w1 o1:=S1.mono (fun _ h=>h.elim);unfold sV;simp only;rw[<-hsb];simp only at a7 a8;have hlen:=S.len;simp only at hlen;clear hg ho1 S1 af hb1 hM;by_cases h1:l.length=1
 case neg =>
  have hh:haltF (l,r) v=(201,v):=by unfold haltF;rw[if_neg (fun x=>h1 x.1)]
  rw[hh];have hI:¬(sb.size:Int)=1:=by omega
  obtain⟨z1,z2⟩:=set_e M1 201;have HZ:=Lib.hid (And.intro z1 (S1'.trans z2));clear M1 S1' z1 z2 hsb hh hsl S h1;go_enter Tryd.func31,Tryd.ntmps31;go_upto_region 1 with fail;rw[<-hw1,<-HG.out];clear hw1;go_wp2
  go_end0
  exact⟨rfl,o1,HZ.out⟩
 case pos =>
 have hI:(sb.size:Int)=1:=by omega
 by_cases h2:r=0
 case neg =>
  have hh:haltF (l,r) v=(201,v):=by unfold haltF;rw[if_neg (fun x=>h2 x.2)]
  rw[hh];have h2I:¬(r:Int)=0:=by omega
  obtain⟨z1,z2⟩:=set_e M1 201;have HZ:=Lib.hid (And.intro z1 (S1'.trans z2));clear M1 S1' z1 z2 hsb hh hsl S h1;go_enter Tryd.func31,Tryd.ntmps31;go_upto_region 1 with fail;rw[<-hw1,<-HG.out];clear hw1;go_wp2
  go_end0
  exact⟨rfl,o1,HZ.out⟩
 case pos =>
 subst h2;have e00:((0:Nat):Int)=0:=rfl;rw[e00] at hw1 f1;obtain⟨k,rfl⟩:∃k,l=[k]:=by
  match l,h1 with
  | [k],_=>exact⟨k,rfl⟩
 have hk:=S.kd k (List.mem_cons_self ..);have hgk:([k]:List Nat).getD 0 0=k:=rfl;obtain⟨u,hu⟩:∃u,u=UInt8.ofNat k:=⟨_,rfl⟩
 have hsb2:sb=⟨#[u]⟩:=by rw[hsb,hu];rfl
 have huk:(u.toNat:Int)=(k:Int):=by rw[hu,UInt8.toNat_ofNat'];omega
 have huk2:u.toNat=k:=by omega
 subst hsb2;have hw64:wrap64 (((⟨#[u]⟩:ByteArray)[0]'(by simp[ByteArray.size])).toNat:Int)=(k:Int):=by
  show wrap64 (u.toNat:Int)=_;rw[huk];unfold wrap64;omega
 have hZ:haltF ([k],0) v=if v.kd≠0/\v.kd≠k then (202,v) else (0,⟨v.tb,v.dn,v.st,v.rd,k⟩):=by
  unfold haltF;rw[if_pos ⟨rfl,rfl⟩];rfl
 by_cases h3:v.kd≠0/\v.kd≠k
 ·rw[hZ,if_pos h3];obtain⟨h4,h5⟩:=h3;have h4I:¬(v.kd:Int)=0:=by omega
  have h5I:¬(v.kd:Int)=(k:Int):=by omega
  have h4b:((v.kd:Int) != 0)=true:=bne_iff_ne.2 h4I;have h5b:((v.kd:Int) != (k:Int))=true:=bne_iff_ne.2 h5I;obtain⟨z1,z2⟩:=set_e M1 202;have HZ:=Lib.hid (And.intro z1 (S1'.trans z2));generalize v.kd=kd at *;clear M1 S1' z1 z2 hsb hsl S h1 hZ hgk hu huk2 e00;go_enter Tryd.func31,Tryd.ntmps31;go_upto_region 1 with fail;rw[<-hw1,<-HG.out];clear hw1;go_wp2
  go_end0
  exact⟨rfl,o1,HZ.out⟩
 ·rw[hZ,if_neg h3];obtain⟨z1,z2⟩:=set_k M1 k;have HZ:=Lib.hid (And.intro z1 (S1'.trans z2));have h3':v.kd=0\/(¬v.kd=0/\v.kd=k):=by omega
  generalize v.kd=kd at *;clear M1 S1' z1 z2 hsb hsl S h1 hZ hgk hu huk2 h3 e00;rcases h3' with rfl|⟨h4,rfl⟩
  ·go_enter Tryd.func31,Tryd.ntmps31;go_upto_region 1 with fail;rw[<-hw1,<-HG.out];clear hw1;go_wp2
   go_end0
   exact⟨rfl,o1,HZ.out⟩
  ·have h4I:¬(kd:Int)=0:=by omega
   go_enter Tryd.func31,Tryd.ntmps31;go_upto_region 1 with fail;rw[<-hw1,<-HG.out];clear hw1;go_wp2
   go_end0
   exact⟨rfl,o1,HZ.out⟩
def goesF (o a b k:Nat)(s d:St)(r:Nat × Vw):Nat × Vw :=
 match ledTo o a b with
 | none=>if o=13 then r else comesF (k+1) s r
 | some q=>comesF q d (if o=13 then r else comesF (k+1) s r)
theorem goes_eq (o a b k:Nat)(s d:St)(v:Vw):goesF o a b k s d (0,v)=goF o a b k s d v:=by
 unfold goesF goF;have e:(if o=13 then (0,v) else comesF (k+1) s (0,v))=(if o=13 then (0,v) else come (k+1) s v):=by
  split
  ·rfl
  ·unfold comesF;rw[if_pos rfl]
 rw[e];generalize (if o=13 then (0,v) else come (k+1) s v)=r;cases ledTo o a b with
 | none=>simp
 | some q=>simp only[comesF]
theorem come_le (q:Nat)(s:St)(v:Vw):(come q s v).1<=1000:=by
 unfold come
 repeat' split
 all_goals simp
theorem goes_c (w:World)(o:Nat->Nat)(vb ls cap:Nat)(p:Pl)(c:Cd)(v:Vw)(n k op a b:Nat)(s d:St)(kn dn:Bool)(hr:rgtB c=true)(Wd:WdR c op a b)(V:VwOk n v)(D:VwD v)(B:VwB v)(S:StOk s)(hd:leadF c op a s=some d)(h24:op=24->0<s.2)(hn:n<=32768)(hk:k<n)(hC:∀ w' o',Step I2q w o w' o'->CdW w' p c)(hM:WkM w o vb ls cap p c (0,v)) :
  Calls Tryd.prog 33 #[.pointer (some ⟨vb,0,none⟩),.int .i64 (k:Nat),.int .i64 (op:Nat),.int .i64 (a:Nat),.int .i64 (b:Nat),sV s.1 s.2 kn dn] w (PostQ w o vb ls cap p c (goF op a b k s d v)):=by
 rw[<-goes_eq];have DO:=lead_ok hr Wd S hd;obtain⟨sb,hsb⟩:∃sb,sb=bs s.1:=⟨_,rfl⟩
 obtain⟨g,hg⟩:∃g,g=w.heap.size:=⟨_,rfl⟩
 obtain⟨w1,hw1⟩:∃w1,w1=w.alloc (.cells #[.string sb,.int .i64 (s.2:Nat),.bool kn,.bool dn] 51):=⟨_,rfl⟩
 obtain⟨o1,ho1⟩:∃o1,o1=newLab w o 0:=⟨_,rfl⟩
 have S1:Step (fun _=>False) w o w1 o1:=by rw[hw1,ho1];exact new_q o _
 have M1:=hM.step S1 id id;have hb1:w1.heap[g]?=some (.cells #[.string sb,.int .i64 (s.2:Nat),.bool kn,.bool dn] 51 (0,0)):=by rw[hw1,hg];exact h1G w _
 have hol:o1 g=0:=by rw[ho1,hg];exact newLab_new (Nat.le_refl _)
 have hgl:g<w1.heap.size:=lt_of_block hb1;have S1':Step I2q w o w1 o1:=S1.mono (fun _ h=>h.elim);obtain⟨f0,f1,f2,f3⟩:=box4_cells hb1;have HG:=Lib.hid hg
 -- the box stands whatever the walk does
 have HX:Hid (∀ w2 o2,Step I2q w1 o1 w2 o2->(w2.cell? ⟨g,0,none⟩=some (.string sb)/\w2.cell? ⟨g,1,none⟩=some (.int .i64 (s.2:Nat))/\w2.cell? ⟨g,2,none⟩=some (.bool kn)/\w2.cell? ⟨g,3,none⟩=some (.bool dn))/\CdW w2 p c):=fun w2 o2 T =>
  ⟨box4_cells ((T.block g hgl (by rw[hol];decide)).trans hb1),hC _ _ (S1'.trans T)⟩
 have hsl:sb.size=s.1.length:=by rw[hsb,bs_size]
 have hSl:=S.len;have CM:=fun (w:World) (o:Nat->Nat) (r:Nat × Vw) (q:Nat) (s:St) (kn dn:Bool) V D B S hq he hM=>comes_c w o vb ls cap p c r n q s kn dn V D B S hn hq he hM;have e1:comesF (k+1) s (0,v)=come (k+1) s v:=by unfold comesF;rw[if_pos rfl]
 have C1:=CM w1 o1 (0,v) (k+1) s kn dn V D B S (by omega) (by simp) M1;have CA:=CM w1 o1 (0,v) a s kn dn V D B S (by have:=Wd.al;omega) (by simp) M1;obtain⟨r1,hr1⟩:∃r1,r1=comesF (k+1) s (0,v):=⟨_,rfl⟩
 have V1:VwOk n r1.2:=by rw[hr1,e1];exact(come_ok V S).1
 have D1:VwD r1.2:=by rw[hr1,e1];exact come_d D
 have B1:VwB r1.2:=by rw[hr1,e1];exact come_b B
 have L1:r1.1<=1000:=by rw[hr1,e1];exact come_le _ _ _
 unfold sV at C1 CA ⊢;rw[<-hsb] at C1 CA ⊢;rw[<-hr1] at C1;have ck:((k+1:Nat):Int)=(k:Int)+1:=by omega
 rw[ck] at C1;have hS2:Hid (∀ w2 o2,WkM w2 o2 vb ls cap p c r1->∀ (q:Nat) (t:St) (kn dn:Bool),StOk t->q<=268435456->Calls Tryd.prog 17 #[.pointer (some ⟨vb,0,none⟩),.int .i64 (q:Nat),sV t.1 t.2 kn dn] w2 (PostQ w2 o2 vb ls cap p c (comesF q t r1))):=fun w2 o2 M q t kn dn T hq=>CM w2 o2 r1 q t kn dn V1 D1 B1 T hq L1 M;have haL:=Wd.al;have hbL:=Wd.bl;have h17:=Wd.c17;have HSB:=Lib.hid hsb;have HR1:=Lib.hid hr1;by_cases o13:op=13
 ·subst o13;have hF:goesF 13 a b k s d (0,v)=comesF a s (0,v):=by
   have e:d=s:=by
    have:leadF c 13 a s=some s:=by unfold leadF;simp
    rw[this] at hd;exact(Option.some.inj hd).symm
   subst e;rfl
  rw[hF];clear hF hM M1 hb1 hol hgl V D B S DO hsb hr1 V1 D1 B1 L1 CM e1 hC Wd hd ho1 hg S1 hsl hSl h24 h17 C1 hS2 HX ck;go_enter Tryd.func33,Tryd.ntmps33;go_upto_region 1 with fail;rw[<-hw1,<-HG.out];clear hw1;go_wp2_with (first|(go_at_call 17;refine CA.mono ?_;rintro e w2 ⟨rfl,o2,M2,S2⟩))
  go_end0
  exact⟨rfl,o2,M2,S1'.trans S2⟩
 have n13:¬(op:Int)=13:=by omega
 by_cases o14:op=14\/op=15
 ·have hF:goesF op a b k s d (0,v)=comesF a s r1:=by
   have e:d=s:=by
    have:leadF c op a s=some s:=by unfold leadF;rw[if_neg (by omega),if_neg (by omega)]
    rw[this] at hd;exact(Option.some.inj hd).symm
   subst e;have e2:ledTo op a b=some a:=by unfold ledTo;rw[if_pos (by omega)]
   unfold goesF;rw[e2,if_neg o13,<-hr1]
  rw[hF];have H2:Hid (∀ w2 o2,WkM w2 o2 vb ls cap p c r1->Calls Tryd.prog 17 #[.pointer (some ⟨vb,0,none⟩),.int .i64 (a:Nat),.agg #[.string sb,.int .i64 (s.2:Nat),.bool kn,.bool dn]] w2 (PostQ w2 o2 vb ls cap p c (comesF a s r1))):=fun w2 o2 M=>by
   have:=hS2.out w2 o2 M a s kn dn S (by omega)
   unfold sV at this;rw[<-HSB.out] at this;exact this
  clear hF hM M1 hb1 hol hgl V D B S DO hsb hr1 V1 D1 B1 L1 CM e1 hC Wd hd ho1 hg S1 hsl hSl h24 h17 hS2 CA ck;rcases o14 with rfl|rfl
  all_goals
   go_enter Tryd.func33,Tryd.ntmps33;go_upto_region 1 with fail;rw[<-hw1,<-HG.out];clear hw1;go_upto_region 3 with (first|(go_at_call 17;refine C1.mono ?_;rintro e w2 ⟨rfl,o2,M2,S2⟩))
   have C2:=H2.out w2 o2 M2;obtain⟨⟨x0,x1,x2,x3⟩,-⟩:=HX.out w2 o2 S2;clear H2 C1 HX;go_wp2_with (first|(go_at_call 17;refine C2.mono ?_;rintro e w3 ⟨rfl,o3,M3,S3⟩))
   go_end0
   exact⟨rfl,o3,M3,(S1'.trans S2).trans S3⟩
 have n14:¬(op:Int)=14:=by omega
 have n15:¬(op:Int)=15:=by omega
 by_cases o17:op=17
 ·subst o17;have hk17:=h17 (Or.inl rfl);have hkd:=kdC_ok hr hk17;have hki:=kdC_int hr hk17;have hle:s.1.length<1024:=by
   by_cases hx:s.1.length<1024
   ·exact hx
   ·exfalso;unfold leadF at hd;rw[if_pos rfl,if_neg hx] at hd;cases hd
  have hdd:d=(s.1++[kdC c a],s.2):=by
   unfold leadF at hd;rw[if_pos rfl,if_pos hle] at hd;exact(Option.some.inj hd).symm
  have hF:goesF 17 a b k s d (0,v)=comesF b d r1:=by
   unfold goesF;rw[if_neg o13,<-hr1];rfl
  rw[hF];have H2:Hid (∀ w2 o2,WkM w2 o2 vb ls cap p c r1->Calls Tryd.prog 17 #[.pointer (some ⟨vb,0,none⟩),.int .i64 (b:Nat),.agg #[.string (sb++bs [kdC c a]),.int .i64 (s.2:Nat),.bool false,.bool false]] w2 (PostQ w2 o2 vb ls cap p c (comesF b d r1))):=fun w2 o2 M=>by
   have:=hS2.out w2 o2 M b d false false DO (by omega)
   unfold sV at this;rw[hdd] at this ⊢;simp only at this;rw[<-bs_app,<-HSB.out] at this;exact this
  have CC:=fun wx=>code_c (kdC c a) wx (by omega);have hz:(bs [kdC c a]).size=1:=bs_size _;have HK:Hid (∀ w2 o2,Step I2q w1 o1 w2 o2->∃kb ko,p.ak=some ⟨kb,ko,none⟩/\kb<w2.heap.size/\w2.cell? ⟨kb,ko+a,none⟩=some (.int .i64 (kdC c a:Nat))):=fun w2 o2 T=>by
   obtain⟨kb,ko,h1,h2,h3⟩:=(HX.out w2 o2 T).2.ks.at (isV_get hk17);rw[hki] at h3;exact⟨kb,ko,h1,h2,h3⟩
  have hlk:=(HX.out w1 o1 (Step.refl _ _ _)).2.lk;generalize bs [kdC c a]=kb8 at *;have hmx:¬maxLen<sb.size+kb8.size:=by unfold maxLen;omega
  clear hz;have hltI:(a:Int)<(c.ks.length:Int):=by omega
  generalize kdC c a=kd at *;clear hF hM M1 hb1 hol V D B S DO hsb hr1 V1 D1 B1 L1 CM e1 hC Wd hd ho1 hg S1 hsl hSl h24 h17 hS2 CA ck hdd hki hk17;go_enter Tryd.func33,Tryd.ntmps33;go_upto_region 1 with fail;rw[<-hw1,<-HG.out];clear hw1;go_upto_region 9 with (first|(go_at_call 17;refine C1.mono ?_;rintro e w2 ⟨rfl,o2,M2,S2⟩))
  obtain⟨kb,ko,hka,hkl,hkc⟩:=HK.out w2 o2 S2;obtain⟨⟨x0,x1,x2,x3⟩,-⟩:=HX.out w2 o2 S2;obtain⟨⟨-,-,-,a3,-,-,-,-,-⟩,-⟩:=cells9q M2.blk.1;rw[hka] at a3;have HKK:Hid (∀ w3,Below w2.drew.heap.size w2.drew w3->(w3.cell? ⟨g,0,none⟩=some (.string sb)/\w3.cell? ⟨g,1,none⟩=some (.int .i64 (s.2:Nat))/\w3.cell? ⟨vb,3,none⟩=some (.slice (some ⟨kb,ko,none⟩) c.ks.length p.ck)/\w3.cell? ⟨kb,ko+a,none⟩=some (.int .i64 (kd:Nat)))/\WkM w3 o2 vb ls cap p c r1/\Step I2q w o w3 o2):=fun w3 B3=>by
   have hgl2:g<w2.heap.size:=Nat.lt_of_lt_of_le hgl S2.size;have B3':Below w2.heap.size w2 w3:=((Below.refl _ w2).drew).trans B3;refine⟨⟨(B3'.cell (p:=⟨g,0,none⟩) hgl2).trans x0,(B3'.cell (p:=⟨g,1,none⟩) hgl2).trans x1,(B3'.cell (p:=⟨vb,3,none⟩) M2.blk.lt).trans a3,(B3'.cell (p:=⟨kb,ko+a,none⟩) hkl).trans hkc⟩,M2.step (Step.ofBelow (I:=fun _=>False) o2 B3') id id,(S1'.trans S2).trans (Step.ofBelow (I:=I2q) o2 B3')⟩
  obtain⟨⟨y0,y1,y2,y3⟩,-,-⟩:=HKK.out w2.drew (Below.refl _ _);clear C1 x0 x1 x2 x3 a3 hkc hgl;have HK4:Hid (∀ w3 w4 o4 r,Below w2.drew.heap.size w2.drew w3->Step I2q w3 o2 w4 o4->WkM w4 o4 vb ls cap p c r->(w4.cell? ⟨g,0,none⟩=some (.string sb)/\w4.cell? ⟨g,1,none⟩=some (.int .i64 (s.2:Nat))/\w4.cell? ⟨vb,3,none⟩=some (.slice (some ⟨kb,ko,none⟩) c.ks.length p.ck)/\w4.cell? ⟨kb,ko+a,none⟩=some (.int .i64 (kd:Nat)))):=fun w3 w4 o4 r B3 S4 M4=>by
   have B3':Below w2.heap.size w2 w3:=((Below.refl _ w2).drew).trans B3;have T:=(S2.trans (Step.ofBelow (I:=I2q) o2 B3')).trans S4;obtain⟨⟨z0,z1,-,-⟩,-⟩:=HX.out w4 o4 T;obtain⟨kb',ko',hka',-,hkc'⟩:=HK.out w4 o4 T;rw[hka] at hka';cases hka';obtain⟨⟨-,-,-,z3,-,-,-,-,-⟩,-⟩:=cells9q M4.blk.1;rw[hka] at z3;exact⟨z0,z1,z3,hkc'⟩
  clear HK HX;go_region_held (fun wx=>wx.cell? ⟨g,0,none⟩=some (.string sb)/\wx.cell? ⟨g,1,none⟩=some (.int .i64 (s.2:Nat))/\wx.cell? ⟨vb,3,none⟩=some (.slice (some ⟨kb,ko,none⟩) c.ks.length p.ck)/\wx.cell? ⟨kb,ko+a,none⟩=some (.int .i64 (kd:Nat))) (go_keep) (first|(go_at_call 47;refine(CC _).mono ?_;rintro e w3 ⟨rfl,B3⟩;obtain⟨⟨y0,y1,y2,y3⟩,M3,S3⟩:=HKK.out w3 B3;have C2:=H2.out w3 o2 M3)|(go_at_call 17;refine C2.mono ?_;rintro e w4 ⟨rfl,o4,M4,S4⟩;obtain⟨y0,y1,y2,y3⟩:=HK4.out w3 w4 o4 _ B3 S4 M4))
  all_goals go_end0
  all_goals exact⟨rfl,o4,M4,S3.trans S4⟩
 have n17:¬(op:Int)=17:=by omega
 by_cases o24:op=24
 ·subst o24;have h24':=h24 rfl;have hdd:d=(s.1,s.2-1):=by
   unfold leadF at hd;rw[if_neg (by omega),if_pos rfl] at hd;exact(Option.some.inj hd).symm
  have hF:goesF 24 a b k s d (0,v)=comesF a d r1:=by
   unfold goesF;rw[if_neg o13,<-hr1];rfl
  rw[hF];have hsub:((s.2:Nat):Int)-1=((s.2-1:Nat):Int):=by omega
  have H2:Hid (∀ w2 o2,WkM w2 o2 vb ls cap p c r1->Calls Tryd.prog 17 #[.pointer (some ⟨vb,0,none⟩),.int .i64 (a:Nat),.agg #[.string sb,.int .i64 ((s.2:Int)-1),.bool false,.bool false]] w2 (PostQ w2 o2 vb ls cap p c (comesF a d r1))):=fun w2 o2 M=>by
   have:=hS2.out w2 o2 M a d false false DO (by omega)
   unfold sV at this;rw[hdd] at this ⊢;simp only at this;rw[<-HSB.out,<-hsub] at this;exact this
  have hrd:=S.rd;clear hF hM M1 hb1 hol hgl V D B S DO hsb hr1 V1 D1 B1 L1 CM e1 hC Wd hd ho1 hg S1 hsl hSl h24 h17 hS2 CA ck hdd hsub;go_enter Tryd.func33,Tryd.ntmps33;go_upto_region 1 with fail;rw[<-hw1,<-HG.out];clear hw1;go_upto_region 3 with (first|(go_at_call 17;refine C1.mono ?_;rintro e w2 ⟨rfl,o2,M2,S2⟩))
  have C2:=H2.out w2 o2 M2;obtain⟨⟨x0,x1,x2,x3⟩,-⟩:=HX.out w2 o2 S2;clear H2 C1 HX;go_wp2_with (first|(go_at_call 17;refine C2.mono ?_;rintro e w3 ⟨rfl,o3,M3,S3⟩))
  go_end0
  exact⟨rfl,o3,M3,(S1'.trans S2).trans S3⟩
 have n24:¬(op:Int)=24:=by omega
 ·have hF:goesF op a b k s d (0,v)=r1:=by
   have e2:ledTo op a b=none:=by unfold ledTo;rw[if_neg (by omega),if_neg (by omega)]
   unfold goesF;rw[e2];simp only;rw[if_neg o13,<-hr1]
  rw[hF];clear hF hM M1 hb1 hol hgl V D B S DO hsb hr1 V1 D1 B1 L1 CM e1 hC Wd hd ho1 hg S1 hsl hSl h24 h17 hS2 CA ck;go_enter Tryd.func33,Tryd.ntmps33;go_upto_region 1 with fail;rw[<-hw1,<-HG.out];clear hw1;go_wp2_with (first|(go_at_call 17;refine C1.mono ?_;rintro e w2 ⟨rfl,o2,M2,S2⟩))
  go_end0
  exact⟨rfl,o2,M2,S1'.trans S2⟩
theorem rword_yes (o a b:Int)(w:World)(h1:0<=o)(h2:o<=255)(h3:0<=a)(h4:a<=268435455)(h5:0<=b)(h6:b<=268435455) :
  Calls Tryd.prog 25 #[.int .i64 o,.int .i64 a,.int .i64 b] w fun e w' =>
   e=.returned (.tuple #[.int .u64 ((o*268435456+a)*268435456+b),.int .i64 0])/\w'=w:=by
 go_enter Tryd.func25,Tryd.ntmps25;go_wp2;go_ret2;exact⟨rfl,rfl⟩
theorem ret_high {k l m:IntKind}{a b c d:Int}(h:a=b):Ending.returned (.tuple #[.int k a,.int l c,.int m d])=.returned (.tuple #[.int k b,.int l c,.int m d]):=by rw[h]
theorem rparts_any (u:Int)(w:World)(h1:0<=u)(h2:u<18446744073709551616) :
  Calls Tryd.prog 30 #[.int .u64 u] w fun e w' =>
   e=.returned (.tuple #[.int .i64 (u / 72057594037927936),.int .i64 (u / 268435456 % 268435456),.int .i64 (u % 268435456)])/\w'=w:=by
 go_enter Tryd.func30,Tryd.ntmps30;go_wp2;go_ret3;exact⟨ret_high (by omega),rfl⟩
end Go.Proofs.YtpdfdhkdfkhfkaaDoor

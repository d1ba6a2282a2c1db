import Derived.Test.YtbjdkekhnajafaaGreatDoorSynQ
import Derived.Lib.AtoiAllCases
set_option maxRecDepth 100000
set_option maxHeartbeats 8000000
namespace Go.Proofs.YtbjdkekhnajafaaGreatDoor
open Go.ChangeShapes Go.WideShapes Go.ChangeAt Go.RowKit
set_option linter.unusedVariables false
set_option linter.unusedSimpArgs false
theorem QS.bad5 {w:World}{rb o q er a:Nat}{all:List Tk}(h:QS w rb all o q (.inl (er,a))):((er:Int)==0)=false/\w.cell? ⟨rb,4,none⟩=some (.int .i64 (er:Nat))/\w.cell? ⟨rb,5,none⟩=some (.int .i64 (a:Nat)):=by
 obtain⟨i,o',q',h1,h2,h3⟩:=h;obtain⟨_,_,_,_,_,_,_,_,_,_,_,c4,c5,hf0⟩:=h1.next (List.getElem?_eq_getElem h2);exact⟨by simp;omega,c4,c5⟩
theorem QS.new {w:World}{g cap0:Nat}{ts:List Tk}(hg:g<w.heap.size)(hc:∀ j u,(tcells ts)[j]?=some u->w.cell? ⟨g,j,none⟩=some u)(hl:ts.length<=3000)(hc1:ts.length<=cap0)(hc2:cap0<=maxLen)(hw:WFT ts) :
  QS (w.alloc (.cells #[.slice (some ⟨g,0,none⟩) ts.length cap0,.int .i64 0,.int .i64 0,.int .i64 0,.int .i64 0,.int .i64 0] 70)) w.heap.size ts 0 0 (.inr ts) :=
 ⟨0,0,⟨g,cap0,heap_alloc_new w _,hg,fun j u hu=>(((Below.refl _ w).alloc (Nat.le_refl _) _).cell (p:=⟨g,j,none⟩) hg).trans (hc j u hu),hl,hc1,hc2⟩,rfl,hw,by omega,by omega⟩
theorem own_cells {w:World}{b0:Nat}{v:Value}{ts:List Tk}(hT:w.ownsRow b0 73 4 v ts.length (tcells ts))(h0:0<ts.length):∃g cap,v=.slice (some ⟨g,0,none⟩) ts.length cap/\g<w.heap.size/\ts.length<=cap/\cap<=maxLen/\∀ j u,(tcells ts)[j]?=some u->w.cell? ⟨g,j,none⟩=some u:=by
 have r0:Row w (fun _=>0) 0 73 4 v ts.length (tcells ts):=⟨ownsRow_base0 hT,fun _ _=>rfl⟩
 obtain⟨g,cap,rfl,-,hc1,hc2,hg,hcell,-⟩:=r0.pos h0;refine⟨g,cap,rfl,hg,hc1,hc2,fun j u hu=>?_⟩;rw[hcell j ?_]
 ·exact hu
 ·have hlen:=r0.len;rw[<-hlen];by_cases hj:j<(tcells ts).length
  ·exact hj
  ·rw[List.getElem?_eq_none (by omega)] at hu;cases hu
theorem read_bad {n:Nat}{ts:List Tk}{X:Ex}{er a:Nat}(hn:Nou (partF n 1 0 0) (.inr ts))(Q:Qd (partF n 1 0 0) (.inr ts) X (.inl (er,a))):readF n ts=.bad er a:=by
 have h1:=Q.1;simp only[onw] at h1;unfold readF;cases hp:partF n 1 0 0 ts using Rs.on with
 | out=>exact absurd hp (hn ts rfl)
 | bad e2 a2 =>
  rw[hp] at h1;simp only[stp] at h1;injection h1 with h1
  injection h1 with h1 h2
  subst h1 h2;rfl
 | ok y t=>rw[hp] at h1;cases h1
theorem read_good {n:Nat}{ts:List Tk}{X:Ex}{y:Tk}{r:List Tk}(hn:Nou (partF n 1 0 0) (.inr ts))(Q:Qd (partF n 1 0 0) (.inr ts) X (.inr (y::r))):readF n ts=if y.k=0 then .ok X (y::r) else .bad 120 y.a:=by
 have h1:=Q.1;simp only[onw] at h1;unfold readF;cases hp:partF n 1 0 0 ts using Rs.on with
 | out=>exact absurd hp (hn ts rfl)
 | bad e2 a2=>rw[hp] at h1;cases h1
 | ok z t =>
  rw[hp] at h1;simp only[stp] at h1;injection h1 with h1
  subst h1;rw[Q.2 ts z _ rfl hp];rfl
theorem parse_q (s:ByteArray)(w:World)(hs:s.size<=maxLen) :
  Calls Tryz.prog 10 #[.string s] w (PostR w (parseA s.data.toList)):=by
 obtain⟨W,hPW⟩:∃W,W=parseA s.data.toList:=⟨_,rfl⟩
 rw[<-hPW];have HW:Hid (W=parseA s.data.toList):=hPW;have hn:W≠.out:=by rw[hPW];exact parse_fine _
 have B0:Below w.heap.size w (w.alloc exZ):=(Below.refl _ w).alloc (Nat.le_refl _) _;have Z0:(w.alloc exZ).heap[w.heap.size]?=some exZ:=heap_alloc_new w _;have hs0:w.heap.size<(w.alloc exZ).heap.size:=by simp
 have c1:=rscan_c s (w.alloc exZ) hs;clear hPW;go_enter Tryz.func10,Tryz.ntmps10;go_wp2_with fail;refine c1.mono ?_;rintro e w1 ⟨v,er,at0,rfl,hO,b1⟩;have B1:Below w.heap.size w w1:=B0.trans (b1.mono (by omega));have Z1:=(b1.block _ hs0).trans Z0;have hz1:w.heap.size<w1.heap.size:=lt_of_block Z1;clear c1 b1 Z0 B0;rcases hO with ⟨e,p,hR,rfl,rfl,rfl⟩|⟨ts,hR,rfl,rfl,hown⟩
 ·have he:=scan_err_pos hR;have heI:((e:Int)==0)=false:=by rw[beq_eq_false_iff_ne];omega
  have heI2:((e:Int) != 0)=true:=by simpa using heI
  have FIN:Hid (W=.bad e p):=by show W=_;rw[HW.out];unfold parseA;rw[hR]
  have B9:=((((B1.setCell (p:=⟨w.heap.size,0,none⟩) (Nat.le_refl _) (.int .i64 0)).setCell (p:=⟨w.heap.size,1,none⟩) (Nat.le_refl _) (.int .i64 0)).setCell (p:=⟨w.heap.size,2,none⟩) (Nat.le_refl _) (.string ⟨#[]⟩)).setCell (p:=⟨w.heap.size,3,none⟩) (Nat.le_refl _) (.slice none 0 0)).setCell (p:=⟨w.heap.size,4,none⟩) (Nat.le_refl _) (.int .i64 0);have ZE:=set5k (.int .i64 0) (.int .i64 0) (.string ⟨#[]⟩) (.slice none 0 0) (.int .i64 0) Z1;have HU:Hid (∃wz,wz=(World.setCell (World.setCell (World.setCell (World.setCell (World.setCell w1 ⟨w.heap.size,0,none⟩ (.int .i64 0)) ⟨w.heap.size,1,none⟩ (.int .i64 0)) ⟨w.heap.size,2,none⟩ (.string ⟨#[]⟩)) ⟨w.heap.size,3,none⟩ (.slice none 0 0)) ⟨w.heap.size,4,none⟩ (.int .i64 0))/\wz.cell? ⟨w.heap.size,0,none⟩=some (.int .i64 0)/\wz.cell? ⟨w.heap.size,1,none⟩=some (.int .i64 0)/\wz.cell? ⟨w.heap.size,2,none⟩=some (.string ⟨#[]⟩)/\wz.cell? ⟨w.heap.size,3,none⟩=some (.slice none 0 0)/\wz.cell? ⟨w.heap.size,4,none⟩=some (.int .i64 0)/\Below w.heap.size w wz):=by
   obtain⟨u0,u1,u2,u3,u4,-⟩:=box5 ZE;exact⟨_,rfl,u0,u1,u2,u3,u4,B9⟩
  obtain⟨z0,z1,z2,z3,z4,zf⟩:=box5 Z1;clear ZE B9;clear HW hR B1 Z1 he;go_wp2;obtain⟨wz,hwz,u0,u1,u2,u3,u4,BZ⟩:=HU.out;clear HU;rw[<-hwz];clear hwz;exact bodyPost_ret (v:=.tuple #[exV noEx none 0,.int .i64 (e:Nat),.int .i64 (p:Nat)]) (by simp[results,Tryz.results10,go_sem,u0,u1,u2,u3,u4,exV,noEx,Fs.len]) rfl (by rw[FIN.out];exact⟨rfl,BZ⟩)
 ·have hso:=scan_ok hR;have hPW:W=readF 30000 ts:=by rw[HW.out];unfold parseA;rw[hR]
  have HW2:Hid (W=readF 30000 ts):=hPW;have hNou:Nou (partF 30000 1 0 0) (.inr ts):=fun t0 h0 e=>hn (by cases h0;rw[hPW];unfold readF;rw[e];rfl);have hwf:WFT ts:=lex_wft _ _ _ _ _ _ hso.2.1;have TI:∀ x,x ∈ ts->TokI x:=fun x hx s h1 h2=>(scan_w hR x hx).is h1 h2;obtain⟨g,cap0,rfl,hg,hc1,hc2,hcell⟩:=own_cells hown hso.2.2.2.2.1;have hA:=QS.new hg hcell (by omega) hc1 hc2 hwf;have kA:=(Keep.refl w1.heap.size w1).alloc (.cells #[.slice (some ⟨g,0,none⟩) ts.length cap0,.int .i64 0,.int .i64 0,.int .i64 0,.int .i64 0,.int .i64 0] 70);have ZA:=(Below.heap_alloc w1 (.cells #[.slice (some ⟨g,0,none⟩) ts.length cap0,.int .i64 0,.int .i64 0,.int .i64 0,.int .i64 0,.int .i64 0] 70) _ hz1).trans Z1;have BA:=B1.alloc (by omega) (.cells #[.slice (some ⟨g,0,none⟩) ts.length cap0,.int .i64 0,.int .i64 0,.int .i64 0,.int .i64 0,.int .i64 0] 70);have c2:=(rec_all 30000 (by omega)).1 _ _ ts 1 0 0 _ TI (by omega) (by omega) hA hNou;have hsA:(w1.alloc (.cells #[.slice (some ⟨g,0,none⟩) ts.length cap0,.int .i64 0,.int .i64 0,.int .i64 0,.int .i64 0,.int .i64 0] 70)).heap.size=w1.heap.size+1:=by simp
  have hrb:=hA.lt;clear HW hR hso hown hPW hcell hA hwf TI hn hg hc1 hc2 kA;go_wp2_with fail;refine c2.mono ?_;rintro e w2 ⟨X,ao,cap,st,rfl,S2,h2,k2,Q2⟩;have b2:=k2.below (Nat.le_of_lt hz1) hrb;have Z2:=k2.blk ZA (by omega);have B2:=BA.trans b2;have hz2:w.heap.size<w2.heap.size:=lt_of_block Z2;have h3:=h2.alloc (bxE X ao cap);have Z3:=(Below.heap_alloc w2 (bxE X ao cap) _ hz2).trans Z2;have B3:=B2.alloc (by omega) (bxE X ao cap);have X3:(w2.alloc (bxE X ao cap)).heap[w2.heap.size]?=some (bxE X ao cap):=heap_alloc_new w2 _;have S3:=S2.allocN (bxE X ao cap);have hz3:w1.heap.size<w2.heap.size:=h2.lt;rw[exV_out];go_upto_region 6 with fail;generalize w2.alloc (bxE X ao cap)=w3 at *;obtain⟨xb,hxb⟩:∃xb,xb=w2.heap.size:=⟨_,rfl⟩
  rw[<-hxb] at X3 hz3 ⊢;have hxw:w.heap.size<xb:=by omega
  have hwr:w.heap.size<w1.heap.size:=hz1;have S3:=S3.low (show w.heap.size+1<=_ from (by omega));clear c2 S2 h2 k2 b2 Z2 B2 BA ZA B1 Z1 hz2 hxb hsA hrb;generalize w1.heap.size=rb at *
  match st,h3,Q2 with
  | .inl (er,a),h3,Q2 =>
   have FIN:Hid (W=.bad er a):=by show W=_;rw[HW2.out];exact read_bad hNou Q2
   clear HW2 Q2 hNou;obtain⟨hb,d4,d5⟩:=h3.bad5;have hb2:((er:Int) != 0)=true:=by simpa using hb
   go_quiet (fail)
   have b4:Below w3.heap.size w3 (w3.drewN nq):=bdr (Below.refl _ _) nq;have h4:=h3.below b4;have Z4:=(b4.block _ (lt_of_block Z3)).trans Z3;have B4:=B3.trans (b4.mono B3.size);generalize w3.drewN nq=w4 at *;clear b4 h3 Z3 B3 X3 S3 hb d4 d5 hb2;obtain⟨hb,d4,d5⟩:=h4.bad5;have hb2:((er:Int) != 0)=true:=by simpa using hb
   have B9:=((((B4.setCell (p:=⟨w.heap.size,0,none⟩) (Nat.le_refl _) (.int .i64 0)).setCell (p:=⟨w.heap.size,1,none⟩) (Nat.le_refl _) (.int .i64 0)).setCell (p:=⟨w.heap.size,2,none⟩) (Nat.le_refl _) (.string ⟨#[]⟩)).setCell (p:=⟨w.heap.size,3,none⟩) (Nat.le_refl _) (.slice none 0 0)).setCell (p:=⟨w.heap.size,4,none⟩) (Nat.le_refl _) (.int .i64 0);have ZE:=set5k (.int .i64 0) (.int .i64 0) (.string ⟨#[]⟩) (.slice none 0 0) (.int .i64 0) Z4;have HU:Hid (∃wz,wz=(World.setCell (World.setCell (World.setCell (World.setCell (World.setCell w4 ⟨w.heap.size,0,none⟩ (.int .i64 0)) ⟨w.heap.size,1,none⟩ (.int .i64 0)) ⟨w.heap.size,2,none⟩ (.string ⟨#[]⟩)) ⟨w.heap.size,3,none⟩ (.slice none 0 0)) ⟨w.heap.size,4,none⟩ (.int .i64 0))/\wz.cell? ⟨w.heap.size,0,none⟩=some (.int .i64 0)/\wz.cell? ⟨w.heap.size,1,none⟩=some (.int .i64 0)/\wz.cell? ⟨w.heap.size,2,none⟩=some (.string ⟨#[]⟩)/\wz.cell? ⟨w.heap.size,3,none⟩=some (.slice none 0 0)/\wz.cell? ⟨w.heap.size,4,none⟩=some (.int .i64 0)/\Below w.heap.size w wz):=by
    obtain⟨u0,u1,u2,u3,u4,-⟩:=box5 ZE;exact⟨_,rfl,u0,u1,u2,u3,u4,B9⟩
   obtain⟨z0,z1,z2,z3,z4,zf⟩:=box5 Z4;clear ZE B9;clear h4 B4 Z4;go_upto_region 9 with fail;go_region
   all_goals
    go_wp2;obtain⟨wz,hwz,u0,u1,u2,u3,u4,BZ⟩:=HU.out;clear HU;have BZd:=BZ.drew;rw[<-hwz];clear hwz;exact bodyPost_ret (v:=.tuple #[exV noEx none 0,.int .i64 (er:Nat),.int .i64 (a:Nat)]) (by simp[results,Tryz.results10,go_sem,u0,u1,u2,u3,u4,exV,noEx,Fs.len]) rfl (by rw[FIN.out];exact⟨rfl,BZd⟩)
  | .inr [],h3,Q2=>exact absurd rfl (h3.nn [] rfl)
  | .inr (y::r),h3,Q2 =>
   have FIN0:Hid (W=if y.k=0 then .ok X (y::r) else .bad 120 y.a):=by show W=_;rw[HW2.out];exact read_good hNou Q2
   clear HW2 Q2 hNou;obtain⟨i3,g3,cap3,L3,hg3,hi3,hcL3,hcap3,hL3,hm3,d0,d1,-,-,d4,⟨t0,t1,t2,t3⟩,hf⟩:=h3.ok;have hiI:(i3:Int)<(L3:Int):=by omega
   by_cases hk:y.k=0
   ·have FIN:Hid (W=.ok X (y::r)):=by show W=_;rw[FIN0.out,if_pos hk]
    have bk:((y.k:Int)==0)=true:=by simp[hk]
    have bk2:((y.k:Int) != 0)=false:=by simp[hk]
    clear FIN0 hk
    go_quiet (fail)
    have b4:Below w3.heap.size w3 (w3.drewN nq):=bdr (Below.refl _ _) nq;have e4:=(b4.cell (p:=⟨rb,4,none⟩) h3.lt).trans d4;have Z4:=(b4.block _ (lt_of_block Z3)).trans Z3;have X4:=(b4.block _ (lt_of_block X3)).trans X3;have B4:=B3.trans (b4.mono B3.size);have S4:=S3.mono (fun i _ hl=>b4.block i hl) b4.size (fun _ h _=>h);generalize w3.drewN nq=w4 at *;clear b4 h3 Z3 B3 X3 S3 d0 d1 d4 t0 t1 t2 t3 hf hm3 bk bk2;have B9:=((((B4.setCell (p:=⟨w.heap.size,0,none⟩) (Nat.le_refl _) (.int .i64 X.k)).setCell (p:=⟨w.heap.size,1,none⟩) (Nat.le_refl _) (.int .i64 X.n)).setCell (p:=⟨w.heap.size,2,none⟩) (Nat.le_refl _) (stv X.nm)).setCell (p:=⟨w.heap.size,3,none⟩) (Nat.le_refl _) (.slice ao X.kids.len cap)).setCell (p:=⟨w.heap.size,4,none⟩) (Nat.le_refl _) (.int .i64 X.a);have ZE:=set5k (.int .i64 X.k) (.int .i64 X.n) (stv X.nm) (.slice ao X.kids.len cap) (.int .i64 X.a) Z4;have SE:Sl _ (Nw w.heap.size) _ _:=(S4.set5 (b:=w.heap.size) (by omega) (.int .i64 X.k) (.int .i64 X.n) (stv X.nm) (.slice ao X.kids.len cap) (.int .i64 X.a)).low (by omega);obtain⟨z0,z1,z2,z3,z4,zf⟩:=box5 Z4;obtain⟨x0,x1,x2,x3,x4,xf⟩:=box5 X4;obtain⟨u0,u1,u2,u3,u4,-⟩:=box5 ZE;clear ZE Z4 X4 B4 S4;go_wp2;exact bodyPost_ret (v:=.tuple #[exV X ao cap,.int .i64 0,.int .i64 0]) (by simp[results,Tryz.results10,go_sem,u0,u1,u2,u3,u4,exV]) rfl (by rw[FIN.out];exact⟨ao,cap,rfl,SE,B9⟩)
   ·have FIN:Hid (W=.bad 120 y.a):=by show W=_;rw[FIN0.out,if_neg hk]
    have bk:((y.k:Int)==0)=false:=by simp;omega
    have bk2:((y.k:Int) != 0)=true:=by simp;omega
    clear FIN0 hk
    go_quiet (fail)
    have b4:Below w3.heap.size w3 (w3.drewN nq):=bdr (Below.refl _ _) nq;have h4:=h3.below b4;have Z4:=(b4.block _ (lt_of_block Z3)).trans Z3;have B4:=B3.trans (b4.mono B3.size);generalize w3.drewN nq=w4 at *;clear b4 h3 Z3 B3 X3 S3 d0 d1 d4 t0 t1 t2 t3 hf hm3 bk bk2;have c5:Calls Tryz.prog 35 #[.pointer (some ⟨rb,0,none⟩),.int .i64 120] w4 fun r' w'=>r'=.returned (.tuple #[])/\QS w' rb ts 0 0 (.inl (120,y.a))/\Keep rb w4 w':=fail_s 120 (by decide) h4;have hr4:=h4.lt;go_wp2_with fail;refine c5.mono ?_;rintro e w5 ⟨rfl,h5,k5⟩;have Z5:=k5.blk Z4 (by omega);have B5:=B4.trans (k5.below (Nat.le_of_lt hwr) hr4);clear c5 k5 Z4 B4 h4 hr4;obtain⟨hb,d4,d5⟩:=h5.bad5;have hb2:((120:Int) != 0)=true:=by decide
    have B9:=((((B5.setCell (p:=⟨w.heap.size,0,none⟩) (Nat.le_refl _) (.int .i64 0)).setCell (p:=⟨w.heap.size,1,none⟩) (Nat.le_refl _) (.int .i64 0)).setCell (p:=⟨w.heap.size,2,none⟩) (Nat.le_refl _) (.string ⟨#[]⟩)).setCell (p:=⟨w.heap.size,3,none⟩) (Nat.le_refl _) (.slice none 0 0)).setCell (p:=⟨w.heap.size,4,none⟩) (Nat.le_refl _) (.int .i64 0);have ZE:=set5k (.int .i64 0) (.int .i64 0) (.string ⟨#[]⟩) (.slice none 0 0) (.int .i64 0) Z5;have HU:Hid (∃wz,wz=(World.setCell (World.setCell (World.setCell (World.setCell (World.setCell w5 ⟨w.heap.size,0,none⟩ (.int .i64 0)) ⟨w.heap.size,1,none⟩ (.int .i64 0)) ⟨w.heap.size,2,none⟩ (.string ⟨#[]⟩)) ⟨w.heap.size,3,none⟩ (.slice none 0 0)) ⟨w.heap.size,4,none⟩ (.int .i64 0))/\wz.cell? ⟨w.heap.size,0,none⟩=some (.int .i64 0)/\wz.cell? ⟨w.heap.size,1,none⟩=some (.int .i64 0)/\wz.cell? ⟨w.heap.size,2,none⟩=some (.string ⟨#[]⟩)/\wz.cell? ⟨w.heap.size,3,none⟩=some (.slice none 0 0)/\wz.cell? ⟨w.heap.size,4,none⟩=some (.int .i64 0)/\Below w.heap.size w wz):=by
     obtain⟨u0,u1,u2,u3,u4,-⟩:=box5 ZE;exact⟨_,rfl,u0,u1,u2,u3,u4,B9⟩
    obtain⟨z0,z1,z2,z3,z4,zf⟩:=box5 Z5;clear ZE B9;clear h5 B5 Z5;go_upto_region 9 with fail;go_region
    all_goals
     go_wp2;obtain⟨wz,hwz,u0,u1,u2,u3,u4,BZ⟩:=HU.out;clear HU;have BZd:=BZ.drew;rw[<-hwz];clear hwz;exact bodyPost_ret (v:=.tuple #[exV noEx none 0,.int .i64 (120:Nat),.int .i64 (y.a:Nat)]) (by simp[results,Tryz.results10,go_sem,u0,u1,u2,u3,u4,exV,noEx,Fs.len]) rfl (by rw[FIN.out];exact⟨rfl,BZd⟩)
def tkG (x:Tk):Prop:=-9223372036854775808<=x.n/\x.n<=9223372036854775807/\x.t.length<=2000/\x.a<=2000
def Fs.gd:Fs->Prop
 | ⟨none⟩=>True
 | ⟨some ⟨_,n,nm,a,ks,r⟩⟩=>-9223372036854775808<=n/\n<=9223372036854775807/\nm.length<=2000/\0<=a/\a<=2000/\ks.gd/\r.gd
theorem Fs.gd_app:∀ {x y:Fs},x.gd->y.gd->(x.app y).gd
 | ⟨none⟩,y,h,k=>k
 | ⟨some ⟨_,_,_,_,_,r⟩⟩,y,h,k=>⟨h.1,h.2.1,h.2.2.1,h.2.2.2.1,h.2.2.2.2.1,h.2.2.2.2.2.1,Fs.gd_app h.2.2.2.2.2.2 k⟩
def Ex.gd (e:Ex):Prop:=(one e).gd
def Ex.sz (e:Ex):Nat:=(one e).size
theorem Ex.gd_mk {k n:Int}{nm:List UInt8}{a:Nat}{ks:Fs}(h1:-9223372036854775808<=n)(h2:n<=9223372036854775807)(h3:nm.length<=2000)(h4:a<=2000)(h5:ks.gd):(⟨k,n,nm,(a:Nat),ks⟩:Ex).gd:=⟨h1,h2,h3,by show (0:Int)<=(a:Nat);omega,by show ((a:Nat):Int)<=2000;omega,h5,trivial⟩
theorem Ex.sz_mk (k n:Int)(nm:List UInt8)(a:Int)(ks:Fs):(⟨k,n,nm,a,ks⟩:Ex).sz=ks.size+1:=rfl
theorem gd_snoc {x:Fs}{e:Ex}(h:x.gd)(k:e.gd):(x.snoc e).gd:=Fs.gd_app h k
theorem sz_snoc (x:Fs)(e:Ex):(x.snoc e).size=x.size+e.sz:=Fs.size_app x (one e)
def Gb {α:Type}(T:List Tk)(b:Nat)(P:α->Prop)(sz:α->Nat)(R:Rs α):Prop:=∀ x t,R=.ok x t->t <:+ T/\P x/\sz x+t.length<=b
section
variable {T:List Tk}
theorem Gb.bind {α β:Type}{b1 b:Nat}{P:α->Prop}{sz:α->Nat}{Q:β->Prop}{sq:β->Nat}{R:Rs α}{f:α->List Tk->Rs β}(h:Gb T b1 P sz R)(hf:∀ x t,t <:+ T->P x->sz x+t.length<=b1->Gb T b Q sq (f x t)):Gb T b Q sq (R.bind f):=by
 cases R using Rs.on with
 | out=>intro x t e;cases e
 | bad e a=>intro x t e;cases e
 | ok x t =>
  obtain⟨h1,h2,h3⟩:=h x t rfl;exact hf x t h1 h2 h3
theorem Gb.bad {α:Type}{b e a:Nat}{P:α->Prop}{sz:α->Nat}:Gb T b P sz (.bad e a:Rs α):=fun x t h=>by cases h
theorem Gb.out {α:Type}{b:Nat}{P:α->Prop}{sz:α->Nat}:Gb T b P sz (.out:Rs α):=fun x t h=>by cases h
theorem Gb.ok {α:Type}{b:Nat}{P:α->Prop}{sz:α->Nat}{x:α}{t:List Tk}(h:t <:+ T)(hp:P x)(hs:sz x+t.length<=b):Gb T b P sz (.ok x t):=fun y u e=>by
 obtain⟨e1,e2⟩:=Rs.ok_inj e;subst e1 e2;exact⟨h,hp,hs⟩
theorem gb_pass (HT:∀ y,y ∈ T->tkG y)(s:List UInt8){ts:List Tk}(h:ts <:+ T):Gb T ts.length (fun a=>a<=2000) (fun _=>1) (passT s ts):=by
 cases ts with
 | nil=>exact Gb.out
 | cons x r =>
  simp only[passT];split
  ·exact Gb.ok ((List.suffix_cons x r).trans h) (HT x (h.mem (by simp))).2.2.2 (by simp;omega)
  ·exact Gb.bad
theorem gb_kind (HT:∀ y,y ∈ T->tkG y)(k:Nat){ts:List Tk}(h:ts <:+ T):Gb T ts.length tkG (fun _=>1) (passK k ts):=by
 cases ts with
 | nil=>exact Gb.out
 | cons x r =>
  simp only[passK];split
  ·exact Gb.ok ((List.suffix_cons x r).trans h) (HT x (h.mem (by simp))) (by simp;omega)
  ·exact Gb.bad
theorem gb_enter (HT:∀ y,y ∈ T->tkG y)(s:List UInt8)(o:Nat){ts:List Tk}(h:ts <:+ T):Gb T ts.length (fun a=>a<=2000) (fun _=>1) (enterT s o ts):=by
 cases ts with
 | nil=>exact Gb.out
 | cons x r =>
  simp only[enterT];split
  ·split
   ·exact Gb.bad
   ·exact Gb.ok ((List.suffix_cons x r).trans h) (HT x (h.mem (by simp))).2.2.2 (by simp;omega)
  ·exact Gb.bad
variable {rec:Rdr}
theorem gb_argsL (HT:∀ y,y ∈ T->tkG y)(H:∀ row o q ts,ts <:+ T->Gb T ts.length Ex.gd Ex.sz (rec row o q ts)):∀ (j:Nat) (o q:Nat) (acc:Fs) (ts:List Tk) (b:Nat),ts <:+ T->acc.gd->acc.size+ts.length<=b->Gb T b Fs.gd Fs.size (argsL rec j o q acc ts)
 | 0,o,q,acc,ts,b,h,hg,hb=>Gb.ok h hg hb
 | j+1,o,q,acc,ts,b,h,hg,hb=>by
  unfold argsL;refine(gb_pass HT _ h).bind fun _ t1 h1 _ l1=>(H _ _ _ _ h1).bind fun e t2 h2 p2 l2=>?_;exact gb_argsL HT H j o q _ t2 b h2 (gd_snoc hg p2) (by rw[sz_snoc];omega)
theorem gb_args (HT:∀ y,y ∈ T->tkG y)(H:∀ row o q ts,ts <:+ T->Gb T ts.length Ex.gd Ex.sz (rec row o q ts))(many o q:Nat){ts:List Tk}(h:ts <:+ T):Gb T (ts.length-1) Fs.gd Fs.size (argsR rec many o q ts):=by
 unfold argsR;refine(gb_enter HT _ _ h).bind fun _ t1 h1 _ l1=>(H _ _ _ _ h1).bind fun e t2 h2 p2 l2=>?_;refine(gb_argsL HT H _ _ _ _ t2 t1.length h2 p2 l2).bind fun ks t3 h3 p3 l3=>?_;exact(gb_pass HT _ h3).bind fun _ t4 h4 _ l4=>Gb.ok h4 p3 (by omega)
theorem gb_choice (HT:∀ y,y ∈ T->tkG y)(H:∀ row o q ts,ts <:+ T->Gb T ts.length Ex.gd Ex.sz (rec row o q ts))(o q:Nat){ts:List Tk}(h:ts <:+ T):Gb T ts.length Ex.gd Ex.sz (choiceR rec o q ts):=by
 unfold choiceR;refine(gb_enter HT _ _ h).bind fun a t1 h1 p1 l1=>(H _ _ _ _ h1).bind fun x t2 h2 p2 l2=>?_;refine(gb_pass HT _ h2).bind fun _ t3 h3 _ l3=>(H _ _ _ _ h3).bind fun y t4 h4 p4 l4=>?_;refine(gb_pass HT _ h4).bind fun _ t5 h5 _ l5=>(H _ _ _ _ h5).bind fun z t6 h6 p6 l6=>?_;refine Gb.ok h6 (Ex.gd_mk (by omega) (by omega) (by simp) p1 (gd_snoc (gd_snoc p2 p4) p6)) ?_;rw[Ex.sz_mk,sz_snoc,sz_snoc];show x.sz+y.sz+z.sz+1+_<=_;omega
theorem gb_memL (HT:∀ y,y ∈ T->tkG y)(H:∀ row o q ts,ts <:+ T->Gb T ts.length Ex.gd Ex.sz (rec row o q ts)):∀ (m:Nat) (o q:Nat) (acc:Fs) (ts:List Tk) (b:Nat),ts <:+ T->acc.gd->acc.size+ts.length<=b->Gb T b Fs.gd Fs.size (memL rec m o q acc ts)
 | 0,o,q,acc,ts,b,h,hg,hb=>Gb.out
 | m+1,o,q,acc,[],b,h,hg,hb=>Gb.out
 | m+1,o,q,acc,x::r,b,h,hg,hb=>by
  have _:=HT;unfold memL;simp only;split
  ·simp only[List.length_cons] at hb;refine(H _ _ _ _ ((List.suffix_cons x r).trans h)).bind fun e t2 h2 p2 l2=>?_;exact gb_memL HT H m o q _ t2 b h2 (gd_snoc hg p2) (by rw[sz_snoc];omega)
  ·exact Gb.ok h hg hb
theorem gb_mem (HT:∀ y,y ∈ T->tkG y)(H:∀ row o q ts,ts <:+ T->Gb T ts.length Ex.gd Ex.sz (rec row o q ts))(m o q:Nat){ts:List Tk}(h:ts <:+ T):Gb T ts.length Fs.gd Fs.size (memR rec m o q ts):=by
 cases ts with
 | nil=>exact Gb.out
 | cons x r =>
  unfold memR;simp only;split
  ·exact Gb.ok h trivial (by simp[Fs.size])
  ·exact(H _ _ _ _ h).bind fun e t1 h1 p1 l1=>gb_memL HT H m o q _ t1 _ h1 p1 l1
theorem gb_set (HT:∀ y,y ∈ T->tkG y)(H:∀ row o q ts,ts <:+ T->Gb T ts.length Ex.gd Ex.sz (rec row o q ts))(m o q:Nat){ts:List Tk}(h:ts <:+ T):Gb T ts.length Ex.gd Ex.sz (setR rec m o q ts):=by
 cases ts with
 | nil=>exact Gb.out
 | cons x r =>
  have hx:=HT x (h.mem (by simp));have hr:r <:+ T:=(List.suffix_cons x r).trans h;unfold setR;simp only;split
  ·exact Gb.ok hr (Ex.gd_mk (by omega) (by omega) hx.2.2.1 hx.2.2.2 trivial) (by rw[Ex.sz_mk];simp[Fs.size];omega)
  ·split
   ·exact Gb.ok hr (Ex.gd_mk (by omega) (by omega) (by simp) hx.2.2.2 trivial) (by rw[Ex.sz_mk];simp[Fs.size];omega)
   ·split
    ·exact(gb_args HT H 1 o q hr).bind fun ks t h1 p1 l1=>Gb.ok h1 (Ex.gd_mk (by omega) (by omega) (by simp) hx.2.2.2 p1) (by rw[Ex.sz_mk];simp;omega)
    ·refine(gb_enter HT _ _ h).bind fun a t1 h1 p1 l1=>(gb_mem HT H m _ q h1).bind fun ks t2 h2 p2 l2=>(gb_pass HT _ h2).bind fun _ t3 h3 _ l3=>?_;exact Gb.ok h3 (Ex.gd_mk (by omega) (by omega) (by simp) p1 p2) (by rw[Ex.sz_mk];omega)
theorem gb_quant (HT:∀ y,y ∈ T->tkG y)(H:∀ row o q ts,ts <:+ T->Gb T ts.length Ex.gd Ex.sz (rec row o q ts))(m:Nat)(s:List UInt8)(k o q:Nat)(hk:k<=100){ts:List Tk}(h:ts <:+ T):Gb T ts.length Ex.gd Ex.sz (quantR rec m s k o q ts):=by
 cases ts with
 | nil=>exact Gb.out
 | cons x r =>
  unfold quantR;simp only;split
  ·exact Gb.bad
  ·refine(gb_enter HT _ _ h).bind fun a t1 h1 p1 l1=>(gb_kind HT _ h1).bind fun y t2 h2 p2 l2=>(gb_pass HT _ h2).bind fun _ t3 h3 _ l3=>?_;refine(gb_set HT H m _ _ h3).bind fun e t4 h4 p4 l4=>(gb_pass HT _ h4).bind fun _ t5 h5 _ l5=>(H _ _ _ _ h5).bind fun b t6 h6 p6 l6=>?_;refine Gb.ok h6 (Ex.gd_mk (by omega) (by omega) p2.2.2.1 p1 (gd_snoc p4 p6)) ?_;rw[Ex.sz_mk,sz_snoc];show e.sz+b.sz+1+_<=_;omega
theorem gb_atom (HT:∀ y,y ∈ T->tkG y)(H:∀ row o q ts,ts <:+ T->Gb T ts.length Ex.gd Ex.sz (rec row o q ts))(m o q:Nat){ts:List Tk}(h:ts <:+ T):Gb T ts.length Ex.gd Ex.sz (atomR rec m o q ts):=by
 cases ts with
 | nil=>exact Gb.out
 | cons x r =>
  have hx:=HT x (h.mem (by simp));have hr:r <:+ T:=(List.suffix_cons x r).trans h;unfold atomR;simp only;split
  ·exact Gb.ok hr (Ex.gd_mk hx.1 hx.2.1 (by simp) hx.2.2.2 trivial) (by rw[Ex.sz_mk];simp[Fs.size];omega)
  ·split
   ·exact Gb.ok hr (Ex.gd_mk (by omega) (by omega) hx.2.2.1 hx.2.2.2 trivial) (by rw[Ex.sz_mk];simp[Fs.size];omega)
   ·split
    ·exact Gb.ok hr (Ex.gd_mk (by omega) (by omega) (by simp) hx.2.2.2 trivial) (by rw[Ex.sz_mk];simp[Fs.size];omega)
    ·split
     ·exact Gb.ok hr (Ex.gd_mk (by omega) (by omega) (by simp) hx.2.2.2 trivial) (by rw[Ex.sz_mk];simp[Fs.size];omega)
     ·split
      ·exact(gb_kind HT _ hr).bind fun y t h1 p1 l1=>Gb.ok h1 (Ex.gd_mk p1.1 p1.2.1 (by simp) hx.2.2.2 trivial) (by rw[Ex.sz_mk];simp[Fs.size];omega)
      ·split
       ·rw[par_args];unfold parR;exact(gb_enter HT _ _ h).bind fun _ t1 h1 _ l1=>(H _ _ _ _ h1).bind fun e t2 h2 p2 l2=>(gb_pass HT _ h2).bind fun _ t4 h4 _ l4=>Gb.ok h4 p2 (by omega)
       ·split
        ·exact gb_choice HT H o q h
        ·split
         ·rename_i hc
          have hz:=List.mem_of_find?_eq_some hc;have hz2:∀ z ∈ callsL,z.2.1<=100:=by decide
          have hz3:=hz2 _ hz;simp only at hz3;exact(gb_args HT H _ o q hr).bind fun ks t h1 p1 l1=>Gb.ok h1 (Ex.gd_mk (by omega) (by omega) (by simp) hx.2.2.2 p1) (by rw[Ex.sz_mk];simp;omega)
         ·split
          ·rename_i hc
           have hz:=List.mem_of_find?_eq_some hc;have hz2:∀ z ∈ quantsL,z.2<=100:=by decide
           have hz3:=hz2 _ hz;simp only at hz3;exact gb_quant HT H m _ _ o q hz3 h
          ·exact Gb.bad
theorem gb_pref (HT:∀ y,y ∈ T->tkG y)(H:∀ row o q ts,ts <:+ T->Gb T ts.length Ex.gd Ex.sz (rec row o q ts))(s:List UInt8)(k:Int)(row o q:Nat){ts:List Tk}(h:ts <:+ T):Gb T ts.length Ex.gd Ex.sz (prefR rec s k row o q ts):=by
 cases ts with
 | nil=>exact Gb.out
 | cons x r =>
  have hx:=HT x (h.mem (by simp));have hr:r <:+ T:=(List.suffix_cons x r).trans h;unfold prefR;simp only;split
  ·split
   ·exact Gb.bad
   ·refine(H _ _ _ _ hr).bind fun e t2 h2 p2 l2=>Gb.ok h2 (Ex.gd_mk (by omega) (by omega) (by simp) hx.2.2.2 p2) ?_;rw[Ex.sz_mk];show e.sz+1+_<=_;simp only[List.length_cons];omega
  ·exact H _ _ _ _ h
theorem gb_chainL (HT:∀ y,y ∈ T->tkG y)(H:∀ row o q ts,ts <:+ T->Gb T ts.length Ex.gd Ex.sz (rec row o q ts)):∀ (m row o q:Nat) (left:Ex) (ts:List Tk) (b:Nat),ts <:+ T->left.gd->left.sz+ts.length<=b->Gb T b Ex.gd Ex.sz (chainL rec m row o q left ts)
 | 0,row,o,q,left,ts,b,h,hg,hb=>Gb.out
 | m+1,row,o,q,left,[],b,h,hg,hb=>Gb.out
 | m+1,row,o,q,left,x::r,b,h,hg,hb=>by
  have hx:=HT x (h.mem (by simp));have hr:r <:+ T:=(List.suffix_cons x r).trans h;unfold chainL;simp only;split
  ·exact Gb.ok h hg hb
  ·refine(H _ _ _ _ hr).bind fun e t2 h2 p2 l2=>?_;simp only[List.length_cons] at hb;have hgd:∀ (z:Int),(⟨z,0,[],(x.a:Nat),(one left).snoc e⟩:Ex).gd:=fun z=>Ex.gd_mk (by omega) (by omega) (by simp) hx.2.2.2 (gd_snoc hg p2);have hsz:∀ (z:Int),(⟨z,0,[],(x.a:Nat),(one left).snoc e⟩:Ex).sz+t2.length<=b:=fun z=>by
    rw[Ex.sz_mk,sz_snoc];show left.sz+e.sz+1+_<=_;omega
   split
   ·exact Gb.ok h2 (hgd _) (hsz _)
   ·exact gb_chainL HT H m row o q _ t2 b h2 (hgd _) (hsz _)
end
theorem gb_part {T:List Tk}(HT:∀ y,y ∈ T->tkG y):∀ (n row o q:Nat) (ts:List Tk),ts <:+ T->Gb T ts.length Ex.gd Ex.sz (partF n row o q ts)
 | 0,row,o,q,ts,h=>Gb.out
 | n+1,row,o,q,ts,h=>by
  have H:=gb_part HT n;unfold partF;split
  ·exact gb_pref HT H _ _ _ _ _ h
  ·split
   ·exact gb_pref HT H _ _ _ _ _ h
   ·split
    ·exact gb_atom HT H n o q h
    ·exact(H _ _ _ _ h).bind fun l t h1 p1 l1=>gb_chainL HT H n row o q l t _ h1 p1 l1
theorem ptok_good {k:Nat}{t:List UInt8}{a:Nat}{x:Tk}(h:ptok k t a=.inr x):-9223372036854775808<=x.n/\x.n<=9223372036854775807/\x.t.length<=t.length:=by
 unfold ptok at h;split at h
 ·unfold wrdT at h
  repeat' split at h
  all_goals first|(injection h with h;subst h;exact⟨by simp,by simp,Nat.le_refl _⟩)|cases h
 ·unfold numT at h;cases hv:Lib.atoiAll t with
  | ok v =>
   rw[hv] at h;have hb:=Go.Lib.atoiAll_bounds hv;simp only at h;split at h
   ·cases h
   ·injection h with h
    subst h;exact⟨hb.1,hb.2,by simp⟩
  | _=>rw[hv] at h;cases h
 ·unfold sgnT at h;split at h
  all_goals first|(injection h with h;subst h;exact⟨by simp,by simp,Nat.le_refl _⟩)|cases h
 ·cases h
theorem tok_good (k:Nat)(t:List UInt8)(a p:Nat)(l:List UInt8)(ts:List Tk)(h:lexL k t a p l=.inr ts)(hl:t.length+l.length<=2000):∀ x,x ∈ ts->-9223372036854775808<=x.n/\x.n<=9223372036854775807/\x.t.length<=2000:=by
 induction l generalizing k t a p ts with
 | nil =>
  intro x hx;rcases shut_inr h with ⟨rfl,h1⟩|⟨hk,y,us,hp,h1,h2⟩
  ·injection h1 with h1
   subst h1;simp at hx;subst hx;exact⟨by simp,by simp,by simp⟩
  ·injection h1 with h1
   subst h1 h2;simp at hx;rcases hx with rfl|rfl
   ·have:=ptok_good hp
    simp only[List.length_nil] at hl;exact⟨this.1,this.2.1,by omega⟩
   ·exact⟨by simp,by simp,by simp⟩
 | cons c r ih =>
  simp only[List.length_cons] at hl;cases ht:tks k t c.toNat
  ·rw[lexL_no ht] at h;rcases shut_inr h with ⟨rfl,h1⟩|⟨hk,y,us,hp,h1,h2⟩
   ·exact ih _ _ _ _ _ h1 (by simp;omega)
   ·subst h2;intro x hx;rcases List.mem_cons.1 hx with rfl|hx
    ·have:=ptok_good hp
     exact⟨this.1,this.2.1,by omega⟩
    ·exact ih _ _ _ _ _ h1 (by simp;omega) x hx
  ·rw[lexL_yes ht] at h;exact ih _ _ _ _ _ h (by simp;omega)
theorem Fs.len_size:∀ (x:Fs),x.len<=x.size
 | ⟨none⟩=>Nat.le_refl _
 | ⟨some ⟨k,n,nm,a,ks,r⟩⟩=>by have:=Fs.len_size r;simp only[Fs.len,Fs.size];omega
theorem Fs.gd_all:∀ {x:Fs},x.gd->x.size<=100000000->x.short/\x.rng/\x.plc
 | ⟨none⟩,h,hs=>⟨trivial,trivial,trivial⟩
 | ⟨some ⟨k,n,nm,a,ks,r⟩⟩,h,hs=>by
  simp only[Fs.size] at hs;obtain⟨h1,h2,h3,h4,h5,h6,h7⟩:=h;obtain⟨a1,a2,a3⟩:=Fs.gd_all h6 (by omega);obtain⟨b1,b2,b3⟩:=Fs.gd_all h7 (by omega)
  have:=Fs.len_size ks
  exact⟨⟨by unfold maxLen;omega,by omega,a1,b1⟩,⟨h1,h2,a2,b2⟩,⟨h4,by omega,a3,b3⟩⟩
theorem parse_gd {s:List UInt8}{x:Ex}{t:List Tk}(h:parseA s=.ok x t):x.gd/\x.sz<=2001:=by
 obtain⟨us,E,h0,h1,h2,h3,h4,h5⟩:=parse_text h;have hs:scanA s=.inr (us++[E]):=by rw[scan_short h0];exact h1
 have hk:=scan_ok hs;have hg:∀ y,y ∈ us++[E]->tkG y:=fun y hy=>by
  have a1:=tok_good _ _ _ _ _ _ h1 (by simpa using h0) y hy;have a2:=hk.2.2.2.2.2 y hy;exact⟨a1.1,a1.2.1,a1.2.2,by omega⟩
 obtain⟨_,g1,g2⟩:=gb_part hg 30000 1 0 0 _ (List.suffix_refl _) x [E] h5;refine⟨g1,?_⟩
 have:=hk.2.2.1
 omega
structure Ex.okT (x:Ex):Prop where
 fit:x.fit
 a0:0<=x.a
 a1:x.a<=2000
 plc:x.kids.plc
 size:x.kids.size<=2000
theorem parse_okT {s:List UInt8}{x:Ex}{t:List Tk}(h:parseA s=.ok x t):x.okT:=by
 obtain⟨g,hs⟩:=parse_gd h;have hs:x.kids.size+1<=2001:=hs;obtain⟨h1,h2,h3,h4,h5,h6,_⟩:=g;obtain⟨a1,a2,a3⟩:=Fs.gd_all h6 (by omega)
 have:=Fs.len_size x.kids
 exact⟨⟨by unfold maxLen;omega,a1,by omega,h1,h2,a2⟩,h4,h5,a3,by omega⟩
structure Wo where
 op:Nat
 a:Nat
 b:Nat
structure Em where
 ws:List Wo
 cs:List Int
 ns:List (List UInt8)
 ks:List Int
 dp:Nat
def Em.lay (s:Em)(op a b:Nat):Em:=⟨s.ws++[⟨op,a,b⟩],s.cs,s.ns,s.ks,s.dp⟩
def Em.push (s:Em)(op a b u:Nat):Em:=⟨s.ws++[⟨op,a,b⟩],s.cs,s.ns,s.ks,max s.dp (u+1)⟩
def Em.kc (s:Em)(n:Int):Em:=⟨s.ws,if n ∈ s.cs then s.cs else s.cs++[n],s.ns,s.ks,s.dp⟩
def Em.kn (s:Em)(x:List UInt8):Em:=⟨s.ws,s.cs,if x ∈ s.ns then s.ns else s.ns++[x],s.ks,s.dp⟩
def Em.con (s:Em)(n:Int)(kd u:Nat):Em:=(s.kc n).push 1 (s.cs.idxOf n) kd u
def Wo.to (x:Wo)(n:Nat):Wo:=if x.op=17 then ⟨x.op,x.a,n⟩ else ⟨x.op,n,x.b⟩
def Em.land (s:Em)(i:Nat):Em:=⟨s.ws.modify i (fun x=>x.to s.ws.length),s.cs,s.ns,s.ks,s.dp⟩
def Em.cel (s:Em)(i:Nat)(k:Int):Em:=⟨s.ws,s.cs,s.ns,s.ks.set i k,s.dp⟩
def Em.fork (s:Em)(op:Nat)(f g:Em->Em):Em:=(g (((f (s.lay op 0 0)).lay 13 0 0).land s.ws.length)).land (f (s.lay op 0 0)).ws.length
def cakN (n:Int):Int:=if n=1\/n=2 then 2 else if n=10 then 3 else 1
def qukN (n:Int):Int:=if n=1\/n=2 then 2 else 1
def kdN (k n:Int)(ks:List Int):Int :=
 if k=1\/k=6\/(8<=k/\k<=12) then 1 else if k=3\/k=5 then 3 else if k=19 then ks.getD 1 0 else if k=26 then ks.getD 0 0 else if k=20 then cakN n else if k=21 then qukN n else 2
def kdF:Fs->List Int
 | ⟨none⟩=>[]
 | ⟨some ⟨k,n,_,_,ks,r⟩⟩=>kdN k n (kdF ks)::kdF r
def kdE (e:Ex):Int:=kdN e.k e.n (kdF e.kids)
abbrev Tr:=Nat->Nat->Em->Em
def seqT:List Tr->Nat->Nat->Nat->Em->Em
 | [],_,_,_,s=>s
 | t::r,i,ar,u,s=>seqT r (i+1) ar u (t ar (u+i) s)
def barN (k:Int):Nat:=if k=6 then 4 else if k=7 then 5 else if k=8 then 6 else if k=9 then 7 else if k=10 then 8 else if k=11 then 9 else if k=12 then 10 else if k=22 then 20 else 22
def opr (k n:Int)(nm:List UInt8)(kk:List Int)(s:Em):Em :=
 if k=13 then s.lay 11 0 (kk.getD 0 0).toNat else if k=14 then (s.lay 11 0 (kk.getD 0 0).toNat).lay 5 0 0 else if k=15 then s.lay 12 0 0 else if k=16 then s.lay 12 0 1
 else if k=20 then s.lay 16 n.toNat 0 else if k=23 then (s.kn nm).lay 21 (s.ns.idxOf nm) 0 else if k=25 then s.lay 23 kk.length 0 else s.lay (barN k) 0 0
def clrs (h:Nat):List Int->Nat->Em->Em
 | [],_,s=>s
 | l::r,i,s=>clrs h r (i+1) (if l=(h:Int) then s.lay 19 i 0 else s)
def bdy (lv:List Int)(t:Tr):Tr:=fun ar u s=>t (ar+1) u (clrs (ar+1) lv 0 s)
def srch (lv:List Int)(t:Tr)(op:Nat)(v:Int):Tr:=fun ar u s =>
 s.fork 24 (fun x=>(((bdy lv t ar u x).lay op s.ws.length 0).lay 25 0 0).con v 2 u) (fun x=>x.con (1-v) 2 u)
def gath (lv:List Int)(t:Tr)(f:Nat->Em->Em):Tr:=fun ar u s =>
 ((f s.ws.length (bdy lv t ar u (s.lay 24 0 0))).lay 13 s.ws.length 0).land s.ws.length
def qua (lv:List Int)(n:Int)(a t:Tr):Tr:=fun ar u s =>
 if n=1 then srch lv t 15 0 ar u (a ar u s) else if n=2 then srch lv t 14 1 ar u (a ar u s)
 else if n=3 then gath lv t (fun g x=>((x.lay 14 g 0).con 1 1 (u+1)).lay 6 0 0) ar (u+1) ((a ar u s).con 0 1 u)
 else if n=4 then gath lv t (fun _ x=>x.lay 6 0 0) ar (u+1) ((a ar u s).con 0 1 u)
 else (gath lv t (fun _ x=>x.lay 26 (n-5).toNat 0) ar (u+2) (((a ar u s).con 0 1 u).con 0 2 (u+1))).lay 27 0 0
abbrev noT:Tr:=fun _ _ s=>s
def prt (lv:List Int)(k n:Int)(nm:List UInt8)(kk:List Int)(T:List Tr):Tr:=fun ar u s =>
 if k=1 then s.con n 1 u else if k=2 then s.con n 2 u else if k=3 then (s.kc n).push 2 (s.cs.idxOf n) 0 u else if k=5 then s.push 3 n.toNat 0 u
 else if k=17 then (T.getD 0 noT ar u s).fork 14 (T.getD 1 noT ar u) (fun x=>x.con 0 2 u)
 else if k=18 then (T.getD 0 noT ar u s).fork 15 (T.getD 1 noT ar u) (fun x=>x.con 1 2 u)
 else if k=19 then (T.getD 0 noT ar u s).fork 14 (T.getD 1 noT ar u) (T.getD 2 noT ar u)
 else if k=26 then ((T.getD 0 noT ar u ((s.cel n.toNat (kk.getD 0 0)).lay 17 n.toNat 0)).lay 18 n.toNat 0).land s.ws.length
 else if k=21 then qua lv n (T.getD 0 noT) (T.getD 1 noT) ar u s
 else opr k n nm kk (seqT T 0 ar u s)
def emF (lv:List Int):Fs->List Tr
 | ⟨none⟩=>[]
 | ⟨some ⟨k,n,nm,_,ks,r⟩⟩=>prt lv k n nm (kdF ks) (emF lv ks)::emF lv r
def emE (lv:List Int)(e:Ex):Tr:=prt lv e.k e.n e.nm (kdF e.kids) (emF lv e.kids)
def em0 (lv:List Int):Em:=⟨[],[],[],List.replicate lv.length 1,0⟩
def emA (lv:List Int)(e:Ex):Em:=(emE lv e 0 0 (em0 lv)).lay 0 0 0
def Em.mes (s:Em):Nat:=s.ws.length+s.cs.length+s.ns.length
theorem Em.mes_lay (s:Em)(op a b:Nat):(s.lay op a b).mes=s.mes+1:=by simp[Em.mes,Em.lay];omega
theorem Em.mes_push (s:Em)(op a b u:Nat):(s.push op a b u).mes=s.mes+1:=by simp[Em.mes,Em.push];omega
theorem Em.mes_kc (s:Em)(n:Int):(s.kc n).mes<=s.mes+1:=by simp only[Em.mes,Em.kc];split<;>simp<;>omega
theorem Em.mes_kn (s:Em)(n:List UInt8):(s.kn n).mes<=s.mes+1:=by simp only[Em.mes,Em.kn];split<;>simp<;>omega
theorem Em.mes_con (s:Em)(n:Int)(kd u:Nat):(s.con n kd u).mes<=s.mes+2:=by
 unfold Em.con;rw[Em.mes_push]
 have:=s.mes_kc n
 omega
theorem Em.mes_land (s:Em)(i:Nat):(s.land i).mes=s.mes:=by simp[Em.mes,Em.land]
def okN (nc:Nat)(k n:Int)(nm:List UInt8)(len:Nat):Prop:=docF k n nm len=true/\(k=5->n<=3)/\(k=26->0<=n/\n<(nc:Int))/\(-9223372036854775808<=n/\n<=9223372036854775807)
def okF (nc:Nat):Fs->Prop
 | ⟨none⟩=>True
 | ⟨some ⟨k,n,nm,_,ks,r⟩⟩=>okN nc k n nm ks.len/\okF nc ks/\okF nc r
def okE (nc:Nat)(e:Ex):Prop:=okN nc e.k e.n e.nm e.kids.len/\okF nc e.kids
end Go.Proofs.YtbjdkekhnajafaaGreatDoor

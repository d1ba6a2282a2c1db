import Derived.Test.YtnfmpocfakblmaaGreatDoorEmJ
import Derived.SizedLaws
import Derived.Stop.LaidErr
import Derived.ShutString
import Derived.Deep.DeepHandedRow
set_option maxRecDepth 100000
set_option maxHeartbeats 8000000
namespace Go.Proofs.YtnfmpocfakblmaaGreatDoor
open Go.ChangeShapes Go.WideShapes Go.ChangeAt Go.RowKit
set_option linter.unusedVariables false
set_option linter.unusedSimpArgs false
theorem wo_at {l:List Wo}{j:Nat}{x:Wo}(h:l[j]?=some x):(woV l)[j]?=some (.int .u64 (encW x)):=by simp[woV,h]
theorem ei_at {l:List Int}{j:Nat}(h:j<l.length):(eiV l)[j]?=some (.int .i64 l[j]):=by simp[eiV,h]
theorem es_at {l:List (List UInt8)}{j:Nat}(h:j<l.length):(esV l)[j]?=some (stv l[j]):=by simp[esV,h]
theorem nodup_ne {α:Type}{l:List α}(h:l.Nodup){i k:Nat}(hi:i<l.length)(hk:k<i):l[k]'(by omega)≠l[i]:=by
 exact(List.pairwise_iff_getElem.1 h) k i (by omega) hi hk
theorem emitLists_walk (e:Ex)(ao:Option Addr)(cap:Nat)(cv:Value)(cells:List Int)(w:World)(hlen:e.kids.len<=maxLen)(hwd:e.kids.wide)(hfit:e.kids.size<=100000000->FitN e/\(-9223372036854775808<=e.n/\e.n<=9223372036854775807)/\e.kids.rng)(S:SnA w e.kids ao)(hc:InA w cv cells)(hcl:cells.length<=maxLen)(hW:Wd w)(hT:EmTab w) :
  Calls Tryz.prog 7 #[plV e ao cap cv] w fun x w'=>x=.returned (.bool true)/\Below w.heap.size w w':=by
 obtain⟨ac,cc,hcv,hx⟩:=hc;have hc:InA w cv cells:=⟨ac,cc,hcv,hx⟩
 subst hcv;clear hx;obtain⟨g,hg⟩:∃g,g=w.heap.size:=⟨_,rfl⟩
 obtain⟨w0,hw0⟩:∃w0,w0=w.alloc (.cells #[.int .i64 e.k,.int .i64 e.n,stv e.nm,.slice ao e.kids.len cap,.slice ac cells.length cc] 37):=⟨_,rfl⟩
 have b0:Below w.heap.size w w0:=by rw[hw0];exact b1 _ _
 have P0:w0.heap[g]?=some (.cells #[.int .i64 e.k,.int .i64 e.n,stv e.nm,.slice ao e.kids.len cap,.slice ac cells.length cc] 37):=by rw[hw0,hg];exact heap_alloc_new _ _
 have L0:g<w0.heap.size:=lt_of_block P0;have B0:Below g w w0:=by rw[hg];exact b0
 have c1:=heavy14_c e ao cap 0 _ cells w0 (hc.below b0) hcl hlen hwd (SnA.below S b0);rw[plV_out] at c1 ⊢;have HG:=Lib.hid hg;clear hg;obtain⟨p0,p1,p2,p3,p4⟩:=cells5e P0;go_enter Tryz.func7,Tryz.ntmps7;go_upto_region 1 with fail;rw[<-hw0,<-HG.out];clear hw0;go_wp2_with fail;refine c1.mono ?_;rintro x w1 ⟨rfl,b1'⟩;have P1:=(b1'.block g L0).trans P0;have bb1:=b0.trans (b1'.mono b0.size);have B1:Below g w w1:=B0.trans (b1'.mono (Nat.le_of_lt L0));have L1:=lt_of_block P1;clear c1 p0 p1 p2 p3 p4;cases hh:hvP e cells with
 | true =>
  clear hh;go_wp2;go_ret;exact⟨rfl,by rw[<-HG.out];exact B1⟩
 | false =>
 obtain⟨hcl2,hsz⟩:=hvE_not hh;obtain⟨hf,hn,hr⟩:=hfit (by omega);clear hh hfit hcl hlen hwd;have c2:=awakee_r w1 (hW.below bb1) (hT.below bb1);go_upto_region 4 with (first|(go_at_call 15;refine c2.mono ?_;rintro x w2 ⟨rfl,b2⟩))
 have P2:=(b2.block g L1).trans P1;have bb2:=bb1.trans (b2.mono bb1.size);have B2:Below g w w2:=B1.trans (b2.mono (Nat.le_of_lt L1));have L2:=lt_of_block P2;have c3:=emit_c e ao cap _ cells w2 hf hn hr (hW.below bb2) (hT.below bb2) (hc.below bb2) (by omega) (SnA.below S bb2);rw[plV_out] at c3;obtain⟨p0,p1,p2,p3,p4⟩:=cells5e P2;clear c2 P0 P1 b0 b1' bb1 B0 B1 L0 L1 b2;go_wp2_with fail;refine c3.mono ?_;intro x w3 h3;clear c3 p0 p1 p2 p3 p4;obtain⟨b3,h3⟩:=h3;have P3:=(b3.block g L2).trans P2;have B3:Below g w w3:=B2.trans (b3.mono (Nat.le_of_lt L2));have L3:=lt_of_block P3;rcases h3 with ⟨-,rfl⟩|⟨-,-,rfl⟩|⟨hk,hwl,hdl,hmes,vw,vc,vn,vk,o3,rfl,-,C3⟩
 ·go_wp2;go_ret;exact⟨rfl,by rw[<-HG.out];exact B3.alloc (Nat.le_of_lt L3) _⟩
 ·go_wp2;go_ret;exact⟨rfl,by rw[<-HG.out];exact B3.alloc (Nat.le_of_lt L3) _⟩
 obtain⟨hinv,hkl⟩:=emA_inv cells e;obtain⟨aw,cw,rfl⟩:=C3.ws.form;obtain⟨ac3,cc3,rfl⟩:=C3.cs.form;obtain⟨an,cn,rfl⟩:=C3.ns.form;obtain⟨ak,ck,rfl⟩:=C3.ks.form;have R3:EmLs w3 (emA cells e) aw ac3 an:=⟨C3.ws.lse,C3.cs.lse,C3.ns.lse⟩
 have okw:=C3.ok;have hcm:=C3.cs.len;have hnm:=C3.ns.len;rw[hkl];generalize emA cells e=s at *;obtain⟨n,hnn⟩:∃n,n=s.ws.length:=⟨_,rfl⟩
 obtain⟨m,hmm⟩:∃m,m=s.cs.length:=⟨_,rfl⟩
 obtain⟨l,hll⟩:∃l,l=s.ns.length:=⟨_,rfl⟩
 have hmn:m<=100000000/\l<=100000000:=by unfold Em.mes at hmes;omega
 rw[<-hnn,<-hmm,<-hll];obtain⟨r,hrr⟩:∃r,r=w3.heap.size:=⟨_,rfl⟩
 obtain⟨w4,hw4⟩:∃w4,w4=w3.alloc (.cells #[.slice aw n cw,.slice ac3 m cc3,.slice an l cn,.slice ak cells.length ck] 42):=⟨_,rfl⟩
 have b4:Below w3.heap.size w3 w4:=by rw[hw4];exact b1 _ _
 have P4:=(b4.block g L3).trans P3;have Q4:w4.heap[r]?=some (.cells #[.slice aw n cw,.slice ac3 m cc3,.slice an l cn,.slice ak cells.length ck] 42):=by rw[hw4,hrr];exact heap_alloc_new _ _
 have R4:=R3.below b4;have z4:w4.heap.size=r+1:=by rw[hw4,hrr];simp
 have B4:Below g w w4:=B3.trans (b4.mono (Nat.le_of_lt L3));obtain⟨w6,hw6⟩:∃w6,w6=(w4.alloc (.cells (bV (List.replicate m false)) 4)).alloc (.cells (bV (List.replicate l false)) 4):=⟨_,rfl⟩
 have M6:Mks w4 w6 (r+1) (List.replicate m false) (List.replicate l false):=by
  obtain⟨y1,y2,y3,y4⟩:=al2 w4 (.cells (bV (List.replicate m false)) 4) (.cells (bV (List.replicate l false)) 4);rw[<-hw6,z4] at y1 y2 y4;exact⟨y4,y1,y2⟩
 have mk1:=run_bools w4 m hmn.1;have mk2:=run_bools (w4.alloc (.cells (bV (List.replicate m false)) 4)) l hmn.2;have z5:(w4.alloc (.cells (bV (List.replicate m false)) 4)).heap.size=r+2:=by rw[World.size_alloc,z4]
 rw[z4] at mk1;rw[z5,<-hw6] at mk2;have hn32:n<=32768:=by omega
 have hm8:=hmn.1;have hl8:=hmn.2;have KK:Hid (∀ wr U V,Mks w4 wr (r+1) U V->(wr.cell? ⟨r,0,none⟩=some (.slice aw n cw)/\wr.cell? ⟨r,1,none⟩=some (.slice ac3 m cc3)/\wr.cell? ⟨r,2,none⟩=some (.slice an l cn)/\wr.cell? ⟨r,3,none⟩=some (.slice ak cells.length ck))/\wr.cell? ⟨g,4,none⟩=some (.slice ac cells.length cc)/\EmLs wr s aw ac3 an/\Below g w wr):=fun wr U V M=>by
  have B:Below w4.heap.size w4 wr:=by rw[z4];exact M.bl
  have Q:=(B.block r (by omega)).trans Q4;have P:=(B.block g (by omega)).trans P4;exact⟨(cells4e Q).1,(cells5e P).2.2.2.2,R4.below B,B4.trans (B.mono (by omega))⟩
 have HN:=Lib.hid hnn;have HM:=Lib.hid hmm;have HL:=Lib.hid hll;have HI:=Lib.hid hinv;have HO:=Lib.hid okw;have HR:=Lib.hid hrr;obtain⟨⟨q0,q1,q2,q3⟩,-⟩:=cells4e Q4;have u1:(w4.alloc (.cells (bV (List.replicate m false)) 4)).cell? ⟨r,2,none⟩=some (.slice an l cn):=((b1 w4 _).cell (p:=⟨r,2,none⟩) (by rw[z4];show r<r+1;omega)).trans q2;clear hnn hmm hll hinv okw hrr C3 R3 R4 P2 P3 P4 Q4 b3 b4 B2 B3 B4 hcm hnm hmes hwl hdl hk hkl L2 L3 hW hT hc S bb2 z5 hsz hcl2 hf hn hr hmn z4;go_upto_region 7 with fail;rw[<-hw4,<-HR.out];clear hw4;go_wp2_with fail;rw[<-hw6];clear hw6;go_loopw [8] (fun vi wr=>∃(k:Nat) (U V:List Bool),vi=.int .i64 (k:Nat)/\k<=n/\U.length=m/\V.length=l/\Mks w4 wr (r+1) U V/\Hid (Mk1 s.ws k U V)) (fun vi _=>n-(intOf vi).toNat)
 case atStart=>exact⟨0,_,_,by go_num,by omega,by simp,by simp,M6,fun j x hj=>by omega⟩
 case round =>
  clear M6 mk1 mk2 q0 q1 q2 q3 u1;obtain⟨k,U,V,rfl,hk,hlu,hlv,M,MK⟩:=hrel;have HLU:=Lib.hid hlu;have HLV:=Lib.hid hlv;clear hlu hlv;obtain⟨⟨q0,q1,q2,q3⟩,gp,R,BG⟩:=KK.out _ _ _ M;by_cases hlt:k<n
  ·have hkI:(k:Int)<(n:Int):=by omega
   obtain⟨x,hx⟩:∃x,s.ws[k]?=some x:=⟨_,List.getElem?_eq_getElem (by rw[<-HN.out];exact hlt)⟩
   have HOx:=HO.out x (List.mem_iff_getElem?.2 ⟨k,hx⟩);have bd:=encW_bd HOx;have pt:=encW_parts HOx;have HP:=rparts_e (encW x) wr bd.1 bd.2;rw[pt.1,pt.2.1,pt.2.2] at HP;obtain⟨b,rfl,cx⟩:=R.ws.at (wo_at hx);generalize encW x=ev at *;obtain⟨op,a,b2⟩:=x;simp only at HP;clear bd pt R BG;by_cases h1:op=1
   ·subst h1;have ha:a<m:=by rw[HM.out];exact HI.out.wc _ (List.mem_iff_getElem?.2 ⟨k,hx⟩) (.inl rfl)
    have haI:¬(m:Int)<=(a:Int):=by omega
    obtain⟨cu0,fu⟩:=bool_cell M.u (j:=a) (by rw[HLU.out];exact ha);obtain⟨vu,cu⟩:∃vu,wr.cell? ⟨r+1,a,none⟩=some vu:=⟨_,cu0⟩
    clear cu0;have HZ:Hid (Mks w4 (wr.setCell ⟨r+1,a,none⟩ (.bool true)) (r+1) (U.set a true) V/\Mk1 s.ws (k+1) (U.set a true) V):=⟨M.setU a,MK.out.next hx (fun i hi=>set_true hi) (fun i hi=>hi) (fun _=>by show (U.set a true)[a]?=_;rw[List.getElem?_set_self (by rw[HLU.out];exact ha)]) (fun h=>by simp at h)⟩
    have hl1:Hid ((U.set a true).length=m):=by show _=_;rw[List.length_set];exact HLU.out
    clear M MK hx HOx;go_wp2_with (first|(go_at_call 27;refine HP.mono ?_;rintro z wp ⟨rfl,hww⟩;subst hww));go_roundw
    case rel=>(try ((repeat apply Exists.intro);refine⟨?_,rfl⟩));exact⟨k+1,U.set a true,V,by go_num,by omega,hl1.out,HLV.out,HZ.out.1,HZ.out.2⟩
    case measure=>simp[intOf];omega
   by_cases h2:op=2
   ·subst h2;have ha:a<m:=by rw[HM.out];exact HI.out.wc _ (List.mem_iff_getElem?.2 ⟨k,hx⟩) (.inr rfl)
    have haI:¬(m:Int)<=(a:Int):=by omega
    obtain⟨cu0,fu⟩:=bool_cell M.u (j:=a) (by rw[HLU.out];exact ha);obtain⟨vu,cu⟩:∃vu,wr.cell? ⟨r+1,a,none⟩=some vu:=⟨_,cu0⟩
    clear cu0;have HZ:Hid (Mks w4 (wr.setCell ⟨r+1,a,none⟩ (.bool true)) (r+1) (U.set a true) V/\Mk1 s.ws (k+1) (U.set a true) V):=⟨M.setU a,MK.out.next hx (fun i hi=>set_true hi) (fun i hi=>hi) (fun _=>by show (U.set a true)[a]?=_;rw[List.getElem?_set_self (by rw[HLU.out];exact ha)]) (fun h=>by simp at h)⟩
    have hl1:Hid ((U.set a true).length=m):=by show _=_;rw[List.length_set];exact HLU.out
    clear M MK hx HOx;go_wp2_with (first|(go_at_call 27;refine HP.mono ?_;rintro z wp ⟨rfl,hww⟩;subst hww));go_roundw
    case rel=>(try ((repeat apply Exists.intro);refine⟨?_,rfl⟩));exact⟨k+1,U.set a true,V,by go_num,by omega,hl1.out,HLV.out,HZ.out.1,HZ.out.2⟩
    case measure=>simp[intOf];omega
   by_cases h21:op=21
   ·subst h21;have ha:a<l:=by rw[HL.out];exact HI.out.wn _ (List.mem_iff_getElem?.2 ⟨k,hx⟩) rfl
    have haI:¬(l:Int)<=(a:Int):=by omega
    obtain⟨cu0,fu⟩:=bool_cell M.v (j:=a) (by rw[HLV.out];exact ha);obtain⟨vu,cu⟩:∃vu,wr.cell? ⟨r+1+1,a,none⟩=some vu:=⟨_,cu0⟩
    clear cu0;have HZ:Hid (Mks w4 (wr.setCell ⟨r+1+1,a,none⟩ (.bool true)) (r+1) U (V.set a true)/\Mk1 s.ws (k+1) U (V.set a true)):=⟨M.setV a,MK.out.next hx (fun i hi=>hi) (fun i hi=>set_true hi) (fun h=>by simp at h) (fun _=>by show (V.set a true)[a]?=_;rw[List.getElem?_set_self (by rw[HLV.out];exact ha)])⟩
    have hl1:Hid ((V.set a true).length=l):=by show _=_;rw[List.length_set];exact HLV.out
    clear M MK hx HOx;go_wp2_with (first|(go_at_call 27;refine HP.mono ?_;rintro z wp ⟨rfl,hww⟩;subst hww));go_roundw
    case rel=>(try ((repeat apply Exists.intro);refine⟨?_,rfl⟩));exact⟨k+1,U,V.set a true,by go_num,by omega,HLU.out,hl1.out,HZ.out.1,HZ.out.2⟩
    case measure=>simp[intOf];omega
   have h1I:¬(op:Int)=1:=by omega
   have h2I:¬(op:Int)=2:=by omega
   have h3I:¬(op:Int)=21:=by omega
   have HZ:Hid (Mks w4 wr (r+1) U V/\Mk1 s.ws (k+1) U V):=⟨M,MK.out.next hx (fun i hi=>hi) (fun i hi=>hi) (fun h=>by rcases h with h|h<;>contradiction) (fun h=>by contradiction)⟩
   have h1B:((op:Int)==1)=false:=by simpa using h1I
   have h2B:((op:Int)==2)=false:=by simpa using h2I
   have h3B:((op:Int)==21)=false:=by simpa using h3I
   clear M MK hx HOx;go_wp2_with (first|(go_at_call 27;refine HP.mono ?_;rintro z wp ⟨rfl,hww⟩;subst hww));go_roundw
   case rel=>(try ((repeat apply Exists.intro);refine⟨?_,rfl⟩));exact⟨k+1,U,V,by go_num,by omega,HLU.out,HLV.out,HZ.out.1,HZ.out.2⟩
   case measure=>simp[intOf];omega
  ·have hkI:¬(k:Int)<(n:Int):=by omega
   obtain rfl:k=n:=by omega
   have HAL:Hid ((∀ i,i<m->U[i]?=some true)/\(∀ i,i<l->V[i]?=some true)):=by
    have h0:=MK.out;have h1:=HN.out;rw[h1] at h0;have h2:=h0.all HI.out;rw[<-HM.out,<-HL.out] at h2;exact h2
   clear MK hlt hk R BG;go_wp2_with fail;go_loopw [12] (fun vi wr=>∃i:Nat,vi=.int .i64 (i:Nat)/\i<=m/\Mks w4 wr (r+1) U V) (fun vi _=>m-(intOf vi).toNat)
   case atStart=>exact⟨0,by go_num,by omega,M⟩
   case round =>
    clear q0 q1 q2 q3 gp M;obtain⟨i,rfl,hi,MI⟩:=hrel;obtain⟨⟨q0,q1,q2,q3⟩,gp,R,BG⟩:=KK.out _ _ _ MI;by_cases hlt:i<m
    ·have hiI:(i:Int)<(m:Int):=by omega
     clear R BG;go_wp2_with fail;go_loopw [13] (fun vk wr=>∃k:Nat,vk=.int .i64 (k:Nat)/\k<=i/\Mks w4 wr (r+1) U V) (fun vk _=>i-(intOf vk).toNat)
     case atStart=>exact⟨0,by go_num,by omega,MI⟩
     case round =>
      clear q0 q1 q2 q3 gp MI;obtain⟨k,rfl,hk,MJ⟩:=hrel;obtain⟨⟨q0,q1,q2,q3⟩,gp,R,BG⟩:=KK.out _ _ _ MJ;by_cases hlk:k<i
      ·have hkI:(k:Int)<(i:Int):=by omega
       have hkm:(k:Int)<(m:Int):=by omega
       have hi2:i<s.cs.length:=by rw[<-HM.out];exact hlt
       obtain⟨b1',e1',x1⟩:=R.cs.at (ei_at (j:=k) (by omega));obtain⟨b2',e2',x2⟩:=R.cs.at (ei_at hi2);have hne:=nodup_ne HI.out.nc hi2 hlk;rw[e1'] at e2';cases e2';subst e1';generalize s.cs[k]=ua at *;generalize s.cs[i]=ub at *;have hne2:¬ua=ub:=hne;clear R BG hi2;go_wp2_with fail
       go_quiet (fail)
       go_wp2;go_roundw
       case rel=>(try ((repeat apply Exists.intro);refine⟨?_,rfl⟩));exact⟨k+1,by go_num,by omega,MJ.drewN _⟩
       case measure=>simp[intOf];omega
      ·have hkI:¬(k:Int)<(i:Int):=by omega
       have cu:wr.cell? ⟨r+1,i,none⟩=some (.bool true):=by
        have hl0:i<U.length:=by rw[HLU.out];exact hlt
        have h0:=(bool_cell MJ.u hl0).1;have h1:=HAL.out.1 i hlt;rw[List.getElem?_eq_getElem hl0] at h1;injection h1 with h1
        rw[h1] at h0;exact h0
       clear R BG;go_wp2;go_roundw
       case rel=>(try ((repeat apply Exists.intro);refine⟨?_,rfl⟩));exact⟨i+1,by go_num,by omega,MJ⟩
       case measure=>simp[intOf];omega
    ·have hiI:¬(i:Int)<(m:Int):=by omega
     clear R BG;go_wp2_with fail;go_loopw [14] (fun vi wr=>∃i:Nat,vi=.int .i64 (i:Nat)/\i<=l/\Mks w4 wr (r+1) U V) (fun vi _=>l-(intOf vi).toNat)
     case atStart=>exact⟨0,by go_num,by omega,MI⟩
     case round =>
      clear q0 q1 q2 q3 gp MI;obtain⟨i,rfl,hi,MI⟩:=hrel;obtain⟨⟨q0,q1,q2,q3⟩,gp,R,BG⟩:=KK.out _ _ _ MI;by_cases hlt:i<l
      ·have hiI:(i:Int)<(l:Int):=by omega
       clear R BG;go_wp2_with fail;go_loopw [15] (fun vk wr=>∃k:Nat,vk=.int .i64 (k:Nat)/\k<=i/\Mks w4 wr (r+1) U V) (fun vk _=>i-(intOf vk).toNat)
       case atStart=>exact⟨0,by go_num,by omega,MI⟩
       case round =>
        clear q0 q1 q2 q3 gp MI;obtain⟨k,rfl,hk,MJ⟩:=hrel;obtain⟨⟨q0,q1,q2,q3⟩,gp,R,BG⟩:=KK.out _ _ _ MJ;by_cases hlk:k<i
        ·have hkI:(k:Int)<(i:Int):=by omega
         have hkm:(k:Int)<(l:Int):=by omega
         have hi2:i<s.ns.length:=by rw[<-HL.out];exact hlt
         obtain⟨b1',e1',x1⟩:=R.ns.at (es_at (j:=k) (by omega));obtain⟨b2',e2',x2⟩:=R.ns.at (es_at hi2);have hne:=nodup_ne HI.out.nn hi2 hlk;rw[e1'] at e2';cases e2';subst e1';generalize s.ns[k]=ua at *;generalize s.ns[i]=ub at *;have hne3:(⟨ua.toArray⟩:ByteArray)≠⟨ub.toArray⟩:=fun h=>hne (by have:=congrArg (fun z:ByteArray=>z.data.toList) h;simpa using this);have hne2:=str_ne hne3;have hne4:(ua==ub)=false:=by simpa using hne
         clear R BG hi2;go_wp2_with fail
         go_quiet (fail)
         go_wp2;go_roundw
         case rel=>(try ((repeat apply Exists.intro);refine⟨?_,rfl⟩));exact⟨k+1,by go_num,by omega,MJ.drewN _⟩
         case measure=>simp[intOf];omega
        ·have hkI:¬(k:Int)<(i:Int):=by omega
         have cu:wr.cell? ⟨r+1+1,i,none⟩=some (.bool true):=by
          have hl0:i<V.length:=by rw[HLV.out];exact hlt
          have h0:=(bool_cell MJ.v hl0).1;have h1:=HAL.out.2 i hlt;rw[List.getElem?_eq_getElem hl0] at h1;injection h1 with h1
          rw[h1] at h0;exact h0
         clear R BG;go_wp2;go_roundw
         case rel=>(try ((repeat apply Exists.intro);refine⟨?_,rfl⟩));exact⟨i+1,by go_num,by omega,MJ⟩
         case measure=>simp[intOf];omega
      ·have hiI:¬(i:Int)<(l:Int):=by omega
       go_wp2;go_ret;exact⟨by first|rfl|simp,by rw[<-HG.out];exact BG⟩
theorem ownK:ownKnob Tryz.prog.godebug=none:=by kernel_rfl
theorem laidOut:laidOutB Tryz.prog=true:=by kernel_rfl
theorem cellsInt:Tryz.prog.cellsOf 3=1:=by kernel_rfl
theorem bd_i64 {a:Int}(h:(Lit.int .i64 a).wf=true):-9223372036854775808<=a/\a<=9223372036854775807:=by
 simpa [Lit.wf,IntKind.min,IntKind.max,IntKind.signed,IntKind.bits] using h
theorem gWd : Tryz.prog.globalNamed "isthmus/lex.words" = some 3 := by kernel_rfl
theorem gWdType:(Tryz.prog.globals[3]?).map (·.type)=some 231:=by kernel_rfl
theorem cellsWd:Tryz.prog.cellsOf 231=27:=by kernel_rfl
theorem cellsStr:Tryz.prog.cellsOf 9=1:=by kernel_rfl
def wordsD:List (DataW Unit):=(List.range 27).map fun j=>.lit (.string (wd j).data.toList)
theorem wordsD_eq:(Rows.laid_isthmus_lex_words:DataW Unit)=.agg wordsD:=by rfl
theorem wordsA_list:wordsA.toList=(List.range 27).map fun j=>Value.string (wd j):=by rfl
theorem words_of_cells {W:World}{fuel:Nat}{cs:List Value}{p:List MemPlace}(h:DataW.trod (fun _=>()) Tryz.prog W 0 (fun _=>true) false fuel 231 cs=some (.agg wordsD,p)):cs=wordsA.toList:=by
 obtain⟨xs,m,_,hx,hl,hlen,hf⟩:=DataW.trod_array Tryz.underlying231 h;rw[cellsWd] at hl;simp only[cellsStr,Nat.mul_one] at hf;simp only[Prod.mk.injEq,DataW.agg.injEq] at hx;rw[wordsA_list];apply List.ext_getElem?;intro i;by_cases hi:i<27
 ·have hfi:=hf i hi;have hxi:xs[i]?=some xs[i]:=List.getElem?_eq_getElem (by omega);rw[hxi] at hfi;obtain⟨s,h1,h2⟩:=DataW.trod_string Tryz.underlying9 hfi;have hc:cs[i]?=some (.string s):=by
   have:=congrArg (·[0]?) h1
   simpa [List.getElem?_take,List.getElem?_drop] using this
  have hd:(xs.map (·.1))[i]?=some (.lit (.string s.data.toList)):=by rw[List.getElem?_map,hxi,h2.1];rfl
  rw[<-hx.1] at hd;unfold wordsD at hd;rw[List.getElem?_map,List.getElem?_range hi] at hd;simp only[Option.map_some,Option.some.injEq,DataW.lit.injEq,Lit.string.injEq] at hd;have hs:=bytes_eq.1 hd;rw[hc,List.getElem?_map,List.getElem?_range hi,<-hs];rfl
 ·rw[List.getElem?_eq_none (by omega),List.getElem?_eq_none (by simp;omega)]
theorem wd_of_laid {W : World} {r : List (String × DataW Unit)} (h : laidMet Tryz.prog (("isthmus/lex.words", Rows.laid_isthmus_lex_words) :: r) W) : Wd W := by
 rw[wordsD_eq] at h;obtain⟨ps,⟨g',t',cs,fuel,p,q,hg',ht',hvar,hd,_,_⟩,_⟩:=h;obtain rfl:=Option.some.inj (gWd.symm.trans hg');obtain rfl:=Option.some.inj (gWdType.symm.trans ht');have hcs:=words_of_cells hd;have hcs':cs=wordsA:=Array.toList_inj.1 hcs;subst hcs';simp only[World.var?,gWd,Option.bind_some] at hvar;split at hvar
 ·rename_i c t fr hh
  cases hvar;exact⟨t,fr,hh⟩
 ·cases hvar
def layCells (cs:Array Value):Obj->Obj
 | .cells _ t frozen=>.cells cs t frozen
 | o=>o
def lowB (P:Program):Nat:=(World.holding P default ⟨#[],#[],[]⟩).heap.size
theorem field_cells {W:World}{m:Nat}{l:List Value}{a b:Int}{p:List MemPlace}
  (h:DataW.trod (fun _=>()) Tryz.prog W 0 (fun _=>true) false m 224 l=some (.agg [.lit (.int .u64 a),.lit (.int .u64 b)],p)):l=[.int .u64 a,.int .u64 b]:=by
 obtain⟨y0,y1,n,hx,hl,h0,h1⟩:=trod_struct2 Tryz.underlying224 h;simp only[Prod.mk.injEq,DataW.agg.injEq,List.cons.injEq,and_true] at hx;obtain⟨⟨e0,e1⟩,_⟩:=hx;obtain⟨z0,c0,r0,_⟩:=DataW.trod_int Tryz.underlying179 h0;obtain⟨z1,c1,r1,_⟩:=DataW.trod_int Tryz.underlying54 h1;subst r0 r1;simp only[DataW.lit.injEq,Lit.int.injEq,true_and] at e0 e1;subst e0 e1;rw[cellsField] at hl;simp only[cellsUint,cellsUint64] at c0 c1
 match l,hl with
 | [v0,v1],_ =>
  simp at c0 c1;rw[c0,c1]
theorem tab_of_laid2 {W : World} {r : List (String × DataW Unit)} (h : laidMet Tryz.prog (("isthmus/pack.fields", Rows.laid_isthmus_pack_fields) :: r) W) : Tab W := by
 obtain⟨ps,⟨g',t',cs,fuel,p,q,hg',ht',hvar,hd,_,_⟩,_⟩:=h;obtain rfl:=Option.some.inj (gTab.symm.trans hg');obtain rfl:=Option.some.inj (gTabType.symm.trans ht');obtain⟨xs,m,_,hx,hl,hlen,hf⟩:=DataW.trod_array Tryz.underlying225 hd;rw[cellsTab] at hl;simp only[cellsField] at hf
 match xs,hlen with
 | [x0,x1,x2],_ =>
  have f0:=hf 0 (by omega);have f1:=hf 1 (by omega);have f2:=hf 2 (by omega);simp only[Rows.laid_isthmus_pack_fields,List.map_cons,List.map_nil,Prod.mk.injEq,DataW.agg.injEq,List.cons.injEq,and_true] at hx;obtain⟨⟨e0,e1,e2⟩,_⟩:=hx;obtain⟨d0,p0⟩:=x0;obtain⟨d1,p1⟩:=x1;obtain⟨d2,p2⟩:=x2;simp only at e0 e1 e2;subst e0 e1 e2;have g0:=field_cells f0;have g1:=field_cells f1;have g2:=field_cells f2;obtain⟨l⟩:=cs
  match l,hl with
  | [v0,v1,v2,v3,v4,v5],_ =>
   simp at g0 g1 g2;obtain⟨rfl,rfl⟩:=g0;obtain⟨rfl,rfl⟩:=g1;obtain⟨rfl,rfl⟩:=g2;have hc:=fun i=>World.var?_cell gTab hvar i;have c0:=hc 0;have c1:=hc 1;have c2:=hc 2;have c3:=hc 3;have c4:=hc 4;have c5:=hc 5;simp at c0 c1 c2 c3 c4 c5;refine⟨c0,c1,c2,c3,c4,c5,?_⟩;by_cases hs:2<W.heap.size
   ·exact hs
   ·exfalso
    have:W.heap[2]?=none:=Array.getElem?_eq_none (by omega)
    simp[World.cell?,this] at c0
theorem gBar : Tryz.prog.globalNamed "isthmus/emit.bare" = some 0 := by kernel_rfl
theorem gBarType:(Tryz.prog.globals[0]?).map (·.type)=some 185:=by kernel_rfl
theorem cellsBar:Tryz.prog.cellsOf 185=25:=by kernel_rfl
def barL:List Int:=[0,0,0,0,0,0,4,5,6,7,8,9,10,0,0,0,0,0,0,0,0,0,20,0,22]
def barD:List (DataW Unit):=(List.range 25).map fun j=>.lit (.int .i64 (barL.getD j 0))
theorem barD_eq:(Rows.laid_isthmus_emit_bare:DataW Unit)=.agg barD:=by rfl
theorem bar_of_laid {W : World} {r : List (String × DataW Unit)} (h : laidMet Tryz.prog (("isthmus/emit.bare", Rows.laid_isthmus_emit_bare) :: r) W) : (∀ k : Nat, k < 25 → W.cell? ⟨0, k, none⟩ = some (.int .i64 (barL.getD k 0))) ∧ 0 < W.heap.size := by
 rw[barD_eq] at h;obtain⟨ps,⟨g',t',cs,fuel,p,q,hg',ht',hvar,hd,_,_⟩,_⟩:=h;obtain rfl:=Option.some.inj (gBar.symm.trans hg');obtain rfl:=Option.some.inj (gBarType.symm.trans ht');obtain⟨xs,m,_,hx,hl,hlen,hf⟩:=DataW.trod_array Tryz.underlying185 hd;rw[cellsBar] at hl;simp only[cellsInt,Nat.mul_one] at hf;simp only[Prod.mk.injEq,DataW.agg.injEq] at hx;have hc:=fun i=>World.var?_cell gBar hvar i;have key:∀ o,o<25->cs[o]?=some (.int .i64 (barL.getD o 0)):=fun o ho=>by
  have hfi:=hf o ho;have hxi:xs[o]?=some xs[o]:=List.getElem?_eq_getElem (by omega);rw[hxi] at hfi;obtain⟨z,c0,r0,_⟩:=DataW.trod_int Tryz.underlying3 hfi;have hd:(xs.map (·.1))[o]?=some (.lit (.int .i64 z)):=by rw[List.getElem?_map,hxi,r0];rfl
  rw[<-hx.1] at hd;unfold barD at hd;rw[List.getElem?_map,List.getElem?_range ho] at hd;simp only[Option.map_some,Option.some.injEq,DataW.lit.injEq,Lit.int.injEq,true_and] at hd;have h0:((cs.toList.drop o).take 1)[0]?=some (.int .i64 z):=by rw[c0];rfl
  simp only[List.getElem?_take,List.getElem?_drop] at h0;rw[hd];simpa using h0
 refine⟨fun o ho=>(hc o).trans (key o ho),?_⟩;by_cases hs:0<W.heap.size
 ·exact hs
 ·exfalso;have h0:=(hc 0).trans (key 0 (by omega))
  have:W.heap[0]?=none:=Array.getElem?_eq_none (by omega)
  simp[World.cell?,this] at h0
theorem emtab_of_laid {W : World} (h : laidMet Tryz.prog [("isthmus/pack.fields", Rows.laid_isthmus_pack_fields), ("isthmus/lex.words", Rows.laid_isthmus_lex_words), ("isthmus/emit.bare", Rows.laid_isthmus_emit_bare)] W) : EmTab W := ⟨tab_of_laid2 h, (bar_of_laid h.tail.tail).1, (bar_of_laid h.tail.tail).2⟩
def bareA:Array Value:=((List.range 25).map fun j=>Value.int .i64 (barL.getD j 0)).toArray
def laidWorldE (P:Program)(os:Os):World :=
 let w0:=World.holding P os ⟨#[],#[],[]⟩
 { w0 with heap:=((w0.heap.modify 2 (layCells #[.int .u64 56,.int .u64 255,.int .u64 28,.int .u64 268435455,.int .u64 0,.int .u64 268435455])).modify 3 (layCells wordsA)).modify 0 (layCells bareA) }
theorem str_lit {s:ByteArray}{a:List UInt8}(h:s.data.toList=a):Value.string s=stv a:=by
 subst h;rfl
def rawP (n:Int)(nm:List UInt8)(a:Int)(len:Nat):Prop:=-9223372036854775808<=n/\n<=9223372036854775807/\nm.length<=maxLen/\-9223372036854775808<=a/\a<=9223372036854775807/\len<=maxLen
def Fs.raw:Fs->Prop
 | ⟨none⟩=>True
 | ⟨some ⟨_,n,nm,a,ks,r⟩⟩=>rawP n nm a ks.len/\ks.raw/\r.raw
def Ex.raw (e:Ex):Prop:=rawP e.n e.nm e.a e.kids.len/\e.kids.raw
theorem Fs.raw_wide:∀ {f:Fs},f.raw->f.wide
 | ⟨none⟩,h=>trivial
 | ⟨some ⟨k,n,nm,a,ks,r⟩⟩,h=>⟨h.1.2.2.2.2.2,Fs.raw_wide (f:=ks) h.2.1,Fs.raw_wide (f:=r) h.2.2⟩
theorem Fs.len_size':∀ (x:Fs),x.len<=x.size
 | ⟨none⟩=>Nat.le_refl _
 | ⟨some ⟨k,n,nm,a,ks,r⟩⟩=>by have:=Fs.len_size' r;show r.len+1<=ks.size+r.size+1;omega
theorem Fs.raw_fit:∀ {f:Fs},f.raw->f.size<=100000000->f.short/\f.rng
 | ⟨none⟩,h,hs=>⟨trivial,trivial⟩
 | ⟨some ⟨k,n,nm,a,ks,r⟩⟩,h,hs=>by
  have hs:ks.size+r.size+1<=100000000:=hs;have h1:=Fs.raw_fit (f:=ks) h.2.1 (by omega);have h2:=Fs.raw_fit (f:=r) h.2.2 (by omega)
  have:=Fs.len_size' ks
  exact⟨⟨h.1.2.2.1,by omega,h1.1,h2.1⟩,⟨h.1.1,h.1.2.1,h1.2,h2.2⟩⟩
theorem Ex.raw_fit {e:Ex}(h:e.raw)(hs:e.kids.size<=100000000):e.fit:=by
 obtain⟨h1,h2⟩:=Fs.raw_fit h.2 hs
 have:=Fs.len_size' e.kids
 exact⟨h.1.2.2.1,h1,by omega,h.1.1,h.1.2.1,h2⟩
theorem add_plain' (b off j:Nat):(⟨b,off,none⟩:Addr).add j=⟨b,off+j,none⟩:=by
 unfold Addr.add;split
 ·subst j;simp_all
 ·rfl
theorem cellsNd:Tryz.prog.cellsOf 34=4:=by kernel_rfl
theorem cellsNs:Tryz.prog.cellsOf 32=1:=by kernel_rfl
theorem cellsIs:Tryz.prog.cellsOf 35=1:=by kernel_rfl
theorem cellsPl:Tryz.prog.cellsOf 37=5:=by kernel_rfl
theorem open_node {H:Type}{enc:TypeId × Value->H}{W:World}{sp:Nat->Bool}{held:Bool}:∀ (fuel:Nat) (cs:List Value) (x:DataW H × List MemPlace),DataW.trod enc Tryz.prog W 0 sp held fuel 34 cs=some x->(∀ q ∈ x.2,q.block<W.heap.size) ->
  ∃(e:Ex) (ao:Option Addr) (cap:Nat),cs=[.int .i64 e.k,.int .i64 e.n,stv e.nm,.slice ao e.kids.len cap]/\SnA W e.kids ao/\e.raw:=by
 intro fuel
 induction fuel using Nat.strongRecOn with
 | _ fuel IH =>
 intro cs x h hlt;obtain⟨xs,k,hk,hxy,hl,hxl,hff⟩:=DataW.trod_struct Tryz.underlying34 h;rw[cellsNd] at hl
 match xs,hxl,cs,hl with
 | [y0,y1,y2,y3],_,[u0,u1,u2,u3],_ =>
  have g0:=hff 0 _ rfl;have g1:=hff 1 _ rfl;have g2:=hff 2 _ rfl;have g3:=hff 3 _ rfl;simp[cellsInt,cellsStr,cellsNs] at g0 g1 g2 g3;obtain⟨z0,e0,x0,w0⟩:=DataW.trod_int Tryz.underlying3 g0;obtain⟨z1,e1,x1,w1⟩:=DataW.trod_int Tryz.underlying3 g1;obtain⟨z2,e2,x2,w2⟩:=DataW.trod_string Tryz.underlying9 g2;simp at e0 e1 e2;have b1:=bd_i64 w1;have hz2:(z2.data.toList).length<=maxLen:=by rw[data_len];exact w2
  have hlt3:∀ q ∈ y3.2,q.block<W.heap.size:=fun q hq=>hlt q (by rw[hxy];simp[hq]);rcases DataW.trod_slice Tryz.underlying32 g3 with ⟨hs,_⟩|⟨a,len,cap,elems,rest,n,hn,hs,hx3,_,hlc,hcm,hel,hE,_,_⟩
  ·simp at hs;refine⟨⟨z0,z1,z2.data.toList,0,.nil⟩,none,0,?_,.inl rfl,⟨b1.1,b1.2,hz2,by show -9223372036854775808<=(0:Int);decide,by show (0:Int)<=9223372036854775807;decide,by show 0<=_;omega⟩,trivial⟩;rw[e0,e1,e2,hs,str_lit rfl];rfl
  ·simp at hs;obtain⟨b,off,spot⟩:=a;have each:∀ i,i<len->∃(e:Ex) (ak:Option Addr) (ck:Nat),spot=none/\b<W.heap.size/\(∀ j u,([.int .i64 e.k,.int .i64 e.n,stv e.nm,.slice ak e.kids.len ck]:List Value)[j]?=some u->W.cell? ⟨b,off+i*4+j,none⟩=some u)/\SnA W e.kids ak/\e.raw:=by
    intro i hi;have hEi:=hE i hi;rw[List.getElem?_eq_getElem (by omega),cellsNd] at hEi;obtain⟨cs',h1,h2⟩:=Option.bind_eq_some_iff.1 hEi;obtain⟨_,hlen,hcell⟩:=World.cells?_some h1;have hsub:∀ q ∈ (elems[i]'(by omega)).2,q.block<W.heap.size:=fun q hq=>hlt3 q (by
     rw[hx3];simp only[List.mem_append,List.mem_flatMap];exact .inr ⟨_,.inl (List.getElem_mem _),hq⟩)
    obtain⟨e,ak,ck,hcs,SK,hr⟩:=IH n (by omega) cs' _ h2 hsub;have hspot:spot=none:=by
     have hE0:=hE 0 (by omega);rw[List.getElem?_eq_getElem (by omega),cellsNd] at hE0;obtain⟨cs0,k1,k2⟩:=Option.bind_eq_some_iff.1 hE0;obtain⟨_,klen,kcell⟩:=World.cells?_some k1;have k3:=kcell 0 (by omega);rw[List.getElem?_eq_getElem (by omega)] at k3;simpa [Addr.add] using World.cell?_spot k3
    subst hspot;have hbl:b<W.heap.size:=hlt3 (.cell b off) (by
     rw[hx3];exact List.mem_append_left _ (MemPlace.mem_row.2 ⟨0,by rw[cellsNd];omega,by simp⟩))
    refine⟨e,ak,ck,rfl,hbl,fun j u hu=>?_,SK,hr⟩;rw[<-hcs] at hu;have hj:j<4:=by
     by_cases hj:j<4
     ·exact hj
     ·rw[List.getElem?_eq_none (by omega)] at hu;cases hu
    have:=hcell j hj
    rw[add_plain',add_plain',hu] at this;exact this
   have build:∀ m,m<=len->∃f:Fs,f.len=m/\f.raw/\(m=0\/spot=none/\b<W.heap.size)/\∃zs,(∀ j u,zs[j]?=some u->W.cell? ⟨b,off+(len-m)*4+j,none⟩=some u)/\FcN W (fun _=>True) f zs:=by
    intro m
    induction m with
    | zero=>intro _;exact⟨.nil,rfl,trivial,.inl rfl,[],fun j u hu=>by simp at hu,rfl⟩
    | succ m ih =>
     intro hm;obtain⟨f,f1,f2,_,zs,f3,f4⟩:=ih (by omega);obtain⟨e,ak,ck,s1,s2,s3,s4,s5⟩:=each (len-(m+1)) (by omega);refine⟨.cons e.k e.n e.nm e.a e.kids f,by show f.len+1=_;rw[f1],⟨s5.1,s5.2,f2⟩,.inr ⟨s1,s2⟩,.int .i64 e.k::.int .i64 e.n::stv e.nm::.slice ak e.kids.len ck::zs,fun j u hu=>?_,ak,ck,zs,rfl,s4,f4⟩;by_cases hj:j<4
     ·refine s3 j u ?_;rw[<-hu]
      match j,hj with
      | 0,_=>rfl
      | 1,_=>rfl
      | 2,_=>rfl
      | 3,_=>rfl
     ·obtain⟨i,rfl⟩:∃i,j=i+4:=⟨j-4,by omega⟩
      have:=f3 i u (by simpa using hu)
      rw[show off+(len-(m+1))*4+(i+4)=off+(len-m)*4+i by
       have:len-m=len-(m+1)+1:=by omega
       rw[this];omega]
      exact this
   obtain⟨f,f1,f2,f5,zs,f3,f4⟩:=build len (Nat.le_refl _);have hcm':len<=maxLen:=Nat.le_trans hlc hcm;refine⟨⟨z0,z1,z2.data.toList,0,f⟩,some ⟨b,off,spot⟩,cap,?_,?_,⟨b1.1,b1.2,hz2,by show -9223372036854775808<=(0:Int);decide,by show (0:Int)<=9223372036854775807;decide,by show f.len<=_;rw[f1];exact hcm'⟩,f2⟩
   ·show _=[Value.int .i64 z0,.int .i64 z1,stv z2.data.toList,.slice (some ⟨b,off,spot⟩) f.len cap];rw[e0,e1,e2,hs,str_lit rfl,f1]
   ·rcases f5 with h0|⟨rfl,hb⟩
    ·refine .inl ?_;rw[h0] at f1;cases f using Fs.on with
     | nil=>rfl
     | cons k n nm a ks r=>cases f1
    ·refine .inr ⟨b,off,zs,rfl,trivial,hb,fun j u hu=>?_,f4⟩
     have:=f3 j u hu
     rw[Nat.sub_self,Nat.zero_mul,Nat.add_zero] at this;exact this
def rawI (cells:List Int):Prop:=cells.length<=maxLen/\∀ c,c ∈ cells->-9223372036854775808<=c/\c<=9223372036854775807
theorem open_plan {H:Type}{enc:TypeId × Value->H}{W:World}{v:Value}{d:DataW H}{ps:List MemPlace}(h:DataW.Trod enc Tryz.prog W 0 (fun _=>true) true 37 v d ps)(hlt:∀ q ∈ ps,q.block<W.heap.size) :
  ∃(e:Ex) (ao:Option Addr) (cap:Nat) (cv:Value) (cells:List Int),v=plV e ao cap cv/\SnA W e.kids ao/\e.raw/\InA W cv cells/\rawI cells:=by
 obtain⟨fuel,hf⟩:=h;obtain⟨xs,k,hk,hxy,hl,hxl,hff⟩:=DataW.trod_struct Tryz.underlying37 hf;rw[cellsPl] at hl;obtain⟨cs,hcs⟩:∃cs,cs=v.cells.toList:=⟨_,rfl⟩
 rw[<-hcs] at hl hff
 match xs,hxl,cs,hl with
 | [y0,y1],_,[u0,u1,u2,u3,u4],_ =>
  have g0:=hff 0 _ rfl;have g1:=hff 1 _ rfl;simp[cellsNd,cellsIs] at g0 g1;have hp0:∀ q ∈ y0.2,q.block<W.heap.size:=fun q hq=>hlt q (by
   have h2:ps=[y0,y1].flatMap (·.2):=congrArg Prod.snd hxy;rw[h2];simp[hq])
  have hp1:∀ q ∈ y1.2,q.block<W.heap.size:=fun q hq=>hlt q (by
   have h2:ps=[y0,y1].flatMap (·.2):=congrArg Prod.snd hxy;rw[h2];simp[hq])
  obtain⟨e,ao,cap,hc4,S,R⟩:=open_node _ _ _ g0 hp0;obtain⟨cv,cells,hcv,IN,RI⟩:∃(cv:Value) (cells:List Int),u4=cv/\InA W cv cells/\rawI cells:=by
   rcases open_ints Tryz.underlying35 Tryz.underlying3 cellsInt g1 with ⟨hcs,hx⟩|⟨a,len',cap',zs,hcs,_,hl,hm,hz,hx,hcell,hwz⟩
   ·simp at hcs;exact⟨_,[],hcs,⟨none,0,rfl,.inl rfl⟩,by simp[rawI]⟩
   ·simp at hcs;simp only[if_true] at hz;refine⟨_,zs.take len',hcs,?_,by simp[rawI];exact⟨by omega,fun c hc=>by have:=bd_i64 (hwz c (List.mem_of_mem_take hc));omega⟩⟩;obtain⟨b,off,spot⟩:=a;refine⟨some ⟨b,off,spot⟩,cap',by simp;omega,?_⟩;by_cases h0:len'=0
    ·exact .inl (by simp[h0])
    ·refine .inr ?_;have hspot:spot=none:=by simpa [Addr.add] using World.cell?_spot (hcell 0 (by omega))
     subst hspot;have hbW:b<W.heap.size:=hp1 (.cell b off) (by
      rw[hx];exact MemPlace.mem_row.2 ⟨0,by omega,by simp⟩)
     refine⟨b,off,rfl,trivial,hbW,fun j x hj=>?_⟩;rw[List.getElem?_take] at hj;split at hj
     ·rename_i hjl
      have h3:=hcell j (by omega);rw[add_plain',List.getD_eq_getElem?_getD,hj] at h3;exact h3
     ·cases hj
  refine⟨e,ao,cap,cv,cells,?_,S,R,IN,RI⟩;subst hcv;have hcs':v.cells=#[.int .i64 e.k,.int .i64 e.n,stv e.nm,.slice ao e.kids.len cap,u4]:=by
   apply Array.toList_inj.1;rw[<-hcs];simp at hc4;obtain⟨rfl,rfl,rfl,rfl⟩:=hc4;rfl
  cases v with
  | agg cs=>rw[show (Value.agg cs).cells=cs from rfl] at hcs';rw[hcs'];rfl
  | _=>have h5:=congrArg Array.size hcs';simp[Value.cells] at h5
end Go.Proofs.YtnfmpocfakblmaaGreatDoor

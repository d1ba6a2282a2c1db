import Derived.Test.YtpdfdhkdfkhfkaaDoorGdQ
import Derived.Great.BuildSlice
set_option maxRecDepth 100000
set_option maxHeartbeats 8000000
namespace Go.Proofs.YtpdfdhkdfkhfkaaDoor
open Go.ChangeShapes Go.WideShapes Go.ChangeAt Go.RowKit
set_option linter.unusedVariables false
set_option linter.unusedSimpArgs false
def emF (n:Nat):Vw:=⟨List.replicate n none,List.replicate n false,0,0,0⟩
theorem em_ok (n:Nat):VwOk n (emF n):=⟨by simp[emF],by simp[emF],fun i s h=>by
 simp only[emF,List.getElem?_replicate] at h;split at h<;>simp at h,by simp[emF],by simp[emF],by simp[emF]⟩
theorem em_d (n:Nat):VwD (emF n):=by
 intro i _;show (List.replicate n false).getD i false=false;rw[List.getD_eq_getElem?_getD,List.getElem?_replicate];split<;>rfl
theorem em_come {n:Nat}(h:0<n):come 0 ([],0) (emF n)=(0,newF n):=by
 unfold come emF;rw[List.getElem?_replicate,if_pos h];rfl
theorem em_wait (n i:Nat):waits (emF n) i=false:=by
 unfold waits emF;rw[List.getD_eq_getElem?_getD,List.getElem?_replicate];split<;>rfl
theorem em_wt (n j:Nat):wtN (emF n) j=0:=by
 apply Nat.eq_of_testBit_eq;intro i;rw[wtN_bit,em_wait,Bool.and_false,Nat.zero_testBit]
theorem Row.mkg {w:World}{o:Nat->Nat}{i:Nat}{e:TypeId}{g n:Nat}{xs:List Value}(h:w.heap[g]?=some (.cells xs.toArray e (0,0)))(hl:xs.length=n)(hn:n<=maxLen)(ho:o g=i):Row w o i e 1 (.slice (some ⟨g,0,none⟩) n n) n xs :=
 ⟨⟨by omega,.inr ⟨g,n,xs.toArray,rfl,Nat.zero_le _,h,Nat.le_refl _,hn,by simp[hl],by rw[Nat.mul_one];simp[<-hl]⟩⟩,fun k hk=>by cases hk;exact ho⟩
theorem infoPt:(Tryd.prog.info? 83).map (fun i=>(i.zero,i.size,i.bytes))=some (some (.pointer none),1,8):=by kernel_rfl
theorem mk_pt (n:Nat)(hn:n<=32768)(w:World):(Instr.makeSlice 59 (.int .i64 (n:Nat)) (.int .i64 (n:Nat))).run Tryd.prog w=.ok (.slice (some ⟨w.heap.size,0,none⟩) n n) (w.alloc (.cells (List.replicate n (Value.pointer none)).toArray 83)):=by
 obtain⟨ii,hii,hzi0,hzi1,hzi2⟩:=info_parts infoPt
 have:=run_make (P:=Tryd.prog) w 59 83 ii _ Tryd.underlying59 hii hzi0 .i64 .i64 n n (by omega) (Int.le_refl _) (by rw[hzi2];omega) (by omega)
 rw[hzi1] at this;have e:madeCells (Value.pointer none).cells (n*1)=(List.replicate n (Value.pointer none)).toArray:=by
  apply Array.toList_inj.1;simp[madeCells,Value.cells];apply List.ext_getElem
  ·simp
  ·intro i h1 h2;simp[Nat.mod_one]
 rw[<-e];simpa only[Int.toNat_natCast] using this
theorem mk_u (n:Nat)(hn:n<=32768)(w:World):(Instr.makeSlice 22 (.int .i64 (n:Nat)) (.int .i64 (n:Nat))).run Tryd.prog w=.ok (.slice (some ⟨w.heap.size,0,none⟩) n n) (w.alloc (.cells (List.replicate n (Value.int .u64 0)).toArray 53)):=by
 obtain⟨ii,hii,hzi0,hzi1,hzi2⟩:=info_parts infoU64g
 have:=run_make (P:=Tryd.prog) w 22 53 ii _ Tryd.underlying22 hii hzi0 .i64 .i64 n n (by omega) (Int.le_refl _) (by rw[hzi2];omega) (by omega)
 rw[hzi1] at this;have e:madeCells (Value.int .u64 0).cells (n*1)=(List.replicate n (Value.int .u64 0)).toArray:=by
  apply Array.toList_inj.1;simp[madeCells,Value.cells];apply List.ext_getElem
  ·simp
  ·intro i h1 h2;simp[Nat.mod_one]
 rw[<-e];simpa only[Int.toNat_natCast] using this
def PostW (w:World)(p:Pl)(c:Cd)(v:Vw)(e:Ending)(w':World):Prop :=
 ∃vb z pb o',e=.returned (.pointer (some ⟨vb,0,none⟩))/\VwM w' o' vb z p c v pb/\Below w.heap.size w w'/\(∀ j,j<w.heap.size->o' j=0)/\w.heap.size<=vb
theorem newViewer_c (w:World)(p:Pl)(c:Cd)(hr:rgtB c=true)(hC:CdW w p c) :
  Calls Tryd.prog 20 #[cdV p c] w (PostW w p c (newF c.ws.length)):=by
 obtain⟨hn0,hn,-⟩:=rgt_lens hr;obtain⟨g,hg⟩:∃g,g=w.heap.size:=⟨_,rfl⟩
 obtain⟨w1,hw1⟩:∃w1,w1=w.alloc (.cells (cdA p c) 26):=⟨_,rfl⟩
 have B1:Below w.heap.size w w1:=by rw[hw1];exact bG _ _
 have hs1:w1.heap.size=g+1:=by rw[hw1,hg];simp
 have K1:bx4 p c w1 g:=by rw[hw1,hg];exact bx4_new p c w
 obtain⟨k0,k1,k2,k3⟩:=K1;obtain⟨n,hnn⟩:∃n,n=c.ws.length:=⟨_,rfl⟩
 rw[<-hnn] at hn0 hn k0 ⊢;obtain⟨m,hm⟩:∃m,m=(n+63) / 64:=⟨_,rfl⟩
 have hm2:m<=32768:=by omega
 have hmI:((n:Int)+63) / 64=(m:Int):=by omega
 have hw63:IntKind.i64.wrap ((n:Int)+63)=(n:Int)+63:=by rw[IntKind.wrap_i64];omega
 have hwm:IntKind.i64.wrap ((m:Nat):Int)=(m:Int):=by rw[IntKind.wrap_i64];omega
 have hmT:((n:Int)+63).tdiv 64=(m:Int):=by rw[Int.tdiv_eq_ediv_of_nonneg (by omega)];omega
 have MK1:=fun wx=>mk_pt n hn wx;have MK2:=fun wx=>mk_u m hm2 wx;obtain⟨X,hX⟩:∃X,X=(List.replicate n (Value.pointer none)).toArray:=⟨_,rfl⟩
 obtain⟨Y,hY⟩:∃Y,Y=(List.replicate m (Value.int .u64 0)).toArray:=⟨_,rfl⟩
 rw[<-hX] at MK1;rw[<-hY] at MK2;have HX:=Lib.hid hX;have HY:=Lib.hid hY;have HM:=Lib.hid hm;have HG:=Lib.hid hg;have HS1:=Lib.hid hs1;have HN:=Lib.hid hnn;clear hX hY hm hg hs1 hC
 -- the labels
 obtain⟨o1,ho1⟩:∃o1:Nat->Nat,o1=fun j=>if j<g then 0 else 9:=⟨_,rfl⟩
 go_enter Tryd.func20,Tryd.ntmps20;go_upto_region 1 with fail;rw[<-hw1,<-HG.out];clear hw1 hnn;go_upto_region 2 with fail;have HB4:Hid (∀ w',Below w1.heap.size w1 w'->w'.cell? ⟨g,0,none⟩=some (.slice p.aw n p.cw)/\w'.cell? ⟨g,1,none⟩=some (.slice p.ac c.cs.length p.cc)/\w'.cell? ⟨g,2,none⟩=some (.slice p.an c.ns.length p.cn)/\w'.cell? ⟨g,3,none⟩=some (.slice p.ak c.ks.length p.ck)):=fun w' B=>by
  have hl:g<w1.heap.size:=by have:=HS1.out;omega
  exact⟨(B.cell (p:=⟨g,0,none⟩) hl).trans k0,(B.cell (p:=⟨g,1,none⟩) hl).trans k1,(B.cell (p:=⟨g,2,none⟩) hl).trans k2,(B.cell (p:=⟨g,3,none⟩) hl).trans k3⟩
 obtain⟨cs0,hcs0⟩:∃cs0,cs0=stC ([],0):=⟨_,rfl⟩
 have hbt:Tryd.prog.built 78 []=some cs0.toArray:=by rw[hcs0];kernel_rfl
 have HCS0:=Lib.hid hcs0;clear hcs0;have HEND:Hid (∀ (wc:World) (gs gw:Nat),Below w1.heap.size w1 wc->wc.heap[g+3]?=some (.cells #[.slice p.aw n p.cw,.slice p.ac c.cs.length p.cc,.slice p.an c.ns.length p.cn,.slice p.ak c.ks.length p.ck,.slice (some ⟨gs,0,none⟩) n n,.slice (some ⟨gw,0,none⟩) m m,.int .i64 0,.int .i64 0,.int .i64 0] 61 (0,0)) ->
   wc.heap[gs]?=some (.cells X 83 (0,0))->wc.heap[gw]?=some (.cells Y 53 (0,0))->(g<gs/\g<gw/\gs<g+3/\gw<g+3/\gs≠gw) ->
   Calls Tryd.prog 36 #[.pointer (some ⟨g+3,0,none⟩),.int .i64 0,.agg cs0.toArray] wc fun e w'=>e=.returned (.int .i64 0)/\PostW w p c (newF n) (.returned (.pointer (some ⟨g+3,0,none⟩))) w'):=fun wc gs gw B hv hx hy hd=>by
  obtain⟨o2,ho2⟩:∃o2:Nat->Nat,o2=fun j=>if j<g then 0 else if j=g+3 then 1 else if j=gs then 2 else if j=gw then 3 else 9:=⟨_,rfl⟩
  have oa:o2 (g+3)=1:=by rw[ho2];simp
  have ob:o2 gs=2:=by
   rw[ho2];have h1:¬gs<g:=by omega
   have h2:¬gs=g+3:=by omega
   simp[h1,h2]
  have oc:o2 gw=3:=by
   rw[ho2];have h1:¬gw<g:=by omega
   have h2:¬gw=g+3:=by omega
   have h3:¬gw=gs:=by omega
   simp[h1,h2,h3]
  have hlen:(emF n).tb.length=n:=by simp[emF]
  have hmg:mG n=m:=HM.out.symm;have M:VwM wc o2 (g+3) ⟨gs,n,gw,m⟩ p c (emF n) (fun _=>0):=by
   refine⟨?_,?_,?_,fun i s hs=>?_⟩
   ·rw[hlen,hmg];unfold vwA;rw[<-HN.out];exact⟨hv,oa⟩
   ·rw[hlen];refine Row.mkg ?_ (by rw[ptV_len,hlen]) (by unfold maxLen;omega) ob;rw[hx,HX.out]
    congr 2
    apply Array.toList_inj.1;simp only[ptV,hlen];apply List.ext_getElem
    ·simp
    ·intro i h1 h2;simp[emF,List.getD_eq_getElem?_getD,List.getElem?_replicate];split<;>rfl
   ·rw[hlen,hmg];refine Row.mkg ?_ (by simp[wtV]) (by unfold maxLen;omega) oc;rw[hy,HY.out]
    congr 2
    apply Array.toList_inj.1;apply List.ext_getElem
    ·simp[wtV]
    ·intro i h1 h2;simp[wtV,em_wt]
   ·simp only[emF,List.getElem?_replicate] at hs;split at hs<;>simp at hs
  have HC:=come_c wc o2 (g+3) ⟨gs,n,gw,m⟩ p c (emF n) (fun _=>0) n 0 ([],0) (em_ok n) (em_d n) ⟨by simp,by simp,by simp⟩ hn (by omega) M;rw[em_come hn0,<-HCS0.out] at HC;refine HC.mono fun e w' ⟨h1,o',pb',h2,h3⟩=>⟨h1,g+3,_,pb',o',rfl,h2,?_,fun j hj=>?_,by rw[<-HG.out];omega⟩
  ·have hBw:Below w.heap.size w wc:=B1.trans (B.mono B1.size);refine hBw.trans ⟨h3.os,h3.tape,h3.output,h3.size,fun k hk=>h3.block k (by have:=hBw.size;omega) ?_⟩;have hk':k<g:=by rw[HG.out];exact hk
   have:o2 k=0:=by rw[ho2];simp[hk']
   rw[this];decide
  ·have hBw:Below w.heap.size w wc:=B1.trans (B.mono B1.size);rw[h3.lab j (by have:=hBw.size;omega),ho2];have hk':j<g:=by rw[HG.out];exact hj
   simp[hk']
 clear ho1 o1
 -- THE REGION
 refine wp_region_noPanic ?_;refine wp_region_held_drew (S:=(fun wx=>wx.cell? ⟨g,0,none⟩=some (.slice p.aw n p.cw)/\wx.cell? ⟨g,1,none⟩=some (.slice p.ac c.cs.length p.cc)/\wx.cell? ⟨g,2,none⟩=some (.slice p.an c.ns.length p.cn)/\wx.cell? ⟨g,3,none⟩=some (.slice p.ak c.ks.length p.ck))) (by kernel_rfl) ⟨k0,k1,k2,k3⟩ (fun hHeld=>?_);refine wpAnyH_take (i:=0) (v:=?v1) rfl (by kernel_rfl) (by kernel_rfl) (by kernel_rfl) (fun _ _ _ h=>h) (Or.inl ⟨by rfl,?hy1⟩) (by assumption) ?rest1
 case hy1=>(intro w hSw;(try dsimp only at hSw);obtain⟨s1,s2,s3,s4⟩:=hSw;go_simp;all_goals (with_reducible rfl))
 simp only[Act.put,List.getElem_toArray,List.getElem_cons_zero,List.getElem_cons_succ,List.setIfInBounds_toArray,List.set_cons_zero,List.set_cons_succ];refine wpAnyH_take (i:=1) (v:=?v2) rfl (by kernel_rfl) (by kernel_rfl) (by kernel_rfl) (fun _ _ _ h=>h) (Or.inl ⟨by rfl,?hy2⟩) (by assumption) ?rest2
 case hy2=>(intro w hSw;(try dsimp only at hSw);go_simp;all_goals (with_reducible rfl))
 simp only[Act.put,List.getElem_toArray,List.getElem_cons_zero,List.getElem_cons_succ,List.setIfInBounds_toArray,List.set_cons_zero,List.set_cons_succ];refine wpAnyH_take (i:=3) (v:=?v3) rfl (by kernel_rfl) (by kernel_rfl) (by kernel_rfl) (fun _ _ _ h=>h) (Or.inl ⟨by rfl,?hy3⟩) (by assumption) ?rest3
 case hy3=>(intro w hSw;(try dsimp only at hSw);go_simp;all_goals (with_reducible rfl))
 simp only[Act.put,List.getElem_toArray,List.getElem_cons_zero,List.getElem_cons_succ,List.setIfInBounds_toArray,List.set_cons_zero,List.set_cons_succ];refine wpAnyH_take (i:=4) (v:=?v4) rfl (by kernel_rfl) (by kernel_rfl) (by kernel_rfl) (fun _ _ _ h=>h) (Or.inl ⟨by rfl,?hy4⟩) (by assumption) ?rest4
 case hy4=>(intro w hSw;(try dsimp only at hSw);go_simp;all_goals (with_reducible rfl))
 simp only[Act.put,List.getElem_toArray,List.getElem_cons_zero,List.getElem_cons_succ,List.setIfInBounds_toArray,List.set_cons_zero,List.set_cons_succ];refine wpAnyH_take (i:=5) (v:=?v5) rfl (by kernel_rfl) (by kernel_rfl) (by kernel_rfl) (fun _ _ _ h=>h) (Or.inl ⟨by rfl,?hy5⟩) (by assumption) ?rest5
 case hy5=>(intro w hSw;(try dsimp only at hSw);go_simp;all_goals (with_reducible rfl))
 simp only[Act.put,List.getElem_toArray,List.getElem_cons_zero,List.getElem_cons_succ,List.setIfInBounds_toArray,List.set_cons_zero,List.set_cons_succ];refine wpAnyH_ready (rs:=[2,6]) (by kernel_rfl) (by simp) ?_;refine AllReadyH.cons rfl (fun K hK=>?_) (AllReadyH.cons rfl (fun K hK=>?_) AllReadyH.nil)
 ·skip
  go_simp
  obtain⟨wa,hwa⟩:∃y,y=(w1.alloc (.cells X 83)).drew:=⟨_,rfl⟩
  rw[<-hwa];have Ba:Below w1.heap.size w1 wa:=by rw[hwa];exact(bG _ _).drew
  have ea:wa.heap[g+1]?=some (.cells X 83 (0,0)):=by rw[hwa,<-HS1.out];exact h1G _ _
  have sa:wa.heap.size=g+2:=by rw[hwa];show (w1.alloc _).heap.size=_;rw[World.size_alloc,HS1.out]
  refine hK.out _ _ (HB4.out wa Ba) (fun hHeld=>?_);have SA:=Lib.hid sa;clear hK K hwa sa;refine wpAnyH_ready (rs:=[6]) (by kernel_rfl) (by simp) ?_;refine AllReadyH.cons rfl (fun K hK=>?_) AllReadyH.nil
  go_simp
  obtain⟨wb,hwb⟩:∃y,y=wa.alloc (.cells Y 53):=⟨_,rfl⟩
  rw[<-hwb];have Bb:Below w1.heap.size w1 wb:=by rw[hwb];exact Ba.alloc Ba.size _
  have eb:wb.heap[g+2]?=some (.cells Y 53 (0,0)):=by rw[hwb,<-SA.out];exact h1G _ _
  have ea2:wb.heap[g+1]?=some (.cells X 83 (0,0)):=by rw[hwb];exact(Below.heap_alloc _ _ _ (by have:=SA.out;omega)).trans ea
  have sb:wb.heap.size=g+3:=by rw[hwb,World.size_alloc,SA.out]
  try rw[SA.out]
  refine hK.out _ _ (HB4.out wb Bb) (fun hHeld=>?_);have SB:=Lib.hid sb;clear hK K hwb sb;refine wpAnyH_take (i:=7) (v:=?v6) rfl (by kernel_rfl) (by kernel_rfl) (by kernel_rfl) (fun _ _ _ h=>h) (Or.inl ⟨by rfl,?hy6⟩) (by assumption) ?rest6
  case hy6=>(intro w hSw;(try dsimp only at hSw);go_simp;all_goals (with_reducible rfl))
  simp only[Act.put,List.getElem_toArray,List.getElem_cons_zero,List.getElem_cons_succ,List.setIfInBounds_toArray,List.set_cons_zero,List.set_cons_succ];refine wpAnyH_ready (rs:=[8]) (by kernel_rfl) (by simp) ?_;refine AllReadyH.cons rfl (fun K hK=>?_) AllReadyH.nil
  go_simp
  rw[HS1.out];try rw[SB.out]
  obtain⟨wc,hwc⟩:∃y,y=wb.alloc (.cells #[.slice p.aw n p.cw,.slice p.ac c.cs.length p.cc,.slice p.an c.ns.length p.cn,.slice p.ak c.ks.length p.ck,.slice (some ⟨g+1,0,none⟩) n n,.slice (some ⟨g+2,0,none⟩) m m,.int .i64 0,.int .i64 0,.int .i64 0] 61):=⟨_,rfl⟩
  rw[<-hwc];have Bc:Below w1.heap.size w1 wc:=by rw[hwc];exact Bb.alloc Bb.size _
  have ec:wc.heap[g+3]?=some (.cells #[.slice p.aw n p.cw,.slice p.ac c.cs.length p.cc,.slice p.an c.ns.length p.cn,.slice p.ak c.ks.length p.ck,.slice (some ⟨g+1,0,none⟩) n n,.slice (some ⟨g+2,0,none⟩) m m,.int .i64 0,.int .i64 0,.int .i64 0] 61 (0,0)):=by rw[hwc,<-SB.out];exact h1G _ _
  have ec1:wc.heap[g+1]?=some (.cells X 83 (0,0)):=by rw[hwc];exact(Below.heap_alloc _ _ _ (by have:=SB.out;omega)).trans ea2
  have ec2:wc.heap[g+2]?=some (.cells Y 53 (0,0)):=by rw[hwc];exact(Below.heap_alloc _ _ _ (by have:=SB.out;omega)).trans eb
  refine hK.out _ _ (HB4.out wc Bc) (fun hHeld=>?_);clear hK K hwc ea2 ea eb Ba Bb;refine wpAnyH_take (i:=9) (v:=?v7) rfl (by kernel_rfl) (by kernel_rfl) (by kernel_rfl) (fun _ _ _ h=>h) (Or.inl ⟨by rfl,?hy7⟩) (by assumption) ?rest7
  case hy7=>(intro w hSw;(try dsimp only at hSw);go_simp;all_goals (with_reducible rfl))
  simp only[Act.put,List.getElem_toArray,List.getElem_cons_zero,List.getElem_cons_succ,List.setIfInBounds_toArray,List.set_cons_zero,List.set_cons_succ];refine wpAnyH_done (by kernel_rfl) ?_ _;refine NoPanic.normal ?_;have HE:=HEND.out wc (g+1) (g+2) Bc ec ec1 ec2 (by omega);clear Bc ec ec1 ec2 HEND hHeld MK1 MK2 hw63 hwm hmT hmI k0 k1 k2 k3 HB4 HX HY HM HS1 HN SA SB;go_upto_region 3 with fail;go_wp2_with (first|(refine wpList_buildTo rfl 78 #[] rfl (some 18) rfl cs0.toArray (by simpa using hbt) ?_)|(go_at_call 36;refine HE.mono ?_;rintro e w5 ⟨rfl,HY⟩;have HYY:=Lib.hid HY;clear HE HY));go_ret;exact HYY.out
 ·skip
  go_simp
  obtain⟨wa,hwa⟩:∃y,y=(w1.alloc (.cells Y 53)).drew:=⟨_,rfl⟩
  rw[<-hwa];have Ba:Below w1.heap.size w1 wa:=by rw[hwa];exact(bG _ _).drew
  have ea:wa.heap[g+1]?=some (.cells Y 53 (0,0)):=by rw[hwa,<-HS1.out];exact h1G _ _
  have sa:wa.heap.size=g+2:=by rw[hwa];show (w1.alloc _).heap.size=_;rw[World.size_alloc,HS1.out]
  refine hK.out _ _ (HB4.out wa Ba) (fun hHeld=>?_);have SA:=Lib.hid sa;clear hK K hwa sa;refine wpAnyH_ready (rs:=[2]) (by kernel_rfl) (by simp) ?_;refine AllReadyH.cons rfl (fun K hK=>?_) AllReadyH.nil
  go_simp
  obtain⟨wb,hwb⟩:∃y,y=wa.alloc (.cells X 83):=⟨_,rfl⟩
  rw[<-hwb];have Bb:Below w1.heap.size w1 wb:=by rw[hwb];exact Ba.alloc Ba.size _
  have eb:wb.heap[g+2]?=some (.cells X 83 (0,0)):=by rw[hwb,<-SA.out];exact h1G _ _
  have ea2:wb.heap[g+1]?=some (.cells Y 53 (0,0)):=by rw[hwb];exact(Below.heap_alloc _ _ _ (by have:=SA.out;omega)).trans ea
  have sb:wb.heap.size=g+3:=by rw[hwb,World.size_alloc,SA.out]
  try rw[SA.out]
  refine hK.out _ _ (HB4.out wb Bb) (fun hHeld=>?_);have SB:=Lib.hid sb;clear hK K hwb sb;refine wpAnyH_take (i:=7) (v:=?v8) rfl (by kernel_rfl) (by kernel_rfl) (by kernel_rfl) (fun _ _ _ h=>h) (Or.inl ⟨by rfl,?hy8⟩) (by assumption) ?rest8
  case hy8=>(intro w hSw;(try dsimp only at hSw);go_simp;all_goals (with_reducible rfl))
  simp only[Act.put,List.getElem_toArray,List.getElem_cons_zero,List.getElem_cons_succ,List.setIfInBounds_toArray,List.set_cons_zero,List.set_cons_succ];refine wpAnyH_ready (rs:=[8]) (by kernel_rfl) (by simp) ?_;refine AllReadyH.cons rfl (fun K hK=>?_) AllReadyH.nil
  go_simp
  rw[HS1.out];try rw[SB.out]
  obtain⟨wc,hwc⟩:∃y,y=wb.alloc (.cells #[.slice p.aw n p.cw,.slice p.ac c.cs.length p.cc,.slice p.an c.ns.length p.cn,.slice p.ak c.ks.length p.ck,.slice (some ⟨g+2,0,none⟩) n n,.slice (some ⟨g+1,0,none⟩) m m,.int .i64 0,.int .i64 0,.int .i64 0] 61):=⟨_,rfl⟩
  rw[<-hwc];have Bc:Below w1.heap.size w1 wc:=by rw[hwc];exact Bb.alloc Bb.size _
  have ec:wc.heap[g+3]?=some (.cells #[.slice p.aw n p.cw,.slice p.ac c.cs.length p.cc,.slice p.an c.ns.length p.cn,.slice p.ak c.ks.length p.ck,.slice (some ⟨g+2,0,none⟩) n n,.slice (some ⟨g+1,0,none⟩) m m,.int .i64 0,.int .i64 0,.int .i64 0] 61 (0,0)):=by rw[hwc,<-SB.out];exact h1G _ _
  have ec1:wc.heap[g+1]?=some (.cells Y 53 (0,0)):=by rw[hwc];exact(Below.heap_alloc _ _ _ (by have:=SB.out;omega)).trans ea2
  have ec2:wc.heap[g+2]?=some (.cells X 83 (0,0)):=by rw[hwc];exact(Below.heap_alloc _ _ _ (by have:=SB.out;omega)).trans eb
  refine hK.out _ _ (HB4.out wc Bc) (fun hHeld=>?_);clear hK K hwc ea2 ea eb Ba Bb;refine wpAnyH_take (i:=9) (v:=?v9) rfl (by kernel_rfl) (by kernel_rfl) (by kernel_rfl) (fun _ _ _ h=>h) (Or.inl ⟨by rfl,?hy9⟩) (by assumption) ?rest9
  case hy9=>(intro w hSw;(try dsimp only at hSw);go_simp;all_goals (with_reducible rfl))
  simp only[Act.put,List.getElem_toArray,List.getElem_cons_zero,List.getElem_cons_succ,List.setIfInBounds_toArray,List.set_cons_zero,List.set_cons_succ];refine wpAnyH_done (by kernel_rfl) ?_ _;refine NoPanic.normal ?_;have HE:=HEND.out wc (g+2) (g+1) Bc ec ec2 ec1 (by omega);clear Bc ec ec1 ec2 HEND hHeld MK1 MK2 hw63 hwm hmT hmI k0 k1 k2 k3 HB4 HX HY HM HS1 HN SA SB;go_upto_region 3 with fail;go_wp2_with (first|(refine wpList_buildTo rfl 78 #[] rfl (some 18) rfl cs0.toArray (by simpa using hbt) ?_)|(go_at_call 36;refine HE.mono ?_;rintro e w5 ⟨rfl,HY⟩;have HYY:=Lib.hid HY;clear HE HY));go_ret;exact HYY.out
 -- BEHIND IT
end Go.Proofs.YtpdfdhkdfkhfkaaDoor

import Derived.Test.YtejnhibajmncaaaDoorGdQ
import Derived.Great.BuildSlice
set_option maxRecDepth 100000
set_option maxHeartbeats 8000000
namespace Go.Proofs.YtejnhibajmncaaaDoor
open Go.ChangeShapes Go.WideShapes Go.ChangeAt Go.RowKit
set_option linter.unusedVariables false
set_option linter.unusedSimpArgs false
def emFG (n:Nat):Vw:=⟨List.replicate n none,List.replicate n false,0,0,0⟩
theorem em_ok (n:Nat):VwOk n (emFG n):=⟨by simp[emFG],by simp[emFG],fun i s h=>by
 simp only[emFG,List.getElem?_replicate] at h;split at h<;>simp at h,by simp[emFG],by simp[emFG],by simp[emFG]⟩
theorem em_d (n:Nat):VwD (emFG n):=by
 intro i _;show (List.replicate n false).getD i false=false;rw[List.getD_eq_getElem?_getD,List.getElem?_replicate];split<;>rfl
theorem em_come {n:Nat}(h:0<n):come 0 ([],0) (emFG n)=(0,newF n):=by
 unfold come emFG;rw[List.getElem?_replicate,if_pos h];rfl
theorem em_wait (n i:Nat):waits (emFG n) i=false:=by
 unfold waits emFG;rw[List.getD_eq_getElem?_getD,List.getElem?_replicate];split<;>rfl
theorem em_wt (n j:Nat):wtN (emFG n) j=0:=by
 apply Nat.eq_of_testBit_eq;intro i;rw[wtN_bit,em_wait,Bool.and_false,Nat.zero_testBit]
theorem Row.mkg {w:World}{o:Nat->Nat}{i:Nat}{e:TypeId}{g n:Nat}{xs:List Value}(h:w.heap[g]?=some (.cells xs.toArray e (0,0)))(hl:xs.length=n)(hn:n<=maxLen)(ho:o g=i):Row w o i e 1 (.slice (some ⟨g,0,none⟩) n n) n xs :=
 ⟨⟨by omega,.inr ⟨g,n,xs.toArray,rfl,Nat.zero_le _,h,Nat.le_refl _,hn,by simp[hl],by rw[Nat.mul_one];simp[<-hl]⟩⟩,fun k hk=>by cases hk;exact ho⟩
theorem infoPt:(Tryd.prog.info? 86).map (fun i=>(i.zero,i.size,i.bytes))=some (some (.pointer none),1,8):=by kernel_rfl
theorem mk_pt (n:Nat)(hn:n<=32768)(w:World):(Instr.makeSlice 64 (.int .i64 (n:Nat)) (.int .i64 (n:Nat))).run Tryd.prog w=.ok (.slice (some ⟨w.heap.size,0,none⟩) n n) (w.alloc (.cells (List.replicate n (Value.pointer none)).toArray 86)):=by
 obtain⟨ii,hii,hzi0,hzi1,hzi2⟩:=info_parts infoPt
 have:=run_make (P:=Tryd.prog) w 64 86 ii _ Tryd.underlying64 hii hzi0 .i64 .i64 n n (by omega) (Int.le_refl _) (by rw[hzi2];omega) (by omega)
 rw[hzi1] at this;have e:madeCells (Value.pointer none).cells (n*1)=(List.replicate n (Value.pointer none)).toArray:=by
  apply Array.toList_inj.1;simp[madeCells,Value.cells];apply List.ext_getElem
  ·simp
  ·intro i h1 h2;simp[Nat.mod_one]
 rw[<-e];simpa only[Int.toNat_natCast] using this
theorem mk_u (n:Nat)(hn:n<=32768)(w:World):(Instr.makeSlice 30 (.int .i64 (n:Nat)) (.int .i64 (n:Nat))).run Tryd.prog w=.ok (.slice (some ⟨w.heap.size,0,none⟩) n n) (w.alloc (.cells (List.replicate n (Value.int .u64 0)).toArray 54)):=by
 obtain⟨ii,hii,hzi0,hzi1,hzi2⟩:=info_parts infoU64g
 have:=run_make (P:=Tryd.prog) w 30 54 ii _ Tryd.underlying30 hii hzi0 .i64 .i64 n n (by omega) (Int.le_refl _) (by rw[hzi2];omega) (by omega)
 rw[hzi1] at this;have e:madeCells (Value.int .u64 0).cells (n*1)=(List.replicate n (Value.int .u64 0)).toArray:=by
  apply Array.toList_inj.1;simp[madeCells,Value.cells];apply List.ext_getElem
  ·simp
  ·intro i h1 h2;simp[Nat.mod_one]
 rw[<-e];simpa only[Int.toNat_natCast] using this
def PostWG (w:World)(p:Pl)(c:Cd)(v:Vw)(e:Ending)(w':World):Prop :=
 ∃vb z pb o',e=.returned (.pointer (some ⟨vb,0,none⟩))/\VwM w' o' vb z p c v pb/\Below w.heap.size w w'/\(∀ j,j<w.heap.size->o' j=0)/\w.heap.size<=vb
theorem newViewer_c (w:World)(p:Pl)(c:Cd)(hr:rgtB c=true)(hC:CdW w p c) :
  Calls Tryd.prog 18 #[cdV p c] w (PostWG w p c (newF c.ws.length)):=by
 obtain⟨hn0,hn,-⟩:=rgt_lens hr;obtain⟨g,hg⟩:∃g,g=w.heap.size:=⟨_,rfl⟩
 obtain⟨w1,hw1⟩:∃w1,w1=w.alloc (.cells (cdA p c) 33):=⟨_,rfl⟩
 have B1:Below w.heap.size w w1:=by rw[hw1];exact bG _ _
 have hs1:w1.heap.size=g+1:=by rw[hw1,hg];simp
 have K1:bx4 p c w1 g:=by rw[hw1,hg];exact bx4_new p c w
 obtain⟨k0,k1,k2,k3⟩:=K1;obtain⟨n,hnn⟩:∃n,n=c.ws.length:=⟨_,rfl⟩
 rw[<-hnn] at hn0 hn k0 ⊢;obtain⟨m,hm⟩:∃m,m=(n+63) / 64:=⟨_,rfl⟩
 have hm2:m<=32768:=by omega
 have hmI:((n:Int)+63) / 64=(m:Int):=by omega
 have hw63:IntKind.i64.wrap ((n:Int)+63)=(n:Int)+63:=by rw[IntKind.wrap_i64];omega
 have hwm:IntKind.i64.wrap ((m:Nat):Int)=(m:Int):=by rw[IntKind.wrap_i64];omega
 have hmT:((n:Int)+63).tdiv 64=(m:Int):=by rw[Int.tdiv_eq_ediv_of_nonneg (by omega)];omega
 have MK1:=fun wx=>mk_pt n hn wx;have MK2:=fun wx=>mk_u m hm2 wx;obtain⟨X,hX⟩:∃X,X=(List.replicate n (Value.pointer none)).toArray:=⟨_,rfl⟩
 obtain⟨Y,hY⟩:∃Y,Y=(List.replicate m (Value.int .u64 0)).toArray:=⟨_,rfl⟩
 rw[<-hX] at MK1;rw[<-hY] at MK2;have HX:=Lib.hid hX;have HY:=Lib.hid hY;have HM:=Lib.hid hm;have HG:=Lib.hid hg;have HS1:=Lib.hid hs1;have HN:=Lib.hid hnn;clear hX hY hm hg hs1 hC
 -- the labels
 obtain⟨o1,ho1⟩:∃o1:Nat->Nat,o1=fun j=>if j<g then 0 else 9:=⟨_,rfl⟩
 go_enter Tryd.func18,Tryd.ntmps18;go_upto_region 1 with fail;rw[<-hw1,<-HG.out];clear hw1 hnn;go_upto_region 2 with fail;have HB4:Hid (∀ w',Below w1.heap.size w1 w'->w'.cell? ⟨g,0,none⟩=some (.slice p.aw n p.cw)/\w'.cell? ⟨g,1,none⟩=some (.slice p.ac c.cs.length p.cc)/\w'.cell? ⟨g,2,none⟩=some (.slice p.an c.ns.length p.cn)/\w'.cell? ⟨g,3,none⟩=some (.slice p.ak c.ks.length p.ck)):=fun w' B=>by
  have hl:g<w1.heap.size:=by have:=HS1.out;omega
  exact⟨(B.cell (p:=⟨g,0,none⟩) hl).trans k0,(B.cell (p:=⟨g,1,none⟩) hl).trans k1,(B.cell (p:=⟨g,2,none⟩) hl).trans k2,(B.cell (p:=⟨g,3,none⟩) hl).trans k3⟩
 obtain⟨cs0,hcs0⟩:∃cs0,cs0=stC ([],0):=⟨_,rfl⟩
 have hbt:Tryd.prog.built 81 []=some cs0.toArray:=by rw[hcs0];kernel_rfl
 have HCS0:=Lib.hid hcs0;clear hcs0;have HEND:Hid (∀ (wc:World) (gs gw:Nat),Below w1.heap.size w1 wc->wc.heap[g+3]?=some (.cells #[.slice p.aw n p.cw,.slice p.ac c.cs.length p.cc,.slice p.an c.ns.length p.cn,.slice p.ak c.ks.length p.ck,.slice (some ⟨gs,0,none⟩) n n,.slice (some ⟨gw,0,none⟩) m m,.int .i64 0,.int .i64 0,.int .i64 0] 66 (0,0)) ->
   wc.heap[gs]?=some (.cells X 86 (0,0))->wc.heap[gw]?=some (.cells Y 54 (0,0))->(g<gs/\g<gw/\gs<g+3/\gw<g+3/\gs≠gw) ->
   Calls Tryd.prog 35 #[.pointer (some ⟨g+3,0,none⟩),.int .i64 0,.agg cs0.toArray] wc fun e w'=>e=.returned (.int .i64 0)/\PostWG w p c (newF n) (.returned (.pointer (some ⟨g+3,0,none⟩))) w'):=fun wc gs gw B hv hx hy hd=>by
  obtain⟨o2,ho2⟩:∃o2:Nat->Nat,o2=fun j=>if j<g then 0 else if j=g+3 then 1 else if j=gs then 2 else if j=gw then 3 else 9:=⟨_,rfl⟩
  have oa:o2 (g+3)=1:=by rw[ho2];simp
  have ob:o2 gs=2:=by
   rw[ho2];have h1:¬gs<g:=by omega
   have h2:¬gs=g+3:=by omega
   simp[h1,h2]
  have oc:o2 gw=3:=by
   rw[ho2];have h1:¬gw<g:=by omega
   have h2:¬gw=g+3:=by omega
   have h3:¬gw=gs:=by omega
   simp[h1,h2,h3]
  have hlen:(emFG n).tb.length=n:=by simp[emFG]
  have hmg:mG n=m:=HM.out.symm;have M:VwM wc o2 (g+3) ⟨gs,n,gw,m⟩ p c (emFG n) (fun _=>0):=by
   refine⟨?_,?_,?_,fun i s hs=>?_⟩
   ·rw[hlen,hmg];unfold vwA;rw[<-HN.out];exact⟨hv,oa⟩
   ·rw[hlen];refine Row.mkg ?_ (by rw[ptV_len,hlen]) (by unfold maxLen;omega) ob;rw[hx,HX.out]
    congr 2
    apply Array.toList_inj.1;simp only[ptV,hlen];apply List.ext_getElem
    ·simp
    ·intro i h1 h2;simp[emFG,List.getD_eq_getElem?_getD,List.getElem?_replicate];split<;>rfl
   ·rw[hlen,hmg];refine Row.mkg ?_ (by simp[wtV]) (by unfold maxLen;omega) oc;rw[hy,HY.out]
    congr 2
    apply Array.toList_inj.1;apply List.ext_getElem
    ·simp[wtV]
    ·intro i h1 h2;simp[wtV,em_wt]
   ·simp only[emFG,List.getElem?_replicate] at hs;split at hs<;>simp at hs
  have HC:=come_c wc o2 (g+3) ⟨gs,n,gw,m⟩ p c (emFG n) (fun _=>0) n 0 ([],0) (em_ok n) (em_d n) ⟨by simp,by simp,by simp⟩ hn (by omega) M;rw[em_come hn0,<-HCS0.out] at HC;refine HC.mono fun e w' ⟨h1,o',pb',h2,h3⟩=>⟨h1,g+3,_,pb',o',rfl,h2,?_,fun j hj=>?_,by rw[<-HG.out];omega⟩
  ·have hBw:Below w.heap.size w wc:=B1.trans (B.mono B1.size);refine hBw.trans ⟨h3.os,h3.tape,h3.output,h3.size,fun k hk=>h3.block k (by have:=hBw.size;omega) ?_⟩;have hk':k<g:=by rw[HG.out];exact hk
   have:o2 k=0:=by rw[ho2];simp[hk']
   rw[this];decide
  ·have hBw:Below w.heap.size w wc:=B1.trans (B.mono B1.size);rw[h3.lab j (by have:=hBw.size;omega),ho2];have hk':j<g:=by rw[HG.out];exact hj
   simp[hk']
 clear ho1 o1
 -- THE REGION
 refine wp_region_noPanic ?_;refine wp_region_held_drew (S:=(fun wx=>wx.cell? ⟨g,0,none⟩=some (.slice p.aw n p.cw)/\wx.cell? ⟨g,1,none⟩=some (.slice p.ac c.cs.length p.cc)/\wx.cell? ⟨g,2,none⟩=some (.slice p.an c.ns.length p.cn)/\wx.cell? ⟨g,3,none⟩=some (.slice p.ak c.ks.length p.ck))) (by kernel_rfl) ⟨k0,k1,k2,k3⟩ (fun hHeld=>?_);refine wpAnyH_take (i:=0) (v:=?v1) rfl (by kernel_rfl) (by kernel_rfl) (by kernel_rfl) (fun _ _ _ h=>h) (Or.inl ⟨by rfl,?hy1⟩) (by assumption) ?rest1
 case hy1=>(intro w hSw;(try dsimp only at hSw);obtain⟨s1,s2,s3,s4⟩:=hSw;go_simp;all_goals (with_reducible rfl))
 simp only[Act.put,List.getElem_toArray,List.getElem_cons_zero,List.getElem_cons_succ,List.setIfInBounds_toArray,List.set_cons_zero,List.set_cons_succ];refine wpAnyH_take (i:=1) (v:=?v2) rfl (by kernel_rfl) (by kernel_rfl) (by kernel_rfl) (fun _ _ _ h=>h) (Or.inl ⟨by rfl,?hy2⟩) (by assumption) ?rest2
 case hy2=>(intro w hSw;(try dsimp only at hSw);go_simp;all_goals (with_reducible rfl))
 simp only[Act.put,List.getElem_toArray,List.getElem_cons_zero,List.getElem_cons_succ,List.setIfInBounds_toArray,List.set_cons_zero,List.set_cons_succ];refine wpAnyH_take (i:=3) (v:=?v3) rfl (by kernel_rfl) (by kernel_rfl) (by kernel_rfl) (fun _ _ _ h=>h) (Or.inl ⟨by rfl,?hy3⟩) (by assumption) ?rest3
 case hy3=>(intro w hSw;(try dsimp only at hSw);go_simp;all_goals (with_reducible rfl))
 simp only[Act.put,List.getElem_toArray,List.getElem_cons_zero,List.getElem_cons_succ,List.setIfInBounds_toArray,List.set_cons_zero,List.set_cons_succ];refine wpAnyH_take (i:=4) (v:=?v4) rfl (by kernel_rfl) (by kernel_rfl) (by kernel_rfl) (fun _ _ _ h=>h) (Or.inl ⟨by rfl,?hy4⟩) (by assumption) ?rest4
 case hy4=>(intro w hSw;(try dsimp only at hSw);go_simp;all_goals (with_reducible rfl))
 simp only[Act.put,List.getElem_toArray,List.getElem_cons_zero,List.getElem_cons_succ,List.setIfInBounds_toArray,List.set_cons_zero,List.set_cons_succ];refine wpAnyH_take (i:=5) (v:=?v5) rfl (by kernel_rfl) (by kernel_rfl) (by kernel_rfl) (fun _ _ _ h=>h) (Or.inl ⟨by rfl,?hy5⟩) (by assumption) ?rest5
 case hy5=>(intro w hSw;(try dsimp only at hSw);go_simp;all_goals (with_reducible rfl))
 simp only[Act.put,List.getElem_toArray,List.getElem_cons_zero,List.getElem_cons_succ,List.setIfInBounds_toArray,List.set_cons_zero,List.set_cons_succ];refine wpAnyH_ready (rs:=[2,6]) (by kernel_rfl) (by simp) ?_;refine AllReadyH.cons rfl (fun K hK=>?_) (AllReadyH.cons rfl (fun K hK=>?_) AllReadyH.nil)
 ·skip
  go_simp
  obtain⟨wa,hwa⟩:∃y,y=(w1.alloc (.cells X 86)).drew:=⟨_,rfl⟩
  rw[<-hwa];have Ba:Below w1.heap.size w1 wa:=by rw[hwa];exact(bG _ _).drew
  have ea:wa.heap[g+1]?=some (.cells X 86 (0,0)):=by rw[hwa,<-HS1.out];exact h1G _ _
  have sa:wa.heap.size=g+2:=by rw[hwa];show (w1.alloc _).heap.size=_;rw[World.size_alloc,HS1.out]
  refine hK.out _ _ (HB4.out wa Ba) (fun hHeld=>?_);have SA:=Lib.hid sa;clear hK K hwa sa;refine wpAnyH_ready (rs:=[6]) (by kernel_rfl) (by simp) ?_;refine AllReadyH.cons rfl (fun K hK=>?_) AllReadyH.nil
  go_simp
  obtain⟨wb,hwb⟩:∃y,y=wa.alloc (.cells Y 54):=⟨_,rfl⟩
  rw[<-hwb];have Bb:Below w1.heap.size w1 wb:=by rw[hwb];exact Ba.alloc Ba.size _
  have eb:wb.heap[g+2]?=some (.cells Y 54 (0,0)):=by rw[hwb,<-SA.out];exact h1G _ _
  have ea2:wb.heap[g+1]?=some (.cells X 86 (0,0)):=by rw[hwb];exact(Below.heap_alloc _ _ _ (by have:=SA.out;omega)).trans ea
  have sb:wb.heap.size=g+3:=by rw[hwb,World.size_alloc,SA.out]
  try rw[SA.out]
  refine hK.out _ _ (HB4.out wb Bb) (fun hHeld=>?_);have SB:=Lib.hid sb;clear hK K hwb sb;refine wpAnyH_take (i:=7) (v:=?v6) rfl (by kernel_rfl) (by kernel_rfl) (by kernel_rfl) (fun _ _ _ h=>h) (Or.inl ⟨by rfl,?hy6⟩) (by assumption) ?rest6
  case hy6=>(intro w hSw;(try dsimp only at hSw);go_simp;all_goals (with_reducible rfl))
  simp only[Act.put,List.getElem_toArray,List.getElem_cons_zero,List.getElem_cons_succ,List.setIfInBounds_toArray,List.set_cons_zero,List.set_cons_succ];refine wpAnyH_ready (rs:=[8]) (by kernel_rfl) (by simp) ?_;refine AllReadyH.cons rfl (fun K hK=>?_) AllReadyH.nil
  go_simp
  rw[HS1.out];try rw[SB.out]
  obtain⟨wc,hwc⟩:∃y,y=wb.alloc (.cells #[.slice p.aw n p.cw,.slice p.ac c.cs.length p.cc,.slice p.an c.ns.length p.cn,.slice p.ak c.ks.length p.ck,.slice (some ⟨g+1,0,none⟩) n n,.slice (some ⟨g+2,0,none⟩) m m,.int .i64 0,.int .i64 0,.int .i64 0] 66):=⟨_,rfl⟩
  rw[<-hwc];have Bc:Below w1.heap.size w1 wc:=by rw[hwc];exact Bb.alloc Bb.size _
  have ec:wc.heap[g+3]?=some (.cells #[.slice p.aw n p.cw,.slice p.ac c.cs.length p.cc,.slice p.an c.ns.length p.cn,.slice p.ak c.ks.length p.ck,.slice (some ⟨g+1,0,none⟩) n n,.slice (some ⟨g+2,0,none⟩) m m,.int .i64 0,.int .i64 0,.int .i64 0] 66 (0,0)):=by rw[hwc,<-SB.out];exact h1G _ _
  have ec1:wc.heap[g+1]?=some (.cells X 86 (0,0)):=by rw[hwc];exact(Below.heap_alloc _ _ _ (by have:=SB.out;omega)).trans ea2
  have ec2:wc.heap[g+2]?=some (.cells Y 54 (0,0)):=by rw[hwc];exact(Below.heap_alloc _ _ _ (by have:=SB.out;omega)).trans eb
  refine hK.out _ _ (HB4.out wc Bc) (fun hHeld=>?_);clear hK K hwc ea2 ea eb Ba Bb;refine wpAnyH_take (i:=9) (v:=?v7) rfl (by kernel_rfl) (by kernel_rfl) (by kernel_rfl) (fun _ _ _ h=>h) (Or.inl ⟨by rfl,?hy7⟩) (by assumption) ?rest7
  case hy7=>(intro w hSw;(try dsimp only at hSw);go_simp;all_goals (with_reducible rfl))
  simp only[Act.put,List.getElem_toArray,List.getElem_cons_zero,List.getElem_cons_succ,List.setIfInBounds_toArray,List.set_cons_zero,List.set_cons_succ];refine wpAnyH_done (by kernel_rfl) ?_ _;refine NoPanic.normal ?_;have HE:=HEND.out wc (g+1) (g+2) Bc ec ec1 ec2 (by omega);clear Bc ec ec1 ec2 HEND hHeld MK1 MK2 hw63 hwm hmT hmI k0 k1 k2 k3 HB4 HX HY HM HS1 HN SA SB;go_upto_region 3 with fail;go_wp2_with (first|(refine wpList_buildTo rfl 81 #[] rfl (some 18) rfl cs0.toArray (by simpa using hbt) ?_)|(go_at_call 35;refine HE.mono ?_;rintro e w5 ⟨rfl,HY⟩;have HYY:=Lib.hid HY;clear HE HY));go_ret;exact HYY.out
 ·skip
  go_simp
  obtain⟨wa,hwa⟩:∃y,y=(w1.alloc (.cells Y 54)).drew:=⟨_,rfl⟩
  rw[<-hwa];have Ba:Below w1.heap.size w1 wa:=by rw[hwa];exact(bG _ _).drew
  have ea:wa.heap[g+1]?=some (.cells Y 54 (0,0)):=by rw[hwa,<-HS1.out];exact h1G _ _
  have sa:wa.heap.size=g+2:=by rw[hwa];show (w1.alloc _).heap.size=_;rw[World.size_alloc,HS1.out]
  refine hK.out _ _ (HB4.out wa Ba) (fun hHeld=>?_);have SA:=Lib.hid sa;clear hK K hwa sa;refine wpAnyH_ready (rs:=[2]) (by kernel_rfl) (by simp) ?_;refine AllReadyH.cons rfl (fun K hK=>?_) AllReadyH.nil
  go_simp
  obtain⟨wb,hwb⟩:∃y,y=wa.alloc (.cells X 86):=⟨_,rfl⟩
  rw[<-hwb];have Bb:Below w1.heap.size w1 wb:=by rw[hwb];exact Ba.alloc Ba.size _
  have eb:wb.heap[g+2]?=some (.cells X 86 (0,0)):=by rw[hwb,<-SA.out];exact h1G _ _
  have ea2:wb.heap[g+1]?=some (.cells Y 54 (0,0)):=by rw[hwb];exact(Below.heap_alloc _ _ _ (by have:=SA.out;omega)).trans ea
  have sb:wb.heap.size=g+3:=by rw[hwb,World.size_alloc,SA.out]
  try rw[SA.out]
  refine hK.out _ _ (HB4.out wb Bb) (fun hHeld=>?_);have SB:=Lib.hid sb;clear hK K hwb sb;refine wpAnyH_take (i:=7) (v:=?v8) rfl (by kernel_rfl) (by kernel_rfl) (by kernel_rfl) (fun _ _ _ h=>h) (Or.inl ⟨by rfl,?hy8⟩) (by assumption) ?rest8
  case hy8=>(intro w hSw;(try dsimp only at hSw);go_simp;all_goals (with_reducible rfl))
  simp only[Act.put,List.getElem_toArray,List.getElem_cons_zero,List.getElem_cons_succ,List.setIfInBounds_toArray,List.set_cons_zero,List.set_cons_succ];refine wpAnyH_ready (rs:=[8]) (by kernel_rfl) (by simp) ?_;refine AllReadyH.cons rfl (fun K hK=>?_) AllReadyH.nil
  go_simp
  rw[HS1.out];try rw[SB.out]
  obtain⟨wc,hwc⟩:∃y,y=wb.alloc (.cells #[.slice p.aw n p.cw,.slice p.ac c.cs.length p.cc,.slice p.an c.ns.length p.cn,.slice p.ak c.ks.length p.ck,.slice (some ⟨g+2,0,none⟩) n n,.slice (some ⟨g+1,0,none⟩) m m,.int .i64 0,.int .i64 0,.int .i64 0] 66):=⟨_,rfl⟩
  rw[<-hwc];have Bc:Below w1.heap.size w1 wc:=by rw[hwc];exact Bb.alloc Bb.size _
  have ec:wc.heap[g+3]?=some (.cells #[.slice p.aw n p.cw,.slice p.ac c.cs.length p.cc,.slice p.an c.ns.length p.cn,.slice p.ak c.ks.length p.ck,.slice (some ⟨g+2,0,none⟩) n n,.slice (some ⟨g+1,0,none⟩) m m,.int .i64 0,.int .i64 0,.int .i64 0] 66 (0,0)):=by rw[hwc,<-SB.out];exact h1G _ _
  have ec1:wc.heap[g+1]?=some (.cells Y 54 (0,0)):=by rw[hwc];exact(Below.heap_alloc _ _ _ (by have:=SB.out;omega)).trans ea2
  have ec2:wc.heap[g+2]?=some (.cells X 86 (0,0)):=by rw[hwc];exact(Below.heap_alloc _ _ _ (by have:=SB.out;omega)).trans eb
  refine hK.out _ _ (HB4.out wc Bc) (fun hHeld=>?_);clear hK K hwc ea2 ea eb Ba Bb;refine wpAnyH_take (i:=9) (v:=?v9) rfl (by kernel_rfl) (by kernel_rfl) (by kernel_rfl) (fun _ _ _ h=>h) (Or.inl ⟨by rfl,?hy9⟩) (by assumption) ?rest9
  case hy9=>(intro w hSw;(try dsimp only at hSw);go_simp;all_goals (with_reducible rfl))
  simp only[Act.put,List.getElem_toArray,List.getElem_cons_zero,List.getElem_cons_succ,List.setIfInBounds_toArray,List.set_cons_zero,List.set_cons_succ];refine wpAnyH_done (by kernel_rfl) ?_ _;refine NoPanic.normal ?_;have HE:=HEND.out wc (g+2) (g+1) Bc ec ec2 ec1 (by omega);clear Bc ec ec1 ec2 HEND hHeld MK1 MK2 hw63 hwm hmT hmI k0 k1 k2 k3 HB4 HX HY HM HS1 HN SA SB;go_upto_region 3 with fail;go_wp2_with (first|(refine wpList_buildTo rfl 81 #[] rfl (some 18) rfl cs0.toArray (by simpa using hbt) ?_)|(go_at_call 35;refine HE.mono ?_;rintro e w5 ⟨rfl,HY⟩;have HYY:=Lib.hid HY;clear HE HY));go_ret;exact HYY.out
 -- BEHIND IT
def limV (l:Nat × Nat × Nat):Value:=.agg #[.int .i64 (l.1:Nat),.int .i64 (l.2.1:Nat),.int .i64 (l.2.2:Nat)]
def resV (r:ResG):Value:=.tuple #[limV r.1,.int .i64 (r.2.1:Nat),.int .i64 (r.2.2:Nat)]
theorem cells3g {w:World}{b:Nat}{a0 a1 a2:Value}{t:TypeId}(h:w.heap[b]?=some (.cells #[a0,a1,a2] t (0,0))) :
  (w.cell? ⟨b,0,none⟩=some a0/\w.cell? ⟨b,1,none⟩=some a1/\w.cell? ⟨b,2,none⟩=some a2)/\∀ j,w.frozen? ⟨b,j,none⟩=false:=by
 refine⟨⟨?_,?_,?_⟩,fun j=>frozen_of_row w b j _ t h⟩<;>(rw[cell_of_row w b _ _ t (0,0) h];rfl)
theorem set3g {w w1:World}{b:Nat}{a0 a1 a2 x0 x1 x2:Value}{t:TypeId}(h:w1.heap[b]?=some (.cells #[a0,a1,a2] t (0,0)))(B:Below w.heap.size w w1)(hb:w.heap.size<=b) :
  (((w1.setCell ⟨b,0,none⟩ x0).setCell ⟨b,1,none⟩ x1).setCell ⟨b,2,none⟩ x2).heap[b]?=some (.cells #[x0,x1,x2] t (0,0))/\Below w.heap.size w (((w1.setCell ⟨b,0,none⟩ x0).setCell ⟨b,1,none⟩ x1).setCell ⟨b,2,none⟩ x2) :=
 ⟨heap_setCell_same _ _ 2 _ _ _ (heap_setCell_same _ _ 1 _ _ _ (heap_setCell_same _ _ 0 _ _ _ h)),((B.setCell (p:=⟨b,0,none⟩) hb _).setCell (p:=⟨b,1,none⟩) hb _).setCell (p:=⟨b,2,none⟩) hb _⟩
theorem waits_some {v:Vw}{k:Nat}(h:waits v k=true):∃s,v.tb[k]?=some (some s)/\v.dn.getD k false=false:=by
 unfold waits at h;simp only[Bool.and_eq_true,Bool.not_eq_true'] at h;obtain⟨h1,h2⟩:=h;rw[List.getD_eq_getElem?_getD] at h1;cases hx:v.tb[k]? with
 | none=>rw[hx] at h1;simp at h1
 | some x =>
  rw[hx] at h1;cases x with
  | none=>simp at h1
  | some s=>exact⟨s,rfl,h2⟩
theorem verify_c (w:World)(p:Pl)(c:Cd)(hF:Fx w)(hTz:Tzg w)(hC:CdW w p c) :
  Calls Tryd.prog 7 #[cdV p c] w fun e w'=>e=.returned (resV (vrfA c))/\Below w.heap.size w w':=by
 obtain⟨g,hg⟩:∃g,g=w.heap.size:=⟨_,rfl⟩
 obtain⟨w1,hw1⟩:∃w1,w1=(w.alloc (.cells (cdA p c) 33)).alloc (.cells #[.int .i64 0,.int .i64 0,.int .i64 0] 38):=⟨_,rfl⟩
 have B1:Below w.heap.size w w1:=by rw[hw1];exact bG2 _ (bG _ _)
 have hs1:w1.heap.size=g+2:=by rw[hw1,hg];simp
 have e0:w1.heap[g]?=some (.cells (cdA p c) 33 (0,0)):=by rw[hw1,hg];exact h2G _ _ _
 have e1:w1.heap[g+1]?=some (.cells #[.int .i64 0,.int .i64 0,.int .i64 0] 38 (0,0)):=by rw[hw1,hg];exact hA2 _ _ _
 have hK1:bx4 p c w1 g:=box4_cells e0;have HR:=right_c p c w1 (hF.below B1) (hC.below B1);have HG:=Lib.hid hg
 -- the result's box,whatever lies behind
 have HX:Hid (∀ w',Below w1.heap.size w1 w'->bx4 p c w' g/\w'.heap[g+1]?=some (.cells #[.int .i64 0,.int .i64 0,.int .i64 0] 38 (0,0))/\Below w.heap.size w w'/\Fx w'/\Tzg w'/\CdW w' p c):=fun w' B =>
  ⟨bx4_below hK1 (by omega) B,(B.block _ (by omega)).trans e1,B1.trans (B.mono B1.size),hF.below (B1.trans (B.mono B1.size)),hTz.below (B1.trans (B.mono B1.size)),hC.below (B1.trans (B.mono B1.size))⟩
 obtain⟨q0,q1,q2,q3⟩:=hK1;clear e0 e1 hF hTz hg;cases hr:rgtB c
 ·rw[hr] at HR;have hv:vrfA c=((0,0,0),180,0):=by unfold vrfA;rw[hr];rfl
  rw[hv];go_enter Tryd.func7,Tryd.ntmps7;go_upto_region 1 with fail;rw[<-hw1,<-HG.out];clear hw1;go_upto_region 2 with (first|(go_at_call 17;refine HR.mono ?_;rintro e w2 ⟨rfl,B2⟩))
  obtain⟨-,h3,B3,-,-,-⟩:=HX.out w2 B2;obtain⟨⟨c0,c1,c2⟩,cf⟩:=cells3g h3;have f0:=cf 0;have f1:=cf 1;have f2:=cf 2;have hs:=set3g (x0:=.int .i64 0) (x1:=.int .i64 0) (x2:=.int .i64 0) h3 B3 (by show w.heap.size<=g+1;have:=HG.out;omega);obtain⟨⟨u0,u1,u2⟩,-⟩:=cells3g hs.1;have HBE:=Lib.hid hs.2;clear hs cf h3 B3 B2 HX HR q0 q1 q2 q3;go_wp2;exact bodyPost_ret (v:=resV ((0,0,0),180,0)) (by simp[results,Tryd.results7,go_sem,u0,u1,u2,resV,limV]) rfl ⟨rfl,HBE.out⟩
 ·rw[hr] at HR;have hn:=rgt_lens hr;have hv:vrfA c=verF c (c.ws.length+1) (newF c.ws.length):=by unfold vrfA;rw[if_pos hr]
  obtain⟨R,hR⟩:∃R,R=vrfA c:=⟨_,rfl⟩
  rw[<-hR] at hv ⊢;have HV:=Lib.hid hv.symm;clear hv hR;go_enter Tryd.func7,Tryd.ntmps7;go_upto_region 1 with fail;rw[<-hw1,<-HG.out];clear hw1;go_upto_region 3 with (first|(go_at_call 17;refine HR.mono ?_;rintro e w2 ⟨rfl,B2⟩;obtain⟨⟨q0,q1,q2,q3⟩,h3,B3,F3,T3,C3⟩:=HX.out w2 B2))
  have HN:=newViewer_c w2 p c hr C3;have hdl:0<w2.heap.size:=T3.2;go_upto_region 4 with (first|(go_at_call 18;refine HN.mono ?_;rintro e w3 ⟨vb,z,pb,o3,rfl,M3,B4,L3,hge⟩))
  obtain⟨n,hn'⟩:∃n,n=c.ws.length:=⟨_,rfl⟩
  have hn1:0<n:=by omega
  have hn2:n<=32768:=by omega
  have HNN:=Lib.hid hn'
  -- what stands as long as only the viewer's own blocks turn
  have HW:Hid (∀ w' o',Step I13 w3 o3 w' o'->Below w1.heap.size w1 w'/\o' 0=0):=fun w' o' S=>by
   have h32:Below w2.heap.size w2 w':=B4.trans ⟨S.os,S.tape,S.output,S.size,fun k hk=>S.block k (Nat.lt_of_lt_of_le hk B4.size) (by rw[L3 k hk];decide)⟩;exact⟨B2.trans (h32.mono B2.size),(S.lab _ (Nat.lt_of_lt_of_le hdl B4.size)).trans (L3 _ hdl)⟩
  obtain⟨x1,x2⟩:=HW.out w3 o3 (Step.refl _ _ _);have hX3:=HX.out w3 x1;have HNX:=next_cG w3 o3 vb z p c (newF n) pb n new_ok new_d hn2 hn1 hX3.2.2.2.2.1 x2 (by rw[hn'];exact M3);have HREL:Hid (∀ (v:Vw) (m:Nat) e w4 w0 o0 pb0,Step I13 w3 o3 w0 o0->und v<m->VwOk n v->VwD v->verF c m v=R->PostNG w0 o0 vb z p c v pb0 e w4 ->
    ∃(k:Nat) (b:Bool),e=.returned (.tuple #[.int .i64 (k:Nat),.bool b])/\∃o' pb',Step I13 w3 o3 w4 o'/\und v<m/\VwOk n v/\VwD v/\verF c m v=R/\((b=false/\nxtF v=none/\VwM w4 o' vb z p c v pb')\/(b=true/\nxtF v=some k/\VwM w4 o' vb z p c (markF k v) pb'))):=fun v m e w4 w0 o0 pb0 S0 hu V D hv ⟨o',S,h⟩=>by
   cases hx:nxtF v with
   | none =>
    rw[hx] at h;exact⟨0,false,h.1,o',pb0,S0.trans S,hu,V,D,hv,.inl ⟨rfl,rfl,h.2⟩⟩
   | some k =>
    rw[hx] at h;exact⟨k,true,h.1,o',pb0,S0.trans S,hu,V,D,hv,.inr ⟨rfl,rfl,h.2⟩⟩
  have H0:Hid (verF c (n+1) (newF n)=R):=by rw[hn'];exact HV.out
  clear hX3 x1 x2 hn' M3 hge;go_wp2_with (first|(go_at_call 19;refine HNX.mono ?_;intro e w4 h;obtain⟨k0,b0G,rfl,hrl⟩:=HREL.out _ (n+1) e w4 w3 o3 pb (Step.refl _ _ _) (by rw[und_new];omega) new_ok new_d H0.out h;have HRL:=Lib.hid hrl;clear h hrl HNX H0));go_loopg [6,7] (n+1) (fun m v6 v7 wr=>∃(k:Nat) (b:Bool),v6=.int .i64 (k:Nat)/\v7=.bool b/\∃v o' pb',Step I13 w3 o3 wr o'/\und v<m/\VwOk n v/\VwD v/\Hid (verF c m v=R)/\((b=false/\nxtF v=none/\VwM wr o' vb z p c v pb')\/(b=true/\nxtF v=some k/\VwM wr o' vb z p c (markF k v) pb')))
  case atStart =>
   obtain⟨o',pb',s1,s2,s3,s4,s5,s6⟩:=HRL.out;exact⟨k0,b0G,rfl,rfl,newF n,o',pb',s1,s2,s3,s4,s5,s6⟩
  case round =>
   obtain⟨k,b,rfl,rfl,v,o',pb',s1,s2,s3,s4,s5,s6⟩:=hrel;obtain⟨BW,hdz⟩:=HW.out wr o' s1;obtain⟨⟨q0,q1,q2,q3⟩,h3,B3,F3,T3,C3⟩:=HX.out wr BW;have hge:w.heap.size<=g+1:=by have:=HG.out;omega
   rcases s6 with ⟨rfl,hx,M⟩|⟨rfl,hx,M⟩
   ·have hfin:R=finF v:=by rw[<-s5.out];exact verF_none hx
    obtain⟨⟨-,-,-,-,-,-,a6,a7,a8⟩,af⟩:=cells9 M.blk.1;obtain⟨⟨c0,c1,c2⟩,cf⟩:=cells3g h3;have f0:=cf 0;have f1:=cf 1;have f2:=cf 2;by_cases ek:v.kd=0
    ·have hfin2:R=((0,0,0),201,0):=by rw[hfin];unfold finF;rw[if_pos ek]
     rw[ek] at a8;have hs:=set3g (x0:=.int .i64 0) (x1:=.int .i64 0) (x2:=.int .i64 0) h3 B3 hge;obtain⟨⟨u0,u1,u2⟩,-⟩:=cells3g hs.1;have HBE:=Lib.hid hs.2;have HF2:=Lib.hid hfin2;clear hs cf h3 B3 BW HX HR hfin hfin2 HW HREL HRL M af F3 T3 C3 q0 q1 q2 q3 s5 hx a6 a7 ek;go_wp2;exact bodyPost_ret (v:=resV ((0,0,0),201,0)) (by simp[results,Tryd.results7,go_sem,u0,u1,u2,resV,limV]) rfl ⟨by rw[HF2.out],HBE.out⟩
    ·have hfin2:R=((v.st,v.rd,v.kd),0,0):=by rw[hfin];unfold finF;rw[if_neg ek]
     have ekI:¬((v.kd:Nat):Int)=0:=by omega
     have hs:=set3g (x0:=.int .i64 (v.st:Nat)) (x1:=.int .i64 (v.rd:Nat)) (x2:=.int .i64 (v.kd:Nat)) h3 B3 hge;obtain⟨⟨u0,u1,u2⟩,-⟩:=cells3g hs.1;have HBE:=Lib.hid hs.2;have HF2:=Lib.hid hfin2;clear hs cf h3 B3 BW HX HR hfin hfin2 HW HREL HRL M af F3 T3 C3 q0 q1 q2 q3 s5 hx;generalize v.st=st at *;generalize v.rd=rd at *;generalize v.kd=kd at *;go_wp2;exact bodyPost_ret (v:=resV ((st,rd,kd),0,0)) (by simp[results,Tryd.results7,go_sem,u0,u1,u2,resV,limV]) rfl ⟨by rw[HF2.out],HBE.out⟩
   ·obtain⟨hkl,hw,-⟩:=nxt_some hx;obtain⟨s,hks,hdn⟩:=waits_some hw;have hnn:=HNN.out;have hkd:k<v.dn.length:=by rw[s3.dl,<-s3.tl];exact hkl
    have hum:=und_mark hkd hdn;have LK:=look_c wr o' vb z p c (markF k v) pb' n k hr (mark_ok s3) (mark_d s4 hw) hnn C3 F3.tab s hks M;have hst:stA (markF k v) k=s:=by
     show (v.tb.getD k none).getD ([],0)=s;rw[List.getD_eq_getElem?_getD,hks];rfl
    have hlf:lookF c k (markF k v)=lookW c (opN c k) (aN c k) (bN c k) k s (markF k v):=by unfold lookF;rw[hst]
    have hkc:k<c.ws.length:=by rw[<-hnn,<-s3.tl];exact hkl
    have WdG:=wdr_of hC.ok hr hkc;have V2:=lookW_ok hr (k:=k) WdG (mark_ok (k:=k) s3) (s3.sts k s hks);have D2:=lookW_d (c:=c) (o:=opN c k) (a:=aN c k) (b:=bN c k) (k:=k) (s:=s) (mark_d s4 hw);rw[<-hlf] at LK V2 D2;obtain⟨m',rfl⟩:∃m',gk=m'+1:=⟨gk-1,by omega⟩
    by_cases er:(lookF c k (markF k v)).1=0
    ·have hvn:verF c m' (lookF c k (markF k v)).2=R:=by rw[<-s5.out];exact(verF_next hx er).symm
     have hun:und (lookF c k (markF k v)).2=und (markF k v):=by unfold und;rw[V2.2]
     have HNXT:Hid (∀ e w5,PostKG wr o' vb z p c (lookF c k (markF k v)) e w5->e=.returned (.int .i64 0)/\Calls Tryd.prog 19 #[.pointer (some ⟨vb,0,none⟩)] w5 fun e w6=>∃(k:Nat) (b:Bool),e=.returned (.tuple #[.int .i64 (k:Nat),.bool b])/\∃v o' pb',Step I13 w3 o3 w6 o'/\und v<m'/\VwOk n v/\VwD v/\Hid (verF c m' v=R)/\((b=false/\nxtF v=none/\VwM w6 o' vb z p c v pb')\/(b=true/\nxtF v=some k/\VwM w6 o' vb z p c (markF k v) pb'))):=fun e w5 ⟨y1,o2,y2,y3⟩=>by
      obtain⟨pb2,M2⟩:=y3 er;have S2:=s1.trans y2;obtain⟨BW2,hd2⟩:=HW.out w5 o2 S2;refine⟨by rw[y1,er];rfl,(next_cG w5 o2 vb z p c _ pb2 n V2.1 D2 hn2 hn1 (HX.out w5 BW2).2.2.2.2.1 hd2 M2).mono fun e w6 h=>?_⟩;obtain⟨k',b',h1,o6,pb6,h2⟩:=HREL.out _ m' e w6 w5 o2 pb2 S2 (by omega) V2.1 D2 hvn h;exact⟨k',b',h1,_,o6,pb6,h2⟩
     clear HX HR HW HREL HRL M F3 T3 C3 q0 q1 q2 q3 s5 hx V2 D2 hvn hun hlf hst h3 B3 BW WdG hks hw hum hkd hdn hnn s1 s2 s3 s4 hkl hC;generalize lookF c k (markF k v)=r at *;go_wp2_with (first|(go_at_call 20;refine LK.mono ?_;intro e w5 h;obtain⟨rfl,HN5⟩:=HNXT.out e w5 h;clear LK HNXT h)|(go_at_call 19;refine HN5.mono ?_;rintro e w6 ⟨k6,b6,rfl,hrl⟩;have HRL:=Lib.hid hrl;clear HN5 hrl))
     go_roundg m'
     case rel=>exact⟨k6,b6,rfl,rfl,HRL.out⟩
     case measure=>omega
    ·have hbad:R=((0,0,0),(lookF c k (markF k v)).1,k):=by rw[<-s5.out];exact verF_bad hx er
     have erI:((((lookF c k (markF k v)).1:Nat):Int) != 0)=true:=by simpa using er
     have HBAD:Hid (∀ e w5,PostKG wr o' vb z p c (lookF c k (markF k v)) e w5->∃x:Nat,e=.returned (.int .i64 (x:Nat))/\(((x:Nat):Int) != 0)=true/\R=((0,0,0),x,k)/\(w5.cell? ⟨g+1,0,none⟩=some (.int .i64 0)/\w5.cell? ⟨g+1,1,none⟩=some (.int .i64 0)/\w5.cell? ⟨g+1,2,none⟩=some (.int .i64 0))/\(∀ j,w5.frozen? ⟨g+1,j,none⟩=false) /\
       ((((w5.setCell ⟨g+1,0,none⟩ (.int .i64 0)).setCell ⟨g+1,1,none⟩ (.int .i64 0)).setCell ⟨g+1,2,none⟩ (.int .i64 0)).cell? ⟨g+1,0,none⟩=some (.int .i64 0)/\(((w5.setCell ⟨g+1,0,none⟩ (.int .i64 0)).setCell ⟨g+1,1,none⟩ (.int .i64 0)).setCell ⟨g+1,2,none⟩ (.int .i64 0)).cell? ⟨g+1,1,none⟩=some (.int .i64 0)/\(((w5.setCell ⟨g+1,0,none⟩ (.int .i64 0)).setCell ⟨g+1,1,none⟩ (.int .i64 0)).setCell ⟨g+1,2,none⟩ (.int .i64 0)).cell? ⟨g+1,2,none⟩=some (.int .i64 0)) /\
       Below w.heap.size w (((w5.setCell ⟨g+1,0,none⟩ (.int .i64 0)).setCell ⟨g+1,1,none⟩ (.int .i64 0)).setCell ⟨g+1,2,none⟩ (.int .i64 0))):=fun e w5 ⟨y1,o2,y2,y3⟩=>by
      obtain⟨BW2,-⟩:=HW.out w5 o2 (s1.trans y2);obtain⟨-,h3',B3',-,-,-⟩:=HX.out w5 BW2;obtain⟨cc,cf⟩:=cells3g h3';have hs:=set3g (x0:=.int .i64 0) (x1:=.int .i64 0) (x2:=.int .i64 0) h3' B3' hge;exact⟨_,y1,erI,hbad,cc,cf,(cells3g hs.1).1,hs.2⟩
     clear HX HR HW HREL HRL M F3 T3 C3 q0 q1 q2 q3 s5 hx V2 D2 hlf hst h3 B3 BW WdG hks hw hum hkd hdn hnn s1 s2 s3 s4 hC hbad er erI;generalize lookF c k (markF k v)=r at *;have hkI:(k:Int)<=32768:=by omega
     go_wp2_with (first|(go_at_call 20;refine LK.mono ?_;intro e w5 h;obtain⟨x,rfl,hx0,hRR,⟨c0,c1,c2⟩,cf,⟨u0,u1,u2⟩,BE⟩:=HBAD.out e w5 h;have f0:=cf 0;have f1:=cf 1;have f2:=cf 2;have HRR:=Lib.hid hRR;have HBE:=Lib.hid BE;clear LK HBAD h cf hRR BE));exact bodyPost_ret (v:=resV ((0,0,0),x,k)) (by simp[results,Tryd.results7,go_sem,u0,u1,u2,resV,limV]) rfl ⟨by rw[HRR.out],HBE.out⟩
theorem Row.lenP {w:World}{o:Nat->Nat}{i:Nat}{e:TypeId}{size:Nat}{v:Value}{n:Nat}{xs:List Value}(h:Row w o i e size v n xs):n<=9223372036854775807:=by
 by_cases hn:0<n
 ·obtain⟨g,cap,-,-,h1,h2,-⟩:=h.pos hn;unfold maxLen at h2;omega
 ·omega
theorem EmD.outG {w:World}{o:Nat->Nat}{s:Em}{vw vc vn vk:Value}(h:EmD w o s vw vc vn vk)(hok:∀ x ∈ s.ws,x.ok)(hc:(cdM s).Ok):∃p,(#[vw,vc,vn,vk]:Array Value)=cdA p (cdM s)/\CdW w p (cdM s):=by
 obtain⟨h1,h2,h3,h4⟩:=h;obtain⟨aw,cw,rfl⟩:=h1.form;obtain⟨ac,cc,rfl⟩:=h2.form;obtain⟨an,cn,rfl⟩:=h3.form;obtain⟨ak,ck,rfl⟩:=h4.form;have e1:wsV (s.ws.map encW)=wdW s.ws:=by rw[wdW_ok hok];simp[wsV,woV]
 have e3:nsV (s.ns.map (fun l=>(⟨l.toArray⟩:ByteArray)))=esV s.ns:=by simp[nsV,esV]
 refine⟨⟨aw,cw,ac,cc,an,cn,ak,ck⟩,by simp[cdA,cdM],⟨hc,?_,h2.lsv,?_,h4.lsv,?_,h2.lenP,?_,h4.lenP⟩⟩
 ·show Lsv w aw (wsV (s.ws.map encW));rw[e1];exact h1.lsv
 ·show Lsv w an (nsV (s.ns.map _));rw[e3];exact h3.lsv
 ·show (s.ws.map encW).length<=_;simp;exact h1.lenP
 ·show (s.ns.map _).length<=_;simp;exact h3.lenP
theorem kindP_pos {cells:List Int}{e:Ex}(h:kindP cells e≠0)(ho:okE cells.length e):1<=kindP cells e:=by
 have:=(kdE_bd ho).1
 rwa [(tk_E h ho (Nat.le_refl _) (scV_q (cdM (emA cells e)) (nesF (one e)) (nam_A h ho).1)).2] at this
theorem EmOd.g {w w':World}{e:Ex}{cells:List Int}{z:Ending}(ho:kindP cells e≠0->okE cells.length e)(h:EmOd w e cells z w') :
  Below w.heap.size w w'/\((∃er,er≠0/\z=.returned (.tuple #[.agg nil4e,.int .i64 er])) \/
   (kindP cells e≠0/\∃p,z=.returned (.tuple #[cdV p (cdM (emA cells e)),.int .i64 0])/\CdW w' p (cdM (emA cells e)) /\
    ∃st rd,vrfA (cdM (emA cells e))=((st,rd,(kindP cells e).toNat),0,0)/\1<=st/\st<=1024/\rd<=nesF (one e))):=by
 obtain⟨B,h⟩:=h;refine⟨B,?_⟩;rcases h with ⟨hk,rfl⟩|⟨hk,hv,rfl⟩|⟨hk,h1,h2,vw,vc,vn,vk,o',rfl,-,C⟩
 ·exact .inl ⟨140,by decide,rfl⟩
 ·exact .inl ⟨190,by decide,rfl⟩
 ·obtain⟨p,e1,hp⟩:=C.outG (ok_A hk (ho hk) h1 h2) (cdM_ok hk (ho hk) h1 h2);exact .inr ⟨hk,p,by rw[e1],hp,tk_taken hk (ho hk) h1 h2⟩
def cntI (n:Int):Int:=if n<0 then 0 else if 2147483648<n then 2147483648 else n
theorem cntI_bd (n:Int):0<=cntI n/\cntI n<=2147483648:=by
 unfold cntI;by_cases h:n<0
 ·rw[if_pos h];omega
 ·rw[if_neg h];by_cases h2:2147483648<n
  ·rw[if_pos h2];omega
  ·rw[if_neg h2];omega
def bdL (f:Int):Nat->Int->Int
 | 0,b=>b
 | k+1,b=>if 4611686018427387904<b*f then 4611686018427387904 else bdL f k (b*f)
def rnI (rounds:Int):Nat:=if 4<cntI rounds then 4 else (cntI rounds).toNat
def bdA (words rounds vertices:Int):Int:=bdL (1+cntI vertices) (rnI rounds) (cntI words)
theorem rnI_bd (r:Int):rnI r<=4:=by
 have:=cntI_bd r
 unfold rnI;by_cases h:4<cntI r
 ·rw[if_pos h];omega
 ·rw[if_neg h];omega
theorem bd_test {b f:Int}(hf:1<=f):(4611686018427387904:Int) / f<b ↔ 4611686018427387904<b*f:=Int.ediv_lt_iff_lt_mul (by omega)
theorem counted_c (n:Int)(w:World):Calls Tryd.prog 23 #[.int .i64 n] w fun e w'=>e=.returned (.int .i64 (cntI n))/\w'=w:=by
 have HE:∀ x:Int,x=cntI n->Ending.returned (.int .i64 x)=.returned (.int .i64 (cntI n)):=fun x h=>by rw[h]
 have HB:Hid (cntI n=if n<0 then 0 else if 2147483648<n then 2147483648 else n):=rfl;by_cases h:n<0
 ·rw[if_pos h] at HB;go_enter Tryd.func23,Tryd.ntmps23;go_wp2;go_ret;exact⟨HE _ (by first|(rw[HB.out];done)|(rw[HB.out];omega)),rfl⟩
 ·rw[if_neg h] at HB;by_cases h2:2147483648<n
  ·rw[if_pos h2] at HB;go_enter Tryd.func23,Tryd.ntmps23;go_wp2;go_ret;exact⟨HE _ (by first|(rw[HB.out];done)|(rw[HB.out];omega)),rfl⟩
  ·rw[if_neg h2] at HB;go_enter Tryd.func23,Tryd.ntmps23;go_wp2;go_ret;exact⟨HE _ (by first|(rw[HB.out];done)|(rw[HB.out];omega)),rfl⟩
theorem bound_c (x r v:Int)(w:World):Calls Tryd.prog 12 #[.int .i64 x,.int .i64 r,.int .i64 v] w fun e w'=>e=.returned (.int .i64 (bdA x r v))/\w'=w:=by
 have C1:=fun wx=>counted_c x wx;have C2:=fun wx=>counted_c r wx;have C3:=fun wx=>counted_c v wx;have b1G:=cntI_bd x;have b2:=cntI_bd r;have b3:=cntI_bd v;obtain⟨R,hR⟩:∃R,R=bdA x r v:=⟨_,rfl⟩
 rw[<-hR];unfold bdA at hR;have HN:Hid ((rnI r:Int)=if 4<cntI r then 4 else cntI r):=by
  show _=_;unfold rnI;by_cases h:4<cntI r
  ·rw[if_pos h,if_pos h];rfl
  ·rw[if_neg h,if_neg h];omega
 have hn4:=rnI_bd r;have HR:=Lib.hid hR;clear hR;generalize rnI r=n at *;generalize cntI x=b0G at *;generalize cntI r=cr at *;generalize hcv:cntI v=cv at *;clear hcv;have hn:∃n':Nat,n'=n:=⟨_,rfl⟩
 have HNN:Hid ((4<cr->(n:Int)=4)/\(¬4<cr->(n:Int)=cr)):=⟨fun h=>by rw[HN.out,if_pos h],fun h=>by rw[HN.out,if_neg h]⟩
 clear hn HN;have hff:(1:Int)<=1+cv:=by omega
 obtain⟨F,hF⟩:∃F:Int,F=1+cv:=⟨_,rfl⟩
 rw[<-hF] at HR hff;have hF2:F<=2147483649:=by omega
 have HF:=Lib.hid hF;clear hF;have key:∀ (wr:World),True:=fun _=>trivial;by_cases h4:4<cr
 ·have hnI:=HNN.out.1 h4;obtain rfl:n=4:=by omega
  clear hnI HNN hn4;go_enter Tryd.func12,Tryd.ntmps12;go_wp2_with (first|(go_at_call 23;refine(C1 _).mono ?_;rintro e wz ⟨rfl,hz⟩;subst hz;clear C1)|(go_at_call 23;refine(C3 _).mono ?_;rintro e wz ⟨rfl,hz⟩;subst hz;clear C3)|(go_at_call 23;refine(C2 _).mono ?_;rintro e wz ⟨rfl,hz⟩;subst hz;clear C2));try rw[<-HF.out]
  go_loopw [7,17] (fun v7 v17 wr=>∃(k:Nat) (b:Int),v17=.int .i64 (k:Nat)/\k<=4/\v7=.int .i64 b/\0<=b/\b<=4611686018427387904/\Hid (bdL F (4-k) b=R)/\wr=wz) (fun _ v _=>4-(intOf v).toNat)
  case atStart=>exact⟨0,b0G,by go_num,by omega,rfl,by omega,by omega,HR.out.symm,rfl⟩
  case round =>
   obtain⟨k,b,rfl,hk,rfl,hb0,hb1,HB,rfl⟩:=hrel;clear b1G b2 b3;by_cases hlt:k<4
   ·have hkI:(k:Int)<4:=by omega
    obtain⟨j,hj⟩:∃j,4-k=j+1:=⟨4-k-1,by omega⟩
    have HB2:=HB.out;rw[hj,bdL] at HB2;obtain⟨Q,hQ⟩:∃Q,(4611686018427387904:Int) / F=Q:=⟨_,rfl⟩
    have hQ2:(4611686018427387904:Int).tdiv F=Q:=by rw[Int.tdiv_eq_ediv_of_nonneg (by omega)];exact hQ
    have htest:=bd_test (b:=b) hff;rw[hQ] at htest;have hQ0:0<=Q/\Q<=4611686018427387904:=by
     rw[<-hQ];exact⟨Int.ediv_nonneg (by omega) (by omega),Int.ediv_le_self _ (by omega)⟩
    have hP0:0<=b*F:=Int.mul_nonneg hb0 (by omega);obtain⟨P,hP⟩:∃P,b*F=P:=⟨_,rfl⟩
    rw[hP] at HB2 htest hP0;have hF0:¬F=0:=by omega
    by_cases ht:4611686018427387904<P
    ·rw[if_pos ht] at HB2;have htI:Q<b:=htest.2 ht;have HY:=Lib.hid HB2;clear htest HB HB2 hj ht hP;go_wp2;go_ret;exact⟨by rw[<-HY.out];rfl,rfl⟩
    ·rw[if_neg ht] at HB2;have htI:¬Q<b:=fun h=>ht (htest.1 h);have HY:Hid (bdL F (4-(k+1)) P=R):=by
      show _=_;rw[show 4-(k+1)=j by omega];exact HB2
     have hP1:P<=4611686018427387904:=by omega
     clear htest HB HB2 hj ht;go_wp2;go_roundw
     case rel=>(try ((repeat apply Exists.intro);refine⟨?_,rfl⟩));exact⟨k+1,P,by go_num,by omega,rfl,hP0,hP1,HY,by trivial⟩
     case measure=>simp[intOf];omega
   ·have hkI:¬(k:Int)<4:=by omega
    have hz:4-k=0:=by omega
    have HB2:=HB.out;rw[hz,bdL] at HB2;have HY:=Lib.hid HB2;clear HB HB2 hz;go_wp2;go_ret;exact⟨by rw[<-HY.out];rfl,rfl⟩
 ·have hnI:=HNN.out.2 h4;subst hnI;clear HNN;go_enter Tryd.func12,Tryd.ntmps12;go_wp2_with (first|(go_at_call 23;refine(C1 _).mono ?_;rintro e wz ⟨rfl,hz⟩;subst hz;clear C1)|(go_at_call 23;refine(C3 _).mono ?_;rintro e wz ⟨rfl,hz⟩;subst hz;clear C3)|(go_at_call 23;refine(C2 _).mono ?_;rintro e wz ⟨rfl,hz⟩;subst hz;clear C2));try rw[<-HF.out]
  go_loopw [7,17] (fun v7 v17 wr=>∃(k:Nat) (b:Int),v17=.int .i64 (k:Nat)/\k<=n/\v7=.int .i64 b/\0<=b/\b<=4611686018427387904/\Hid (bdL F (n-k) b=R)/\wr=wz) (fun _ v _=>n-(intOf v).toNat)
  case atStart=>exact⟨0,b0G,by go_num,by omega,rfl,by omega,by omega,HR.out.symm,rfl⟩
  case round =>
   obtain⟨k,b,rfl,hk,rfl,hb0,hb1,HB,rfl⟩:=hrel;clear b1G b2 b3;by_cases hlt:k<n
   ·have hkI:(k:Int)<(n:Int):=by omega
    obtain⟨j,hj⟩:∃j,n-k=j+1:=⟨n-k-1,by omega⟩
    have HB2:=HB.out;rw[hj,bdL] at HB2;obtain⟨Q,hQ⟩:∃Q,(4611686018427387904:Int) / F=Q:=⟨_,rfl⟩
    have hQ2:(4611686018427387904:Int).tdiv F=Q:=by rw[Int.tdiv_eq_ediv_of_nonneg (by omega)];exact hQ
    have htest:=bd_test (b:=b) hff;rw[hQ] at htest;have hQ0:0<=Q/\Q<=4611686018427387904:=by
     rw[<-hQ];exact⟨Int.ediv_nonneg (by omega) (by omega),Int.ediv_le_self _ (by omega)⟩
    have hP0:0<=b*F:=Int.mul_nonneg hb0 (by omega);obtain⟨P,hP⟩:∃P,b*F=P:=⟨_,rfl⟩
    rw[hP] at HB2 htest hP0;have hF0:¬F=0:=by omega
    by_cases ht:4611686018427387904<P
    ·rw[if_pos ht] at HB2;have htI:Q<b:=htest.2 ht;have HY:=Lib.hid HB2;clear htest HB HB2 hj ht hP;go_wp2;go_ret;exact⟨by rw[<-HY.out];rfl,rfl⟩
    ·rw[if_neg ht] at HB2;have htI:¬Q<b:=fun h=>ht (htest.1 h);have HY:Hid (bdL F (n-(k+1)) P=R):=by
      show _=_;rw[show n-(k+1)=j by omega];exact HB2
     have hP1:P<=4611686018427387904:=by omega
     clear htest HB HB2 hj ht;go_wp2;go_roundw
     case rel=>(try ((repeat apply Exists.intro);refine⟨?_,rfl⟩));exact⟨k+1,P,by go_num,by omega,rfl,hP0,hP1,HY,by trivial⟩
     case measure=>simp[intOf];omega
   ·have hkI:¬(k:Int)<(n:Int):=by omega
    have hz:n-k=0:=by omega
    have HB2:=HB.out;rw[hz,bdL] at HB2;have HY:=Lib.hid HB2;clear HB HB2 hz;go_wp2;go_ret;exact⟨by rw[<-HY.out];rfl,rfl⟩
theorem rword_yes (o a b:Int)(w:World)(h1:0<=o)(h2:o<=255)(h3:0<=a)(h4:a<=268435455)(h5:0<=b)(h6:b<=268435455) :
  Calls Tryd.prog 16 #[.int .i64 o,.int .i64 a,.int .i64 b] w fun e w' =>
   e=.returned (.tuple #[.int .u64 ((o*268435456+a)*268435456+b),.int .i64 0])/\w'=w:=by
 go_enter Tryd.func16,Tryd.ntmps16;go_wp2;go_ret2;exact⟨rfl,rfl⟩
def pk (c n:Int):Int:=(if c<0 then -(c+1) else c) % n
theorem pk_bd (c n:Int)(h:0<n):0<=pk c n/\pk c n<n:=⟨Int.emod_nonneg _ (by omega),Int.emod_lt_of_pos _ h⟩
theorem pick_c (c n:Int)(w:World)(h1:-9223372036854775808<=c)(h2:c<=9223372036854775807)(h3:0<n)(h4:n<=9223372036854775807) :
  Calls Tryd.prog 22 #[.int .i64 c,.int .i64 n] w fun e w'=>e=.returned (.int .i64 (pk c n))/\w'=w:=by
 by_cases h0:c<0
 ·have e:pk c n=(-(c+1)) % n:=by simp[pk,h0]
  have E:Hid ((-(c+1)).tmod n=pk c n):=by
   show _=_;rw[e,Int.tmod_eq_emod_of_nonneg (by omega)]
  have E2:Hid (-((c+1).tmod n)=pk c n):=by
   show _=_;rw[<-Int.neg_tmod];exact E.out
  have bd:=pk_bd c n h3;clear e;have hn0:¬n=0:=by omega
  go_enter Tryd.func22,Tryd.ntmps22;go_wp2;go_ret;exact⟨by first|exact ret_int E2.out|exact ret_int E.out,rfl⟩
 ·have e:pk c n=c % n:=by simp[pk,h0]
  have E:Hid (c.tmod n=pk c n):=by
   show _=_;rw[e,Int.tmod_eq_emod_of_nonneg (by omega)]
  have E2:Hid (c % n=pk c n):=e.symm;have bd:=pk_bd c n h3;clear e;have hn0:¬n=0:=by omega
  go_enter Tryd.func22,Tryd.ntmps22;go_wp2;go_ret;exact⟨by first|exact ret_int E2.out|exact ret_int E.out,rfl⟩
structure Rw where
 o:Int
 a:Int
 b:Int
structure Rw.Ok (r:Rw):Prop where
 o1:-9223372036854775808<=r.o
 o2:r.o<=9223372036854775807
 a1:-9223372036854775808<=r.a
 a2:r.a<=9223372036854775807
 b1:-9223372036854775808<=r.b
 b2:r.b<=9223372036854775807
def wdN (r:Rw):Int:=(pk r.o 28*268435456+pk r.a 12)*268435456+pk r.b 12
theorem wdN_bd (r:Rw):0<=wdN r/\wdN r<18446744073709551616:=by
 have h1:=pk_bd r.o 28 (by omega);have h2:=pk_bd r.a 12 (by omega);have h3:=pk_bd r.b 12 (by omega);unfold wdN;omega
def RawW (w:World)(ao:Option Addr)(l:List Rw):Prop :=
 l=[]\/∃b off,ao=some ⟨b,off,none⟩/\b<w.heap.size/\∀ k (h:k<l.length),w.cell? ⟨b,off+k*3,none⟩=some (.int .i64 (l[k]).o)/\w.cell? ⟨b,off+k*3+1,none⟩=some (.int .i64 (l[k]).a)/\w.cell? ⟨b,off+k*3+2,none⟩=some (.int .i64 (l[k]).b)
theorem RawW.below {w w':World}{ao:Option Addr}{l:List Rw}(h:RawW w ao l)(B:Below w.heap.size w w'):RawW w' ao l:=by
 rcases h with h|⟨b,off,rfl,hlt,hc⟩
 ·exact .inl h
 ·exact .inr ⟨b,off,rfl,Nat.lt_of_lt_of_le hlt B.size,fun k hk=>⟨(B.cell (p:=⟨b,off+k*3,none⟩) hlt).trans (hc k hk).1,(B.cell (p:=⟨b,off+k*3+1,none⟩) hlt).trans (hc k hk).2.1,(B.cell (p:=⟨b,off+k*3+2,none⟩) hlt).trans (hc k hk).2.2⟩⟩
def MkOut (w:World)(l:List Rw)(vc vn vk:Value)(z:Ending)(w':World):Prop :=
 ∃aw cw,z=.returned (.agg #[.slice aw l.length cw,vc,vn,vk])/\Lsv w' aw (wsV (l.map wdN))/\Below w.heap.size w w'
theorem taken_snoc (l:List Rw)(k:Nat)(h:k<l.length):wsV ((l.take (k+1)).map wdN)=wsV ((l.take k).map wdN)++[.int .u64 (wdN l[k])]:=by
 rw[List.take_succ_eq_append_getElem h];simp only[wsV,List.map_append,List.map_cons,List.map_nil]
theorem mk_c (w:World)(ao:Option Addr)(cap:Nat)(l:List Rw)(vc vn vk:Value)(hR:RawW w ao l)(hok:∀ r ∈ l,r.Ok)(hl:l.length<=17592186044416)
  (o1c:∃a n c,vc=.slice a n c) (o2c:∃a n c,vn=.slice a n c) (o3c:∃a n c,vk=.slice a n c) :
  Calls Tryd.prog 11 #[.slice ao l.length cap,vc,vn,vk,.bool true] w (MkOut w l vc vn vk):=by
 obtain⟨x1,y1,z1,rfl⟩:=o1c;obtain⟨x2,y2,z2,rfl⟩:=o2c;obtain⟨x3,y3,z3,rfl⟩:=o3c;obtain⟨ii,hii,hz0,hz1,hz2⟩:=info_parts infoW;obtain⟨g,hg⟩:∃g,g=w.heap.size:=⟨_,rfl⟩
 obtain⟨w2,hw2⟩:∃w2,w2=(w.alloc (.cells nil4 33)).alloc (.cells #[.slice none 0 0,.slice x1 y1 z1,.slice x2 y2 z2,.slice x3 y3 z3] 33):=⟨_,rfl⟩
 have B1:Below g w w2:=by rw[hw2,hg];exact((Below.refl _ w).alloc (Nat.le_refl _) _).alloc (by simp) _
 have sz2:w2.heap.size=g+2:=by rw[hw2,hg];simp
 obtain⟨o,ho⟩:∃o:Nat->Nat,o=fun k=>if k<g then 0 else 9:=⟨_,rfl⟩
 have hol:∀ k,k<g->o k=0:=fun k hk=>by rw[ho];simp[hk]
 have G0:Blk w2 o 9 g (.cells nil4 33):=by
  refine⟨?_,by rw[ho];simp⟩;rw[hw2,hg];exact(Below.heap_alloc _ _ _ (by simp)).trans (heap_alloc_new _ _)
 have G1:Blk w2 o 9 (g+1) (.cells #[.slice none 0 0,.slice x1 y1 z1,.slice x2 y2 z2,.slice x3 y3 z3] 33):=by
  refine⟨?_,by rw[ho];simp⟩
  have:=heap_alloc_new (w.alloc (.cells nil4 33)) (.cells #[.slice none 0 0,.slice x1 y1 z1,.slice x2 y2 z2,.slice x3 y3 z3] 33)
  rw[hw2,hg];simpa using this
 have HG:=Lib.hid hg;have R2:RawW w2 ao l:=hR.below (by rw[<-hg];exact B1);have hlo:∀ b off,l≠[]->ao=some ⟨b,off,none⟩->o b=0:=fun b off hx e=>by
  rcases hR with h|⟨b',off',e',hlt,_⟩
  ·exact absurd h hx
  ·rw[e'] at e;cases e;exact hol _ (by rw[hg];exact hlt)
 clear hg ho hR;go_enter Tryd.func11,Tryd.ntmps11;go_wp2_with fail;rw[<-hw2,<-HG.out];clear hw2;go_loopw [12] (fun v wr=>∃(k:Nat) (o3:Nat->Nat) (av:Option Addr) (cv:Nat),v=.int .i64 (k:Nat)/\k<=l.length/\Blk wr o3 9 (g+1) (.cells #[.slice av k cv,.slice x1 y1 z1,.slice x2 y2 z2,.slice x3 y3 z3] 33)/\Row wr o3 3 54 1 (.slice av k cv) k (wsV ((l.take k).map wdN))/\Blk wr o3 9 g (.cells nil4 33)/\Step (fun k=>k=3\/k=9) w2 o wr o3) (fun v _=>l.length-(intOf v).toNat)
 case atStart=>exact⟨0,o,none,0,by go_num,by omega,G1,Row.nil _ _ _ _ _,G0,Step.refl _ _ _⟩
 case round =>
  obtain⟨k,o3,av,cv,rfl,hk,K3,R3,Z3,S3⟩:=hrel;clear G0 G1;by_cases hlt:k<l.length
  ·have hkI:(k:Int)<(l.length:Int):=by omega
   have hok1:=hok _ (List.getElem_mem hlt);have hne:l≠[]:=fun h=>by subst h;simp at hlt
   have hRr:∃b off,ao=some ⟨b,off,none⟩/\wr.cell? ⟨b,off+k*3,none⟩=some (.int .i64 (l[k]).o)/\wr.cell? ⟨b,off+k*3+1,none⟩=some (.int .i64 (l[k]).a)/\wr.cell? ⟨b,off+k*3+2,none⟩=some (.int .i64 (l[k]).b):=by
    rcases R2 with h|⟨b,off,e,hb,hc⟩
    ·exact absurd h hne
    ·have hl0:=hlo b off hne e;have hbk:∀ q,wr.cell? ⟨b,q,none⟩=w2.cell? ⟨b,q,none⟩:=fun q=>World.cell?_of_block (a:=⟨b,q,none⟩) (S3.block b hb (by rw[hl0];decide));exact⟨b,off,e,(hbk _).trans (hc k hlt).1,(hbk _).trans (hc k hlt).2.1,(hbk _).trans (hc k hlt).2.2⟩
   obtain⟨b,off,hao,q0,q1,q2⟩:=hRr;have HT:=Lib.hid (taken_snoc l k hlt);have hwd:wdN l[k]=(pk (l[k]).o 28*268435456+pk (l[k]).a 12)*268435456+pk (l[k]).b 12:=rfl;generalize l[k]=r at *;obtain⟨ro,ra,rb⟩:=r;simp only at hwd q0 q1 q2;have e1:=hok1.o1;have e2:=hok1.o2;have e3:=hok1.a1;have e4:=hok1.a2;have e5:=hok1.b1;have e6:=hok1.b2;simp only at e1 e2 e3 e4 e5 e6;obtain⟨⟨c0,c1,c2,c3⟩,cf⟩:=cells4 K3.1;have p1:=pk_bd ro 28 (by omega);have p2:=pk_bd ra 12 (by omega);have p3:=pk_bd rb 12 (by omega);have WW:=fun w=>rword_yes (pk ro 28) (pk ra 12) (pk rb 12) w p1.1 (by omega) p2.1 (by omega) p3.1 (by omega);rw[<-hwd] at WW;have PA:=fun w=>pick_c ro 256 w e1 e2 (by omega) (by omega);have PB:=fun w=>pick_c ra 268435456 w e3 e4 (by omega) (by omega);have PC:=fun w=>pick_c rb 268435456 w e5 e6 (by omega) (by omega);have PD:=fun w=>pick_c ro 28 w e1 e2 (by omega) (by omega);have PE:=fun w=>pick_c ra 12 w e3 e4 (by omega) (by omega);have PF:=fun w=>pick_c rb 12 w e5 e6 (by omega) (by omega);clear hwd hok1;generalize wdN ⟨ro,ra,rb⟩=wdG at *;generalize pk ro 28=d1 at *;generalize pk ra 12=d2 at *;generalize pk rb 12=d3 at *;generalize pk ro 256=d4 at *;generalize pk ra 268435456=d5 at *;generalize pk rb 268435456=d6 at *;rw[hao];go_wp2_with fail;refine(PA _).mono ?_;rintro e wz ⟨rfl,hz⟩;subst hz;clear PA;go_wp2_with fail;refine(PB _).mono ?_;rintro e wz ⟨rfl,hz⟩;subst hz;clear PB;go_wp2_with fail;refine(PC _).mono ?_;rintro e wz ⟨rfl,hz⟩;subst hz;clear PC;go_wp2_with fail;refine(PD _).mono ?_;rintro e wz ⟨rfl,hz⟩;subst hz;clear PD;go_wp2_with fail;refine(PE _).mono ?_;rintro e wz ⟨rfl,hz⟩;subst hz;clear PE;go_wp2_with fail;refine(PF _).mono ?_;rintro e wz ⟨rfl,hz⟩;subst hz;clear PF;go_wp2_with fail;refine(WW _).mono ?_;rintro e wz ⟨rfl,hz⟩;subst hz;clear WW;go_wp2_with (first|(at_builtin;refine wpList_append_lab rfl _ _ 30 rfl 54 ii (.int .u64 0) 1 8 Tryd.underlying30 hii hz0 hz1 hz2 rfl (by decide) o3 3 _ k (wsV ((l.take k).map wdN)) rfl (R3.step (Step.ofBelowG (I:=fun _=>False) o3 (b1G _ _)) (fun h=>h)) ⟨wz.heap.size,0,none⟩ 1 1 [.int .u64 wdG] rfl rfl ?c1 ?c2 (by decide) ?c4 ?c5 ?_)|go_in)
   case c1=>exact new_one _ _ _
   case c2=>exact one_one _ rfl
   case c4=>unfold maxLen;omega
   case c5=>omega
   intro g5 cap5 w5 o5 R5 S5;have SA:∀ {I:Nat->Prop},Step I wz o3 (wz.alloc (.cells #[.int .u64 wdG] 54)) o3:=fun {I}=>Step.ofBelowG o3 (b1G _ _);have KA:=(K3.step (SA (I:=fun _=>False)) (fun h=>h)).step S5 (by decide);have ZA:=(Z3.step (SA (I:=fun _=>False)) (fun h=>h)).step S5 (by decide);obtain⟨⟨f0,f1,f2,f3⟩,ff⟩:=cells4 KA.1;have ff0:=ff 0;have SC:∀ {I:Nat->Prop},I 9->Step I w5 o5 (w5.setCell ⟨g+1,0,none⟩ (.slice (some ⟨g5,0,none⟩) (k+1) cap5)) o5:=fun {I} h9=>(Step.refl I w5 o5).setCell ⟨g+1,0,none⟩ _ (by rw[KA.2];exact h9);have KN:Blk (w5.setCell ⟨g+1,0,none⟩ (.slice (some ⟨g5,0,none⟩) (k+1) cap5)) o5 9 (g+1) (.cells #[.slice (some ⟨g5,0,none⟩) (k+1) cap5,.slice x1 y1 z1,.slice x2 y2 z2,.slice x3 y3 z3] 33):=⟨heap_setCell_same _ _ 0 _ _ _ KA.1,KA.2⟩
   have ZN:Blk (w5.setCell ⟨g+1,0,none⟩ (.slice (some ⟨g5,0,none⟩) (k+1) cap5)) o5 9 g (.cells nil4 33):=⟨(heap_setCell_other _ _ _ _ (by show g≠g+1;omega)).trans ZA.1,ZA.2⟩
   have RN:Row (w5.setCell ⟨g+1,0,none⟩ (.slice (some ⟨g5,0,none⟩) (k+1) cap5)) o5 3 54 1 (.slice (some ⟨g5,0,none⟩) (k+1) cap5) (k+1) (wsV ((l.take (k+1)).map wdN)):=by
    rw[HT.out]
    first|exact R5.step (SC (I:=fun k=>k=9) rfl) (by decide)|(rw[List.map_take];exact R5.step (SC (I:=fun k=>k=9) rfl) (by decide))
   have SN:Step (fun k=>k=3\/k=9) w2 o (w5.setCell ⟨g+1,0,none⟩ (.slice (some ⟨g5,0,none⟩) (k+1) cap5)) o5:=((S3.trans SA).trans (S5.mono (fun k hk=>Or.inl hk))).trans (SC (Or.inr rfl));have HH:Hid (Blk (w5.setCell ⟨g+1,0,none⟩ (.slice (some ⟨g5,0,none⟩) (k+1) cap5)) o5 9 (g+1) (.cells #[.slice (some ⟨g5,0,none⟩) (k+1) cap5,.slice x1 y1 z1,.slice x2 y2 z2,.slice x3 y3 z3] 33)/\Row (w5.setCell ⟨g+1,0,none⟩ (.slice (some ⟨g5,0,none⟩) (k+1) cap5)) o5 3 54 1 (.slice (some ⟨g5,0,none⟩) (k+1) cap5) (k+1) (wsV ((l.take (k+1)).map wdN))/\Blk (w5.setCell ⟨g+1,0,none⟩ (.slice (some ⟨g5,0,none⟩) (k+1) cap5)) o5 9 g (.cells nil4 33)/\Step (fun k=>k=3\/k=9) w2 o (w5.setCell ⟨g+1,0,none⟩ (.slice (some ⟨g5,0,none⟩) (k+1) cap5)) o5):=⟨KN,RN,ZN,SN⟩
   clear KN RN ZN SN SC KA ZA SA R5 S5 K3 R3 Z3 S3 HT ff;go_wp2;go_roundw
   case rel=>(try ((repeat apply Exists.intro);refine⟨?_,rfl⟩));exact⟨k+1,o5,_,_,by go_num,by omega,HH.out.1,HH.out.2.1,HH.out.2.2.1,HH.out.2.2.2⟩
   case measure=>simp[intOf];omega
  ·have hkI:¬(k:Int)<(l.length:Int):=by omega
   obtain rfl:k=l.length:=by omega
   rw[List.take_length] at R3;obtain⟨⟨c0,c1,c2,c3⟩,-⟩:=cells4 K3.1;obtain⟨⟨f0,f1,f2,f3⟩,ff⟩:=cells4 Z3.1;have ff0:=ff 0;have ff1:=ff 1;have ff2:=ff 2;have ff3:=ff 3;have ZE:=set4c (.slice av l.length cv) (.slice x1 y1 z1) (.slice x2 y2 z2) (.slice x3 y3 z3) Z3.1;have h9:∀ {I:Nat->Prop},I 9->I (o3 g):=fun {I} h=>by rw[Z3.2];exact h
   have SE:∀ {I:Nat->Prop},I 9->Step I wr o3 ((((wr.setCell ⟨g,0,none⟩ (.slice av l.length cv)).setCell ⟨g,1,none⟩ (.slice x1 y1 z1)).setCell ⟨g,2,none⟩ (.slice x2 y2 z2)).setCell ⟨g,3,none⟩ (.slice x3 y3 z3)) o3:=fun {I} h=>((((Step.refl I wr o3).setCell ⟨g,0,none⟩ _ (h9 h)).setCell ⟨g,1,none⟩ _ (h9 h)).setCell ⟨g,2,none⟩ _ (h9 h)).setCell ⟨g,3,none⟩ _ (h9 h);have RE:=(R3.step (SE (I:=fun k=>k=9) rfl) (by decide)).lsv;have BE:Below g w ((((wr.setCell ⟨g,0,none⟩ (.slice av l.length cv)).setCell ⟨g,1,none⟩ (.slice x1 y1 z1)).setCell ⟨g,2,none⟩ (.slice x2 y2 z2)).setCell ⟨g,3,none⟩ (.slice x3 y3 z3)):=B1.trans (Below.mono (⟨(S3.trans (SE (Or.inr rfl))).os,(S3.trans (SE (Or.inr rfl))).tape,(S3.trans (SE (Or.inr rfl))).output,(S3.trans (SE (Or.inr rfl))).size,fun k hk=>(S3.trans (SE (Or.inr rfl))).block k (by omega) (by rw[hol k hk];decide)⟩) (Nat.le_refl _));obtain⟨⟨u0,u1,u2,u3⟩,-⟩:=cells4 ZE;have HRE:=Lib.hid RE;have HBE:=Lib.hid BE;clear ZE SE RE BE R3 K3 Z3 S3 R2 ff;go_wp2;exact bodyPost_ret (v:=.agg #[.slice av l.length cv,.slice x1 y1 z1,.slice x2 y2 z2,.slice x3 y3 z3]) (by simp[results,Tryd.results11,go_sem,u0,u1,u2,u3]) rfl ⟨_,_,rfl,HRE.out,by rw[<-HG.out];exact HBE.out⟩
def rwG:List Rw:=[⟨1,0,1⟩,⟨1,1,1⟩,⟨6,0,0⟩,⟨0,0,0⟩]
def cdG:Cd:=⟨rwG.map wdN,[1,2],[],[]⟩
theorem cdG_vrf:vrfA cdG=((2,0,1),0,0):=by decide +kernel
theorem cdG_ok:cdG.Ok:=by
 refine⟨fun u hu=>?_,fun u hu=>?_,fun u hu=>?_,fun u hu=>?_⟩
 ·simp only[cdG,List.mem_map] at hu;obtain⟨r,_,rfl⟩:=hu;exact wdN_bd r
 ·simp[cdG] at hu;omega
 ·simp[cdG] at hu
 ·simp[cdG] at hu
theorem resG:resV ((2,0,1),0,0)=.tuple #[.agg #[.int .i64 2,.int .i64 0,.int .i64 1],.int .i64 0,.int .i64 0]:=rfl
theorem resH:resV ((0,0,0),201,0)=.tuple #[.agg #[.int .i64 0,.int .i64 0,.int .i64 0],.int .i64 201,.int .i64 0]:=rfl
def rwH:List Rw:=[⟨6,0,0⟩,⟨0,0,0⟩]
def cdH:Cd:=⟨rwH.map wdN,[],[],[]⟩
theorem cdH_vrf:vrfA cdH=((0,0,0),201,0):=by decide +kernel
theorem cdH_ok:cdH.Ok:=by
 refine⟨fun u hu=>?_,fun u hu=>?_,fun u hu=>?_,fun u hu=>?_⟩
 ·simp only[cdH,List.mem_map] at hu;obtain⟨r,_,rfl⟩:=hu;exact wdN_bd r
 ·simp[cdH] at hu
 ·simp[cdH] at hu
 ·simp[cdH] at hu
theorem bdA_250:bdA 10 2 4=250:=by decide +kernel
theorem bound_250 (w:World):Calls Tryd.prog 12 #[.int .i64 10,.int .i64 2,.int .i64 4] w fun e w'=>e=.returned (.int .i64 250)/\w'=w:=by
 have h:=bound_c 10 2 4 w;rw[bdA_250] at h;exact h
abbrev bx3 (l:Nat × Nat × Nat)(w:World)(b:Nat):Prop:=w.cell? ⟨b,0,none⟩=some (.int .i64 (l.1:Nat))/\w.cell? ⟨b,1,none⟩=some (.int .i64 (l.2.1:Nat))/\w.cell? ⟨b,2,none⟩=some (.int .i64 (l.2.2:Nat))
abbrev lmA (l:Nat × Nat × Nat):Array Value:=#[.int .i64 (l.1:Nat),.int .i64 (l.2.1:Nat),.int .i64 (l.2.2:Nat)]
theorem bx3_below {l:Nat × Nat × Nat}{w w':World}{b:Nat}(h:bx3 l w b)(hb:b<w.heap.size)(B:Below w.heap.size w w'):bx3 l w' b :=
 ⟨(B.cell (p:=⟨b,0,none⟩) hb).trans h.1,(B.cell (p:=⟨b,1,none⟩) hb).trans h.2.1,(B.cell (p:=⟨b,2,none⟩) hb).trans h.2.2⟩
theorem bx3_new (l:Nat × Nat × Nat)(w:World):bx3 l (w.alloc (.cells (lmA l) 38)) w.heap.size:=by
 have h:=heap_alloc_new w (.cells (lmA l) 38);refine⟨?_,?_,?_⟩<;>(unfold World.cell?;rw[h];rfl)
abbrev rawG:Array Value:=#[.int .i64 1,.int .i64 0,.int .i64 1,.int .i64 1,.int .i64 1,.int .i64 1,.int .i64 6,.int .i64 0,.int .i64 0,.int .i64 0,.int .i64 0,.int .i64 0]
abbrev rawH:Array Value:=#[.int .i64 6,.int .i64 0,.int .i64 0,.int .i64 0,.int .i64 0,.int .i64 0]
theorem rawG_ok:∀ r ∈ rwG,r.Ok:=by
 intro r hr;simp[rwG] at hr;rcases hr with rfl|rfl|rfl|rfl<;>exact⟨by decide,by decide,by decide,by decide,by decide,by decide⟩
theorem rawH_ok:∀ r ∈ rwH,r.Ok:=by
 intro r hr;simp[rwH] at hr;rcases hr with rfl|rfl<;>exact⟨by decide,by decide,by decide,by decide,by decide,by decide⟩
theorem rawG_new {w:World}{g:Nat}(hh:w.heap[g]?=some (.cells rawG 46))(hg:g<w.heap.size):RawW w (some ⟨g,0,none⟩) rwG:=by
 refine .inr ⟨g,0,rfl,hg,fun k hk=>?_⟩;have hk2:k<4:=hk
 match k,hk2 with
 | 0,_=>refine⟨?_,?_,?_⟩<;>(unfold World.cell?;rw[hh];rfl)
 | 1,_=>refine⟨?_,?_,?_⟩<;>(unfold World.cell?;rw[hh];rfl)
 | 2,_=>refine⟨?_,?_,?_⟩<;>(unfold World.cell?;rw[hh];rfl)
 | 3,_=>refine⟨?_,?_,?_⟩<;>(unfold World.cell?;rw[hh];rfl)
theorem rawH_new {w:World}{g:Nat}(hh:w.heap[g]?=some (.cells rawH 46))(hg:g<w.heap.size):RawW w (some ⟨g,0,none⟩) rwH:=by
 refine .inr ⟨g,0,rfl,hg,fun k hk=>?_⟩;have hk2:k<2:=hk
 match k,hk2 with
 | 0,_=>refine⟨?_,?_,?_⟩<;>(unfold World.cell?;rw[hh];rfl)
 | 1,_=>refine⟨?_,?_,?_⟩<;>(unfold World.cell?;rw[hh];rfl)
theorem awake_cG (w:World)(hF:Fx w)(hT:Tzg w) :
  Calls Tryd.prog 5 #[] w fun e w'=>e=.returned (.bool true)/\Below w.heap.size w w':=by
 obtain⟨g,hg⟩:∃g,g=w.heap.size:=⟨_,rfl⟩
 obtain⟨w2,hw2⟩:∃w2,w2=(w.alloc (.cells rawG 46)).alloc (.cells #[.int .i64 1,.int .i64 2] 3):=⟨_,rfl⟩
 have B2:Below g w w2:=by rw[hw2,hg];exact((Below.refl _ w).alloc (Nat.le_refl _) _).alloc (by simp) _
 have sz2:w2.heap.size=g+2:=by rw[hw2,hg];simp
 have R2:RawW w2 (some ⟨g,0,none⟩) rwG:=by
  refine rawG_new ?_ (by omega);rw[hw2,hg];exact(Below.heap_alloc _ _ _ (by simp)).trans (heap_alloc_new _ _)
 have L2:Lsv w2 (some ⟨g+1,0,none⟩) (isV [1,2]):=by
  have hh:w2.heap[g+1]?=some (.cells #[.int .i64 1,.int .i64 2] 3):=by
   have:=heap_alloc_new (w.alloc (.cells rawG 46)) (.cells #[.int .i64 1,.int .i64 2] 3)
   rw[hw2,hg];simpa using this
  refine .inr ⟨g+1,0,rfl,by omega,fun j x hx=>?_⟩
  match j,hx with
  | 0,hx=>simp[isV] at hx;subst hx;unfold World.cell?;rw[hh];rfl
  | 1,hx=>simp[isV] at hx;subst hx;unfold World.cell?;rw[hh];rfl
 have HM:=mk_c w2 (some ⟨g,0,none⟩) 4 rwG (.slice (some ⟨g+1,0,none⟩) 2 2) (.slice none 0 0) (.slice none 0 0) R2 rawG_ok (by decide) ⟨_,_,_,rfl⟩ ⟨_,_,_,rfl⟩ ⟨_,_,_,rfl⟩;have e2:rwG.length=4:=rfl;rw[e2] at HM;have HG:=Lib.hid hg;have F2:Fx w2:=hF.below (by rw[<-hg];exact B2);have T2:Tzg w2:=hT.below (by rw[<-hg];exact B2);clear hg R2 e2 hF hT;go_enter Tryd.func5,Tryd.ntmps5;go_wp2_with fail;rw[<-hw2,<-HG.out];clear hw2;refine HM.mono ?_;rintro e w3 ⟨aw,cw,rfl,LW,B3⟩;obtain⟨p,hp⟩:∃p:Pl,p=⟨aw,cw,some ⟨g+1,0,none⟩,2,none,0,none,0⟩:=⟨_,rfl⟩
 have C3:CdW w3 p cdG:=by
  rw[hp];exact⟨cdG_ok,LW,L2.below B3,.inl rfl,.inl rfl,by decide,by decide,by decide,by decide⟩
 have F3:=F2.below B3;have T3:=T2.below B3;have BB3:=bdt B2 B3 (by omega);have z3:=B3.size;have hv:(.agg #[.slice aw rwG.length cw,.slice (some ⟨g+1,0,none⟩) 2 2,.slice none 0 0,.slice none 0 0]:Value)=cdV p cdG:=by rw[hp];rfl
 rw[hv];clear HM LW L2 B3 F2 T2 hv hp;obtain⟨w4,hw4⟩:∃w4,w4=w3.alloc (.cells (cdA p cdG) 33):=⟨_,rfl⟩
 obtain⟨g4,hg4⟩:∃g4,g4=w3.heap.size:=⟨_,rfl⟩
 have B4:Below w3.heap.size w3 w4:=by rw[hw4];exact b1G _ _
 have K4:bx4 p cdG w4 g4:=by rw[hw4,hg4];exact bx4_new p cdG w3
 have C4:=C3.below B4;have F4:=F3.below B4;have T4:=T3.below B4;have BB4:=bdt BB3 B4 (by omega);have z4:=B4.size;have HG4:=Lib.hid hg4;have HV:=verify_c w4 p cdG F4 T4 C4;rw[cdG_vrf,resG] at HV;clear C3 F3 T3 B4 hg4 C4;go_upto_region 2 with fail;rw[<-hw4,<-HG4.out];clear hw4;obtain⟨k0,k1,k2,k3⟩:=K4;go_wp2_with fail;refine HV.mono ?_;rintro e w5 ⟨rfl,B5⟩;have F5:=F4.below B5;have T5:=T4.below B5;have BB5:=bdt BB4 B5 (by omega);have z5:=B5.size;clear HV B5 F4 T4 k0 k1 k2 k3;obtain⟨w6,hw6⟩:∃w6,w6=w5.alloc (.cells #[.int .i64 2,.int .i64 0,.int .i64 1] 38):=⟨_,rfl⟩
 obtain⟨g6,hg6⟩:∃g6,g6=w5.heap.size:=⟨_,rfl⟩
 have B6:Below w5.heap.size w5 w6:=by rw[hw6];exact b1G _ _
 have K6:bx3 (2,0,1) w6 g6:=by rw[hw6,hg6];exact bx3_new (2,0,1) w5
 have L6:g6<w6.heap.size:=by rw[hw6,hg6];simp
 have F6:=F5.below B6;have T6:=T5.below B6;have BB6:=bdt BB5 B6 (by omega);have z6:=B6.size;have HG6:=Lib.hid hg6;clear F5 T5 B6 hg6;go_upto_region 3 with fail;rw[<-hw6,<-HG6.out];clear hw6;obtain⟨g7,hg7⟩:∃g7,g7=w6.heap.size:=⟨_,rfl⟩
 obtain⟨w7,hw7⟩:∃w7,w7=w6.alloc (.cells rawH 46):=⟨_,rfl⟩
 have B7:Below w6.heap.size w6 w7:=by rw[hw7];exact b1G _ _
 have R7:RawW w7 (some ⟨g7,0,none⟩) rwH:=rawH_new (by rw[hw7,hg7];exact heap_alloc_new _ _) (by rw[hw7,hg7];simp);have K7:=bx3_below K6 L6 B7;have F7:=F6.below B7;have T7:=T6.below B7;have BB7:=bdt BB6 B7 (by omega);have z7:=B7.size;have L7:=Nat.lt_of_lt_of_le L6 B7.size;have HM:=mk_c w7 (some ⟨g7,0,none⟩) 2 rwH (.slice none 0 0) (.slice none 0 0) (.slice none 0 0) R7 rawH_ok (by decide) ⟨_,_,_,rfl⟩ ⟨_,_,_,rfl⟩ ⟨_,_,_,rfl⟩;have e2:rwH.length=2:=rfl;rw[e2] at HM;have HG7:=Lib.hid hg7;clear F6 T6 K6 R7 B7 hg7 e2;go_wp2_with fail;rw[<-hw7,<-HG7.out];clear hw7;refine HM.mono ?_;rintro e w8 ⟨aw8,cw8,rfl,LW,B8⟩;obtain⟨p8,hp⟩:∃p:Pl,p=⟨aw8,cw8,none,0,none,0,none,0⟩:=⟨_,rfl⟩
 have C8:CdW w8 p8 cdH:=by
  rw[hp];exact⟨cdH_ok,LW,.inl rfl,.inl rfl,.inl rfl,by decide,by decide,by decide,by decide⟩
 have F8:=F7.below B8;have T8:=T7.below B8;have K8:=bx3_below K7 L7 B8;have L8:=Nat.lt_of_lt_of_le L7 B8.size;have BB8:=bdt BB7 B8 (by omega);have z8:=B8.size;have hv:(.agg #[.slice aw8 rwH.length cw8,.slice none 0 0,.slice none 0 0,.slice none 0 0]:Value)=cdV p8 cdH:=by rw[hp];rfl
 rw[hv];clear HM LW B8 F7 T7 K7 hv hp;obtain⟨w9,hw9⟩:∃w9,w9=w8.alloc (.cells (cdA p8 cdH) 33):=⟨_,rfl⟩
 obtain⟨g9,hg9⟩:∃g9,g9=w8.heap.size:=⟨_,rfl⟩
 have B9:Below w8.heap.size w8 w9:=by rw[hw9];exact b1G _ _
 have J9:bx4 p8 cdH w9 g9:=by rw[hw9,hg9];exact bx4_new p8 cdH w8
 have C9:=C8.below B9;have F9:=F8.below B9;have T9:=T8.below B9;have K9:=bx3_below K8 L8 B9;have L9:=Nat.lt_of_lt_of_le L8 B9.size;have BB9:=bdt BB8 B9 (by omega);have z9:=B9.size;have HG9:=Lib.hid hg9;have HV:=verify_c w9 p8 cdH F9 T9 C9;rw[cdH_vrf,resH] at HV;clear C8 F8 T8 K8 B9 hg9 C9;go_upto_region 4 with fail;rw[<-hw9,<-HG9.out];clear hw9;obtain⟨j0,j1,j2,j3⟩:=J9;obtain⟨k0,k1,k2⟩:=K9;go_wp2_with fail;refine HV.mono ?_;rintro e wA ⟨rfl,BA⟩;obtain⟨q0,q1,q2⟩:=bx3_below (l:=(2,0,1)) ⟨k0,k1,k2⟩ L9 BA;have BBA:=bdt BB9 BA (by omega);have zA:=BA.size;have LA:=Nat.lt_of_lt_of_le L9 BA.size;clear HV BA F9 T9 k0 k1 k2 j0 j1 j2 j3;obtain⟨wB,hwB⟩:∃wB,wB=wA.alloc (.cells #[.int .i64 0,.int .i64 0,.int .i64 0] 38):=⟨_,rfl⟩
 obtain⟨gB,hgB⟩:∃gB,gB=wA.heap.size:=⟨_,rfl⟩
 have BB:Below wA.heap.size wA wB:=by rw[hwB];exact b1G _ _
 obtain⟨k0,k1,k2⟩:=bx3_below (l:=(2,0,1)) ⟨q0,q1,q2⟩ LA BB;have BBB:=bdt BBA BB (by omega);have HBD:=fun wx=>bound_250 wx;have HGB:=Lib.hid hgB;clear BB hgB q0 q1 q2;go_upto_region 5 with fail;rw[<-hwB,<-HGB.out];clear hwB;go_wp2_with (go_at_call 12;refine(HBD _).mono ?_;rintro e wz ⟨rfl,rfl⟩);go_ret;exact⟨by rfl,by rw[<-HG.out];exact BBB⟩
def hvP (e:Ex)(cells:List Int):Bool:=decide (20000<cells.length)||decide (wgF e.kids (20000-1)<0)
theorem heavy14_c (e:Ex)(ao:Option Addr)(cap ac0:Nat)(cv:Value)(cells:List Int)(w:World)(hc:InA w cv cells)(hcl:cells.length<=maxLen)(hlen:e.kids.len<=maxLen)(hwd:e.kids.wide)(S:SnA w e.kids ao) :
  Calls Tryd.prog 4 #[plV e ao cap cv] w fun x w'=>x=.returned (.bool (hvP e cells))/\Below w.heap.size w w':=by
 obtain⟨W,hW⟩:∃W,W=hvP e cells:=⟨_,rfl⟩
 rw[<-hW];have HW:Hid (W=hvP e cells):=hW;clear hW;obtain⟨ac,cc,hcv,hcx⟩:=hc;subst hcv;clear hcx;have hml:Hid (maxLen=9223372036854775807):=rfl;have hcm:cells.length<=9223372036854775807:=by have:=hml.out;omega
 have B0:Below w.heap.size w (w.alloc (.cells #[.int .i64 e.k,.int .i64 e.n,stv e.nm,.slice ao e.kids.len cap,.slice ac cells.length cc] 27)):=(Below.refl _ w).alloc (Nat.le_refl _) _;have E0:(w.alloc (.cells #[.int .i64 e.k,.int .i64 e.n,stv e.nm,.slice ao e.kids.len cap,.slice ac cells.length cc] 27)).heap[w.heap.size]?=some (.cells #[.int .i64 e.k,.int .i64 e.n,stv e.nm,.slice ao e.kids.len cap,.slice ac cells.length cc] 27):=heap_alloc_new w _;have S0:=SnA.below S B0;rw[plV_out];go_enter Tryd.func4,Tryd.ntmps4;go_upto_region 1 with fail;generalize w.alloc (.cells #[.int .i64 e.k,.int .i64 e.n,stv e.nm,.slice ao e.kids.len cap,.slice ac cells.length cc] 27)=w0 at *;obtain⟨p0,p1,p2,p3,p4,pf⟩:=box5 E0;by_cases h2:20000<cells.length
 ·have hI:(20000:Int)<(cells.length:Int):=by omega
  have HZ:Hid (W=true):=by show W=_;rw[HW.out];simp[hvP,h2]
  clear HW h2;go_wp2;go_ret;rw[HZ.out];exact⟨rfl,B0⟩
 ·have hI:¬(20000:Int)<(cells.length:Int):=by omega
  have HZ:Hid (W=decide (wgF e.kids (20000-1)<0)):=by show W=_;rw[HW.out];simp[hvP,h2]
  have c1:=weighn_ok (e.kids.size+1) e ao cap 20000 w0 (by omega) hlen hwd (by omega) (by omega) S0;rw[exN_out] at c1;generalize wgF e.kids (20000-1)=g at *;clear HW h2;go_wp2_with fail;refine c1.mono ?_;rintro z w1 ⟨rfl,b1⟩;have B1:Below w.heap.size w w1:=B0.trans (b1.mono B0.size);clear c1 p0 p1 p2 p3 p4 pf E0;go_wp2;go_ret;rw[HZ.out];exact⟨rfl,B1⟩
theorem nesF_size:∀ f:Fs,nesF f<=f.size
 | ⟨none⟩=>Nat.le_refl _
 | ⟨some ⟨k,n,nm,a,ks,r⟩⟩=>by
  have h1:=nesF_size ks;have h2:=nesF_size r;simp only[nesF,Fs.size];split<;>omega
def NestOk (N:Nat):Prop:=∀ (e:Ex) (ao:Option Addr) (cap:Nat) (w:World),e.kids.size<N->e.kids.size<=1000000->e.kids.len<=maxLen->e.kids.wide->SnA w e.kids ao ->
 Calls Tryd.prog 9 #[exN e ao cap] w fun x w'=>x=.returned (.int .i64 (nesF (one e):Nat))/\Below w.heap.size w w'
theorem nest_step {N:Nat}(IH:NestOk N):NestOk (N+1):=by
 intro e ao cap w hN hN2 hlen hwd S;obtain⟨W,hW⟩:∃W,W=nesF e.kids:=⟨_,rfl⟩
 have hW1:nesF (one e)=W+if e.k=21 then 1 else 0:=by rw[hW];show max _ 0=_;omega
 have hWs:W<=1000000:=by rw[hW];exact Nat.le_trans (nesF_size _) hN2
 rw[hW1];have HW:Hid (W=nesF e.kids):=hW;have hml:Hid (maxLen=9223372036854775807):=rfl;have hlm:e.kids.len<=9223372036854775807:=by have:=hml.out;omega
 clear hW hW1;have B0:Below w.heap.size w (w.alloc (.cells #[.int .i64 e.k,.int .i64 e.n,stv e.nm,.slice ao e.kids.len cap] 24)):=(Below.refl _ w).alloc (Nat.le_refl _) _;have E0:(w.alloc (.cells #[.int .i64 e.k,.int .i64 e.n,stv e.nm,.slice ao e.kids.len cap] 24)).heap[w.heap.size]?=some (.cells #[.int .i64 e.k,.int .i64 e.n,stv e.nm,.slice ao e.kids.len cap] 24):=heap_alloc_new w _;rw[exN_out];go_enter Tryd.func9,Tryd.ntmps9;go_upto_region 1 with fail;generalize w.alloc (.cells #[.int .i64 e.k,.int .i64 e.n,stv e.nm,.slice ao e.kids.len cap] 24)=w0 at *;obtain⟨bx,hbx⟩:∃bx,bx=w.heap.size:=⟨_,rfl⟩
 rw[<-hbx] at E0 B0 ⊢;have HB:Hid (bx=w.heap.size):=hbx;clear hbx;go_wp2;go_loopw [3,4] (fun v3 v4 wr=>∃(done r:Fs) (c:Nat),Hid (e.kids=done.app r)/\v3=.int .i64 (c:Nat)/\v4=.int .i64 (done.len:Nat)/\c<=1000000/\Hid (max c (nesF r)=W)/\wr.heap[bx]?=some (.cells #[.int .i64 e.k,.int .i64 e.n,stv e.nm,.slice ao e.kids.len cap] 24)/\Below bx w wr) (fun _ v4 _=>e.kids.len-(intOf v4).toNat)
 case atStart=>exact⟨.nil,e.kids,0,rfl,rfl,by show _=Value.int .i64 ((0:Nat):Int);rfl,by omega,by show max 0 _=W;rw[HW.out];omega,E0,B0⟩
 case round =>
  clear E0 B0 HW;obtain⟨done,r,c,hk,rfl,rfl,hc1,HA,E1,B1⟩:=hrel;have hlk:e.kids.len=done.len+r.len:=by rw[hk.out,Fs.len_app]
  obtain⟨p0,p1,p2,p3,pf⟩:=box4 E1;cases r using Fs.on with
  | nil =>
   have hlt:¬(done.len:Int)<(e.kids.len:Int):=by simp only[Fs.len] at hlk;omega
   have FIN:Hid (W=c):=by show W=c;rw[<-HA.out];show max c 0=c;omega
   clear HA hlk;by_cases hq:e.k=21
   ·go_wp2;go_ret;rw[FIN.out];exact⟨rfl,by rw[<-HB.out];exact B1⟩
   ·go_wp2;go_ret;rw[FIN.out];exact⟨rfl,by rw[<-HB.out];exact B1⟩
  | cons kk kn km ka kks kr =>
   have hlt:(done.len:Int)<(e.kids.len:Int):=by simp only[Fs.len] at hlk;omega
   have hl3:done.len<e.kids.len:=by omega
   have hsz:e.kids.size=done.size+(kks.size+kr.size+1):=by rw[hk.out,Fs.size_app];rfl
   have hwk:(Fs.cons kk kn km ka kks kr).wide:=Fs.app_wide (x:=done) (by rw[<-hk.out];exact hwd);obtain⟨b,off,ak,ck,hao,lb1,-,x0,x1,x2,x3,SK⟩:=SlN.kidQ (by rw[<-hk.out];exact SnA.below S (by rw[<-HB.out];exact B1));subst hao;have hcc:=IH ⟨kk,kn,km,ka,kks⟩ ak ck wr (by show kks.size<N;omega) (by show kks.size<=_;omega) hwk.1 hwk.2.1 SK;rw[exN_out] at hcc;simp only at hcc;obtain⟨m,hm⟩:∃m,m=nesF (one ⟨kk,kn,km,ka,kks⟩):=⟨_,rfl⟩
   rw[<-hm] at hcc;have hms:m<=1000000:=by
    rw[hm];refine Nat.le_trans (nesF_size _) ?_;show kks.size+0+1<=1000000;omega
   have HA2:Hid (max (max c m) (nesF kr)=W):=by
    show _=W;rw[<-HA.out,hm];show max (max c (max (nesF kks+if kk=21 then 1 else 0) 0)) (nesF kr)=max c (max (nesF kks+if kk=21 then 1 else 0) (nesF kr));omega
   have hk2:Hid (e.kids=(done.snoc ⟨kk,kn,km,ka,kks⟩).app kr):=by show e.kids=_;rw[hk.out];unfold Fs.snoc;rw[Fs.app_assoc];rfl
   have hl2:(done.len:Int)+1=((done.snoc ⟨kk,kn,km,ka,kks⟩).len:Nat):=by rw[Fs.len_snoc];rfl
   clear HA hlk hsz hwk SK hk hm;go_wp2_with fail;refine hcc.mono ?_;rintro x w2 ⟨rfl,b2⟩;have B2:=B1.trans (b2.mono (by have:=lt_of_block E1;omega));have E2:=(b2.block bx (lt_of_block E1)).trans E1;clear hcc x0 x1 x2 x3 p0 p1 p2 p3 pf b2 E1 B1;go_wp2;go_roundw
   case rel=>exact⟨_,kr,max c m,hk2,by first|rfl|(congr 1;omega),by rw[<-hl2],by omega,HA2,E2,B2⟩
   case measure=>simp[intOf];omega
theorem nest_ok:∀ N,NestOk N -- 9
 | 0=>fun e ao cap w h=>absurd h (Nat.not_lt_zero _)
 | N+1=>nest_step (nest_ok N)
end Go.Proofs.YtejnhibajmncaaaDoor

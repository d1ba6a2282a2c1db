import Derived.Test.YtpdfdhkdfkhfkaaDoorGdH
import Derived.RangeFuncNested
import Derived.RangeFuncBound
import Derived.RangeFuncCalls
import Derived.RangeFuncLeaves
import Derived.RangeFuncWrites
import Derived.Shelf.Abstract
import Derived.OwnWalkIn
import Derived.TacticsInMore
import Derived.LoopNIn
import Derived.LoopIn
set_option maxRecDepth 100000
set_option maxHeartbeats 8000000
namespace Go.Proofs.YtpdfdhkdfkhfkaaDoor
open Go.ChangeShapes Go.WideShapes Go.ChangeAt Go.RowKit
set_option linter.unusedVariables false
set_option linter.unusedSimpArgs false
theorem sizeKd (l:List Nat):(Tryd.prog.info? 76).map (·.size)=some (kdV l).length:=by
 rw[kdV_len];kernel_rfl
theorem infoU64g:(Tryd.prog.info? 53).map (fun i=>(i.zero,i.size,i.bytes))=some (some (.int .u64 0),1,8):=by kernel_rfl
theorem range_blkg {w:World}{b:Nat}{cs:List Value}{t:TypeId}(h:w.heap[b]?=some (.cells cs.toArray t (0,0))):w.rangeAt b 0 cs:=fun j v hv=>by
 rw[cell_of_row w b (0+j) _ t (0,0) h];simpa using hv
theorem forIn_allg {P:Program}(f:Nat->Bool)(B:Nat->Option Bool × Unit->Sem (ForInStep (Option Bool × Unit))):∀ (l:List Nat),(∀ i,i ∈ l->∀ w,(B i (none,())).run P w=.ok (if f i then ForInStep.yield (none,()) else ForInStep.done (some false,())) w)->∀ w,(forIn l (none,()) B).run P w=.ok (if l.all f then (none,()) else (some false,())) w
 | [],_,w=>by simp
 | i::l,h,w=>by
  have ih:=forIn_allg f B l (fun j hj=>h j (List.mem_cons_of_mem _ hj)) w;rw[List.forIn_cons,Sem.run_bind,h i (List.mem_cons_self ..) w,List.all_cons];cases f i
  ·simp
  ·simpa using ih
theorem eq_kd (d:Nat)(l m:List Nat)(w:World):(Op.equalIn (d+1+1) 76 (.agg (kdV l).toArray) (.agg (kdV m).toArray)).run Tryd.prog w=.ok ((List.range 32).all fun i=>gk l i==gk m i) w:=by
 obtain⟨ii,hii,hzi0,hzi1,hzi2⟩:=info_parts infoU64g;have h1:=fun w=>run_underlying (w:=w) Tryd.underlying76;rw[Op.equalIn];simp only[Sem.run_bind,h1,Result.andThen_ok];have h4:∀ (w:World),(isAgg 53).run Tryd.prog w=.ok false w:=fun w=>by simp[isAgg,run_underlying (w:=w) Tryd.underlying53]
 simp[sizeOf,typeInfo,hii,hzi1,part];rw[forIn_allg (fun i=>gk l i==gk m i),<-List.range_eq_range']
 ·cases ((List.range 32).all fun i=>gk l i==gk m i)<;>simp
 ·intro i hi w;have hi32:i<32:=by
   have:=List.mem_range'.1 hi
   omega
  have hI:(((gk l i:Nat):Int)==((gk m i:Nat):Int))=(gk l i==gk m i):=by
   rw[Bool.eq_iff_iff];simp only[beq_iff_eq];omega
  simp only[Sem.run_bind,h4,Result.andThen_ok,kdV_get l hi32,kdV_get m hi32,Bool.false_eq_true,if_false,Sem.run_pure,run_equalIn_int w d 53 .u64 .u64 _ _ Tryd.underlying53,Sem.run_ite];rw[hI];cases (gk l i==gk m i)<;>simp
theorem eq_kdV (l m:List Nat)(x:Bool)(h:((List.range 32).all fun i=>gk l i==gk m i)=x)(w:World):(Op.equalIn 10000 76 (.agg (kdV l).toArray) (.agg (kdV m).toArray)).run Tryd.prog w=.ok x w:=by
 rw[<-h];exact eq_kd 9998 l m w
theorem same_c (b d:Nat)(s t:St)(w:World)(S:StOk s)(T:StOk t)(hB:StB w b s)(hD:StB w d t) :
  Calls Tryd.prog 53 #[.pointer (some ⟨b,0,none⟩),.pointer (some ⟨d,0,none⟩)] w fun e w'=>e=.returned (.bool (decide (s=t)))/\Below w.heap.size w w':=by
 obtain⟨l,r⟩:=s;obtain⟨m,q⟩:=t;have hrb:=range_blkg hB;have hrd:=range_blkg hD;have KB:(fun wx:World=>wx.rangeAt b 0 (kdV l)/\wx.rangeAt d 0 (kdV m)/\wx.cell? ⟨b,33,none⟩=some (.int .i64 (r:Nat))/\wx.cell? ⟨d,33,none⟩=some (.int .i64 (q:Nat))) w :=
  ⟨fun j v hv=>hrb j v (by unfold stC;rw[List.getElem?_append_left (List.getElem?_eq_some_iff.1 hv).1];exact hv),fun j v hv=>hrd j v (by unfold stC;rw[List.getElem?_append_left (List.getElem?_eq_some_iff.1 hv).1];exact hv),(blk_cell hB 33).trans (stC_rd (l,r)),(blk_cell hD 33).trans (stC_rd (m,q))⟩
 simp only at KB;have hB0:Below w.heap.size w w.drew:=⟨rfl,rfl,rfl,Nat.le_refl _,fun _ _=>rfl⟩
 by_cases e:m=l
 ·subst e;have HEQ:=eq_kdV m m true (by simp);have hfin:((r:Int)==(q:Int))=decide ((m,r)=(m,q)):=by
   by_cases h:r=q
   ·subst h;simp
   ·rw[decide_eq_false (by simp[h])];simp;omega
  clear S T hB hD hrb hrd;go_enter Tryd.func53,Tryd.ntmps53;go_upto_region 1 with fail;refine wp_region_held_drew (S:=(fun wx=>wx.rangeAt b 0 (kdV m)/\wx.rangeAt d 0 (kdV m)/\wx.cell? ⟨b,33,none⟩=some (.int .i64 (r:Nat))/\wx.cell? ⟨d,33,none⟩=some (.int .i64 (q:Nat)))) (by kernel_rfl) KB (fun hHeld=>?_);refine wpAnyH_take (i:=0) (v:=?v1) rfl (by kernel_rfl) (by kernel_rfl) (by kernel_rfl) (fun _ _ _ h=>h) (Or.inl ⟨by rfl,?hy1⟩) (by assumption) ?rest1
  case hy1=>(intro w hSw;(try dsimp only at hSw);go_simp;all_goals (with_reducible rfl))
  simp only[Act.put,List.getElem_toArray,List.getElem_cons_zero,List.getElem_cons_succ,List.setIfInBounds_toArray,List.set_cons_zero,List.set_cons_succ];refine wpAnyH_take (i:=1) (v:=?v2) rfl (by kernel_rfl) (by kernel_rfl) (by kernel_rfl) (fun _ _ _ h=>h) (Or.inl ⟨by rfl,?hy2⟩) (by assumption) ?rest2
  case hy2=>(intro w hSw;(try dsimp only at hSw);go_simp;all_goals (with_reducible rfl))
  simp only[Act.put,List.getElem_toArray,List.getElem_cons_zero,List.getElem_cons_succ,List.setIfInBounds_toArray,List.set_cons_zero,List.set_cons_succ];refine wpAnyH_take (i:=2) (v:=?v3) rfl (by kernel_rfl) (by kernel_rfl) (by kernel_rfl) (fun _ _ _ h=>h) (Or.inl ⟨by rfl,?hy3⟩) (by assumption) ?rest3
  case hy3=>(intro w hSw;(try dsimp only at hSw);go_simp;all_goals (with_reducible rfl))
  simp only[Act.put,List.getElem_toArray,List.getElem_cons_zero,List.getElem_cons_succ,List.setIfInBounds_toArray,List.set_cons_zero,List.set_cons_succ];refine wpAnyH_take (i:=3) (v:=.agg (kdV m).toArray) rfl (by kernel_rfl) (by kernel_rfl) (by kernel_rfl) (fun _ _ _ h=>h) (yieldsIf_load_mid (by rfl) 76 _ rfl b 0 rfl (kdV m) _ (fun w hSw=>hSw.1) Tryd.underlying76 rfl (sizeKd _)) (by assumption) ?_;simp only[Act.put,List.getElem_toArray,List.getElem_cons_zero,List.getElem_cons_succ,List.setIfInBounds_toArray,List.set_cons_zero,List.set_cons_succ];refine wpAnyH_take (i:=4) (v:=?v4) rfl (by kernel_rfl) (by kernel_rfl) (by kernel_rfl) (fun _ _ _ h=>h) (Or.inl ⟨by rfl,?hy4⟩) (by assumption) ?rest4
  case hy4=>(intro w hSw;(try dsimp only at hSw);go_simp;all_goals (with_reducible rfl))
  simp only[Act.put,List.getElem_toArray,List.getElem_cons_zero,List.getElem_cons_succ,List.setIfInBounds_toArray,List.set_cons_zero,List.set_cons_succ];refine wpAnyH_take (i:=5) (v:=?v5) rfl (by kernel_rfl) (by kernel_rfl) (by kernel_rfl) (fun _ _ _ h=>h) (Or.inl ⟨by rfl,?hy5⟩) (by assumption) ?rest5
  case hy5=>(intro w hSw;(try dsimp only at hSw);go_simp;all_goals (with_reducible rfl))
  simp only[Act.put,List.getElem_toArray,List.getElem_cons_zero,List.getElem_cons_succ,List.setIfInBounds_toArray,List.set_cons_zero,List.set_cons_succ];refine wpAnyH_take (i:=6) (v:=?v6) rfl (by kernel_rfl) (by kernel_rfl) (by kernel_rfl) (fun _ _ _ h=>h) (Or.inl ⟨by rfl,?hy6⟩) (by assumption) ?rest6
  case hy6=>(intro w hSw;(try dsimp only at hSw);go_simp;all_goals (with_reducible rfl))
  simp only[Act.put,List.getElem_toArray,List.getElem_cons_zero,List.getElem_cons_succ,List.setIfInBounds_toArray,List.set_cons_zero,List.set_cons_succ];refine wpAnyH_take (i:=7) (v:=.agg (kdV m).toArray) rfl (by kernel_rfl) (by kernel_rfl) (by kernel_rfl) (fun _ _ _ h=>h) (yieldsIf_load_mid (by rfl) 76 _ rfl d 0 rfl (kdV m) _ (fun w hSw=>hSw.2.1) Tryd.underlying76 rfl (sizeKd _)) (by assumption) ?_;simp only[Act.put,List.getElem_toArray,List.getElem_cons_zero,List.getElem_cons_succ,List.setIfInBounds_toArray,List.set_cons_zero,List.set_cons_succ];refine wpAnyH_take (i:=8) (v:=.bool true) rfl (by kernel_rfl) (by kernel_rfl) (by kernel_rfl) (fun _ _ _ h=>h) (Or.inl ⟨by rfl,?eq1⟩) (by assumption) ?eqrest1
  case eq1=>(intro w hSw;(try dsimp only at hSw);have e25:=HEQ w;go_simp;all_goals (with_reducible rfl))
  simp only[Act.put,List.getElem_toArray,List.getElem_cons_zero,List.getElem_cons_succ,List.setIfInBounds_toArray,List.set_cons_zero,List.set_cons_succ];refine wpAnyH_take (i:=9) (v:=?v7) rfl (by kernel_rfl) (by kernel_rfl) (by kernel_rfl) (fun _ _ _ h=>h) (Or.inl ⟨by rfl,?hy7⟩) (by assumption) ?rest7
  case hy7=>(intro w hSw;(try dsimp only at hSw);go_simp;all_goals (with_reducible rfl))
  simp only[Act.put,List.getElem_toArray,List.getElem_cons_zero,List.getElem_cons_succ,List.setIfInBounds_toArray,List.set_cons_zero,List.set_cons_succ];refine wpAnyH_take (i:=10) (v:=?v8) rfl (by kernel_rfl) (by kernel_rfl) (by kernel_rfl) (fun _ _ _ h=>h) (Or.inl ⟨by rfl,?hy8⟩) (by assumption) ?rest8
  case hy8=>(intro w hSw;(try dsimp only at hSw);go_simp;all_goals (with_reducible rfl))
  simp only[Act.put,List.getElem_toArray,List.getElem_cons_zero,List.getElem_cons_succ,List.setIfInBounds_toArray,List.set_cons_zero,List.set_cons_succ];refine wpAnyH_take (i:=11) (v:=?v9) rfl (by kernel_rfl) (by kernel_rfl) (by kernel_rfl) (fun _ _ _ h=>h) (Or.inl ⟨by rfl,?hy9⟩) (by assumption) ?rest9
  case hy9=>(intro w hSw;(try dsimp only at hSw);go_simp;all_goals (with_reducible rfl))
  simp only[Act.put,List.getElem_toArray,List.getElem_cons_zero,List.getElem_cons_succ,List.setIfInBounds_toArray,List.set_cons_zero,List.set_cons_succ];refine wpAnyH_take (i:=12) (v:=?v10) rfl (by kernel_rfl) (by kernel_rfl) (by kernel_rfl) (fun _ _ _ h=>h) (Or.inl ⟨by rfl,?hy10⟩) (by assumption) ?rest10
  case hy10=>(intro w hSw;(try dsimp only at hSw);go_simp;all_goals (with_reducible rfl))
  simp only[Act.put,List.getElem_toArray,List.getElem_cons_zero,List.getElem_cons_succ,List.setIfInBounds_toArray,List.set_cons_zero,List.set_cons_succ];refine wpAnyH_take (i:=13) (v:=?v11) rfl (by kernel_rfl) (by kernel_rfl) (by kernel_rfl) (fun _ _ _ h=>h) (Or.inl ⟨by rfl,?hy11⟩) (by assumption) ?rest11
  case hy11=>(intro w hSw;(try dsimp only at hSw);have z5:=hSw.2.2.1;go_simp;all_goals (with_reducible rfl))
  simp only[Act.put,List.getElem_toArray,List.getElem_cons_zero,List.getElem_cons_succ,List.setIfInBounds_toArray,List.set_cons_zero,List.set_cons_succ];refine wpAnyH_take (i:=14) (v:=?v12) rfl (by kernel_rfl) (by kernel_rfl) (by kernel_rfl) (fun _ _ _ h=>h) (Or.inl ⟨by rfl,?hy12⟩) (by assumption) ?rest12
  case hy12=>(intro w hSw;(try dsimp only at hSw);go_simp;all_goals (with_reducible rfl))
  simp only[Act.put,List.getElem_toArray,List.getElem_cons_zero,List.getElem_cons_succ,List.setIfInBounds_toArray,List.set_cons_zero,List.set_cons_succ];refine wpAnyH_take (i:=15) (v:=?v13) rfl (by kernel_rfl) (by kernel_rfl) (by kernel_rfl) (fun _ _ _ h=>h) (Or.inl ⟨by rfl,?hy13⟩) (by assumption) ?rest13
  case hy13=>(intro w hSw;(try dsimp only at hSw);go_simp;all_goals (with_reducible rfl))
  simp only[Act.put,List.getElem_toArray,List.getElem_cons_zero,List.getElem_cons_succ,List.setIfInBounds_toArray,List.set_cons_zero,List.set_cons_succ];refine wpAnyH_take (i:=16) (v:=?v14) rfl (by kernel_rfl) (by kernel_rfl) (by kernel_rfl) (fun _ _ _ h=>h) (Or.inl ⟨by rfl,?hy14⟩) (by assumption) ?rest14
  case hy14=>(intro w hSw;(try dsimp only at hSw);go_simp;all_goals (with_reducible rfl))
  simp only[Act.put,List.getElem_toArray,List.getElem_cons_zero,List.getElem_cons_succ,List.setIfInBounds_toArray,List.set_cons_zero,List.set_cons_succ];refine wpAnyH_take (i:=17) (v:=?v15) rfl (by kernel_rfl) (by kernel_rfl) (by kernel_rfl) (fun _ _ _ h=>h) (Or.inl ⟨by rfl,?hy15⟩) (by assumption) ?rest15
  case hy15=>(intro w hSw;(try dsimp only at hSw);have z6:=hSw.2.2.2;go_simp;all_goals (with_reducible rfl))
  simp only[Act.put,List.getElem_toArray,List.getElem_cons_zero,List.getElem_cons_succ,List.setIfInBounds_toArray,List.set_cons_zero,List.set_cons_succ];refine wpAnyH_take (i:=18) (v:=?v16) rfl (by kernel_rfl) (by kernel_rfl) (by kernel_rfl) (fun _ _ _ h=>h) (Or.inl ⟨by rfl,?hy16⟩) (by assumption) ?rest16
  case hy16=>(intro w hSw;(try dsimp only at hSw);go_simp;all_goals (with_reducible rfl))
  simp only[Act.put,List.getElem_toArray,List.getElem_cons_zero,List.getElem_cons_succ,List.setIfInBounds_toArray,List.set_cons_zero,List.set_cons_succ];refine wpAnyH_take (i:=19) (v:=?v17) rfl (by kernel_rfl) (by kernel_rfl) (by kernel_rfl) (fun _ _ _ h=>h) (Or.inl ⟨by rfl,?hy17⟩) (by assumption) ?rest17
  case hy17=>(intro w hSw;(try dsimp only at hSw);go_simp;all_goals (with_reducible rfl))
  simp only[Act.put,List.getElem_toArray,List.getElem_cons_zero,List.getElem_cons_succ,List.setIfInBounds_toArray,List.set_cons_zero,List.set_cons_succ];refine wpAnyH_take (i:=20) (v:=?v18) rfl (by kernel_rfl) (by kernel_rfl) (by kernel_rfl) (fun _ _ _ h=>h) (Or.inl ⟨by rfl,?hy18⟩) (by assumption) ?rest18
  case hy18=>(intro w hSw;(try dsimp only at hSw);go_simp;all_goals (with_reducible rfl))
  simp only[Act.put,List.getElem_toArray,List.getElem_cons_zero,List.getElem_cons_succ,List.setIfInBounds_toArray,List.set_cons_zero,List.set_cons_succ];refine wpAnyH_done (by kernel_rfl) ?_ _;go_wp2;go_ret;exact⟨by first|exact ret_bool hfin|exact ret_bool (by simp)|(rw[<-hfin];simp),hB0⟩
 ·have hfin:decide ((l,r)=(m,q))=false:=decide_eq_false (by simp;intro x;exact absurd x.symm e);rw[hfin];have HEQ:=eq_kdV l m false (by
   rw[<-Bool.not_eq_true,List.all_eq_true];intro h;exact e (gk_inj S.kd T.kd S.len T.len fun i hi=>by simpa using h i (List.mem_range.2 hi)).symm)
  clear S T hB hD hrb hrd e;go_enter Tryd.func53,Tryd.ntmps53;go_upto_region 1 with fail;refine wp_region_held_drew (S:=(fun wx=>wx.rangeAt b 0 (kdV l)/\wx.rangeAt d 0 (kdV m)/\wx.cell? ⟨b,33,none⟩=some (.int .i64 (r:Nat))/\wx.cell? ⟨d,33,none⟩=some (.int .i64 (q:Nat)))) (by kernel_rfl) KB (fun hHeld=>?_);refine wpAnyH_take (i:=0) (v:=?v19) rfl (by kernel_rfl) (by kernel_rfl) (by kernel_rfl) (fun _ _ _ h=>h) (Or.inl ⟨by rfl,?hy19⟩) (by assumption) ?rest19
  case hy19=>(intro w hSw;(try dsimp only at hSw);go_simp;all_goals (with_reducible rfl))
  simp only[Act.put,List.getElem_toArray,List.getElem_cons_zero,List.getElem_cons_succ,List.setIfInBounds_toArray,List.set_cons_zero,List.set_cons_succ];refine wpAnyH_take (i:=1) (v:=?v20) rfl (by kernel_rfl) (by kernel_rfl) (by kernel_rfl) (fun _ _ _ h=>h) (Or.inl ⟨by rfl,?hy20⟩) (by assumption) ?rest20
  case hy20=>(intro w hSw;(try dsimp only at hSw);go_simp;all_goals (with_reducible rfl))
  simp only[Act.put,List.getElem_toArray,List.getElem_cons_zero,List.getElem_cons_succ,List.setIfInBounds_toArray,List.set_cons_zero,List.set_cons_succ];refine wpAnyH_take (i:=2) (v:=?v21) rfl (by kernel_rfl) (by kernel_rfl) (by kernel_rfl) (fun _ _ _ h=>h) (Or.inl ⟨by rfl,?hy21⟩) (by assumption) ?rest21
  case hy21=>(intro w hSw;(try dsimp only at hSw);go_simp;all_goals (with_reducible rfl))
  simp only[Act.put,List.getElem_toArray,List.getElem_cons_zero,List.getElem_cons_succ,List.setIfInBounds_toArray,List.set_cons_zero,List.set_cons_succ];refine wpAnyH_take (i:=3) (v:=.agg (kdV l).toArray) rfl (by kernel_rfl) (by kernel_rfl) (by kernel_rfl) (fun _ _ _ h=>h) (yieldsIf_load_mid (by rfl) 76 _ rfl b 0 rfl (kdV l) _ (fun w hSw=>hSw.1) Tryd.underlying76 rfl (sizeKd _)) (by assumption) ?_;simp only[Act.put,List.getElem_toArray,List.getElem_cons_zero,List.getElem_cons_succ,List.setIfInBounds_toArray,List.set_cons_zero,List.set_cons_succ];refine wpAnyH_take (i:=4) (v:=?v22) rfl (by kernel_rfl) (by kernel_rfl) (by kernel_rfl) (fun _ _ _ h=>h) (Or.inl ⟨by rfl,?hy22⟩) (by assumption) ?rest22
  case hy22=>(intro w hSw;(try dsimp only at hSw);go_simp;all_goals (with_reducible rfl))
  simp only[Act.put,List.getElem_toArray,List.getElem_cons_zero,List.getElem_cons_succ,List.setIfInBounds_toArray,List.set_cons_zero,List.set_cons_succ];refine wpAnyH_take (i:=5) (v:=?v23) rfl (by kernel_rfl) (by kernel_rfl) (by kernel_rfl) (fun _ _ _ h=>h) (Or.inl ⟨by rfl,?hy23⟩) (by assumption) ?rest23
  case hy23=>(intro w hSw;(try dsimp only at hSw);go_simp;all_goals (with_reducible rfl))
  simp only[Act.put,List.getElem_toArray,List.getElem_cons_zero,List.getElem_cons_succ,List.setIfInBounds_toArray,List.set_cons_zero,List.set_cons_succ];refine wpAnyH_take (i:=6) (v:=?v24) rfl (by kernel_rfl) (by kernel_rfl) (by kernel_rfl) (fun _ _ _ h=>h) (Or.inl ⟨by rfl,?hy24⟩) (by assumption) ?rest24
  case hy24=>(intro w hSw;(try dsimp only at hSw);go_simp;all_goals (with_reducible rfl))
  simp only[Act.put,List.getElem_toArray,List.getElem_cons_zero,List.getElem_cons_succ,List.setIfInBounds_toArray,List.set_cons_zero,List.set_cons_succ];refine wpAnyH_take (i:=7) (v:=.agg (kdV m).toArray) rfl (by kernel_rfl) (by kernel_rfl) (by kernel_rfl) (fun _ _ _ h=>h) (yieldsIf_load_mid (by rfl) 76 _ rfl d 0 rfl (kdV m) _ (fun w hSw=>hSw.2.1) Tryd.underlying76 rfl (sizeKd _)) (by assumption) ?_;simp only[Act.put,List.getElem_toArray,List.getElem_cons_zero,List.getElem_cons_succ,List.setIfInBounds_toArray,List.set_cons_zero,List.set_cons_succ];refine wpAnyH_take (i:=8) (v:=.bool false) rfl (by kernel_rfl) (by kernel_rfl) (by kernel_rfl) (fun _ _ _ h=>h) (Or.inl ⟨by rfl,?eq2⟩) (by assumption) ?eqrest2
  case eq2=>(intro w hSw;(try dsimp only at hSw);have e25:=HEQ w;go_simp;all_goals (with_reducible rfl))
  simp only[Act.put,List.getElem_toArray,List.getElem_cons_zero,List.getElem_cons_succ,List.setIfInBounds_toArray,List.set_cons_zero,List.set_cons_succ];refine wpAnyH_take (i:=9) (v:=?v25) rfl (by kernel_rfl) (by kernel_rfl) (by kernel_rfl) (fun _ _ _ h=>h) (Or.inl ⟨by rfl,?hy25⟩) (by assumption) ?rest25
  case hy25=>(intro w hSw;(try dsimp only at hSw);go_simp;all_goals (with_reducible rfl))
  simp only[Act.put,List.getElem_toArray,List.getElem_cons_zero,List.getElem_cons_succ,List.setIfInBounds_toArray,List.set_cons_zero,List.set_cons_succ];refine wpAnyH_take (i:=10) (v:=undef) rfl (by kernel_rfl) (by kernel_rfl) (by kernel_rfl) (fun _ _ _ h=>h) (Or.inr ⟨?uw3,rfl⟩) (by assumption) ?urest3
  case uw3=>kernel_rfl
  simp only[Act.put,List.getElem_toArray,List.getElem_cons_zero,List.getElem_cons_succ,List.setIfInBounds_toArray,List.set_cons_zero,List.set_cons_succ];refine wpAnyH_take (i:=11) (v:=undef) rfl (by kernel_rfl) (by kernel_rfl) (by kernel_rfl) (fun _ _ _ h=>h) (Or.inr ⟨?uw4,rfl⟩) (by assumption) ?urest4
  case uw4=>kernel_rfl
  simp only[Act.put,List.getElem_toArray,List.getElem_cons_zero,List.getElem_cons_succ,List.setIfInBounds_toArray,List.set_cons_zero,List.set_cons_succ];refine wpAnyH_take (i:=12) (v:=undef) rfl (by kernel_rfl) (by kernel_rfl) (by kernel_rfl) (fun _ _ _ h=>h) (Or.inr ⟨?uw5,rfl⟩) (by assumption) ?urest5
  case uw5=>kernel_rfl
  simp only[Act.put,List.getElem_toArray,List.getElem_cons_zero,List.getElem_cons_succ,List.setIfInBounds_toArray,List.set_cons_zero,List.set_cons_succ];refine wpAnyH_take (i:=13) (v:=undef) rfl (by kernel_rfl) (by kernel_rfl) (by kernel_rfl) (fun _ _ _ h=>h) (Or.inr ⟨?uw6,rfl⟩) (by assumption) ?urest6
  case uw6=>kernel_rfl
  simp only[Act.put,List.getElem_toArray,List.getElem_cons_zero,List.getElem_cons_succ,List.setIfInBounds_toArray,List.set_cons_zero,List.set_cons_succ];refine wpAnyH_take (i:=14) (v:=undef) rfl (by kernel_rfl) (by kernel_rfl) (by kernel_rfl) (fun _ _ _ h=>h) (Or.inr ⟨?uw7,rfl⟩) (by assumption) ?urest7
  case uw7=>kernel_rfl
  simp only[Act.put,List.getElem_toArray,List.getElem_cons_zero,List.getElem_cons_succ,List.setIfInBounds_toArray,List.set_cons_zero,List.set_cons_succ];refine wpAnyH_take (i:=15) (v:=undef) rfl (by kernel_rfl) (by kernel_rfl) (by kernel_rfl) (fun _ _ _ h=>h) (Or.inr ⟨?uw8,rfl⟩) (by assumption) ?urest8
  case uw8=>kernel_rfl
  simp only[Act.put,List.getElem_toArray,List.getElem_cons_zero,List.getElem_cons_succ,List.setIfInBounds_toArray,List.set_cons_zero,List.set_cons_succ];refine wpAnyH_take (i:=16) (v:=undef) rfl (by kernel_rfl) (by kernel_rfl) (by kernel_rfl) (fun _ _ _ h=>h) (Or.inr ⟨?uw9,rfl⟩) (by assumption) ?urest9
  case uw9=>kernel_rfl
  simp only[Act.put,List.getElem_toArray,List.getElem_cons_zero,List.getElem_cons_succ,List.setIfInBounds_toArray,List.set_cons_zero,List.set_cons_succ];refine wpAnyH_take (i:=17) (v:=undef) rfl (by kernel_rfl) (by kernel_rfl) (by kernel_rfl) (fun _ _ _ h=>h) (Or.inr ⟨?uw10,rfl⟩) (by assumption) ?urest10
  case uw10=>kernel_rfl
  simp only[Act.put,List.getElem_toArray,List.getElem_cons_zero,List.getElem_cons_succ,List.setIfInBounds_toArray,List.set_cons_zero,List.set_cons_succ];refine wpAnyH_take (i:=18) (v:=undef) rfl (by kernel_rfl) (by kernel_rfl) (by kernel_rfl) (fun _ _ _ h=>h) (Or.inr ⟨?uw11,rfl⟩) (by assumption) ?urest11
  case uw11=>kernel_rfl
  simp only[Act.put,List.getElem_toArray,List.getElem_cons_zero,List.getElem_cons_succ,List.setIfInBounds_toArray,List.set_cons_zero,List.set_cons_succ];refine wpAnyH_take (i:=19) (v:=?v26) rfl (by kernel_rfl) (by kernel_rfl) (by kernel_rfl) (fun _ _ _ h=>h) (Or.inl ⟨by rfl,?hy26⟩) (by assumption) ?rest26
  case hy26=>(intro w hSw;(try dsimp only at hSw);go_simp;all_goals (with_reducible rfl))
  simp only[Act.put,List.getElem_toArray,List.getElem_cons_zero,List.getElem_cons_succ,List.setIfInBounds_toArray,List.set_cons_zero,List.set_cons_succ];refine wpAnyH_take (i:=20) (v:=?v27) rfl (by kernel_rfl) (by kernel_rfl) (by kernel_rfl) (fun _ _ _ h=>h) (Or.inl ⟨by rfl,?hy27⟩) (by assumption) ?rest27
  case hy27=>(intro w hSw;(try dsimp only at hSw);go_simp;all_goals (with_reducible rfl))
  simp only[Act.put,List.getElem_toArray,List.getElem_cons_zero,List.getElem_cons_succ,List.setIfInBounds_toArray,List.set_cons_zero,List.set_cons_succ];refine wpAnyH_done (by kernel_rfl) ?_ _;go_wp2;go_ret;exact⟨rfl,hB0⟩
open Go.ChangeShapes Go.WideShapes Go.ChangeAt Go.RowKit Go.Shelf
attribute [local go_sem] Oper.semAt_some
theorem backward_c (w:World)(ao:Option Addr)(n cap:Nat):Calls Tryd.prog 58 #[.slice ao n cap] w fun e w'=>e=.returned (.func (.func 70) #[] #[.pointer (some ⟨w.heap.size,0,none⟩)])/\w'=w.alloc (.cells #[.slice ao n cap] 23):=by
 go_enter Tryd.func58,Tryd.ntmps58;go_wp2;go_ret;exact⟨rfl,rfl⟩
abbrev Kd:Type:={ x:Nat × Nat // x.1<=1024/\1<=x.2/\x.2<=3 }
def encK (x:Kd):Array Value:=#[.int .i64 (x.1.1:Nat),.int .i64 (x.1.2:Nat)]
def Kq (m b:Nat)(A B:World):Prop:=A.heap.size<=B.heap.size/\∀ k,k<m->k≠b->B.heap[k]?=A.heap[k]?
theorem Kq.trans {m b:Nat}{A B C:World}(h:Kq m b A B)(k:Kq m b B C):Kq m b A C:=⟨Nat.le_trans h.1 k.1,fun i hi hn=>(k.2 i hi hn).trans (h.2 i hi hn)⟩
theorem Kq.refl (m b:Nat)(A:World):Kq m b A A:=⟨Nat.le_refl _,fun _ _ _=>rfl⟩
def cameL (zs:List Kd)(k:Nat):List Kd:=zs.reverse.take k
theorem came_succ {zs:List Kd}{k:Nat}(h:k<zs.length):cameL zs (k+1)=cameL zs k++[zs[zs.length-1-k]]:=by
 unfold cameL;rw[List.take_succ_eq_append_getElem (by simpa using h),List.getElem_reverse]
theorem backward1_in (F:Fence)(n:Nat)(h7:F.fn 70)(hro:F.round=none)(hn:1<=n)(l Bs m b g off cap:Nat)(zs:List Kd)(hlen:zs.length<=1024)(hz:∀ j (h:j<zs.length),(zs[j]).1.1=j)(hb:g<m)(hb2:g≠b)(hBm:Bs<m)(hBb:Bs≠b)(J Jx:List Kd->World->Prop)
  (hY:∀ pre x W,J pre W->pre.length<zs.length->YieldAt F (n-1) Tryd.prog l (encK x) W fun e W' =>
   (e=.returned (.bool true)/\J (pre++[x]) W'/\Kq m b W W')\/(e=.returned (.bool false)/\Jx (pre++[x]) W'))
  (W:World) (hBs:W.cell? ⟨Bs,0,none⟩=some (.slice (some ⟨g,off,none⟩) zs.length cap)) (hc:∀ j (h:j<zs.length),W.cell? ⟨g,off+j,none⟩=some (.int .i64 ((zs[j]).1.2:Nat))) (h0:J [] W) :
  CallsIn F n Tryd.prog 70 #[.func (.yield l) #[] #[],.pointer (some ⟨Bs,0,none⟩)] W fun e W'=>(∃v,e=.returned v) /\
   ((∃ys,ys=cameL zs zs.length/\J ys W')\/(∃pre,(∃k,k<=zs.length/\pre=cameL zs k)/\Jx pre W')):=by
 refine callsIn_of_wp Tryd.func70 rfl h7 ?_ hro;simp only[Tryd.ntmps70,List.size_toArray,List.length_cons,List.length_nil,Nat.reduceAdd,Nat.reduceSub,Array.replicate_succ,Array.replicate_zero,List.push_toArray,List.append_toArray,List.nil_append,List.cons_append]
 gi_wp2
 gi_loopw [3] (fun i wr=>∃k:Nat,k<=zs.length/\i=.int .i64 ((zs.length:Int)-1-(k:Nat))/\J (cameL zs k) wr/\Kq m b W wr)
  (fun i _=>(intOf i+1).toNat)
 case atStart=>exact⟨0,Nat.zero_le _,by simp,h0,Kq.refl _ _ _⟩
 case round =>
  obtain⟨k,hk,rfl,hJs,hnx⟩:=hrel;by_cases hlt:k<zs.length
  ·have hcl:(cameL zs k).length=k:=by simp[cameL];omega
   obtain⟨q,hq⟩:∃q,q=zs.length-1-k:=⟨_,rfl⟩
   have hql:q<zs.length:=by omega
   have hqI:((zs.length:Int)-1-(k:Nat))=((q:Nat):Int):=by omega
   obtain⟨fn,tmps,assign,body,hy,hR⟩:=hY _ (zs[q]) wr hJs (by rw[hcl];exact hlt);have hcs:cameL zs (k+1)=cameL zs k++[zs[q]]:=by rw[came_succ hlt];simp only[hq]
   unfold encK at hy;rw[hz q hql] at hy;have cb:wr.cell? ⟨Bs,0,none⟩=some (.slice (some ⟨g,off,none⟩) zs.length cap):=(World.cell?_of_block (a:=⟨Bs,0,none⟩) (hnx.2 Bs hBm hBb)).trans hBs;have cq:wr.cell? ⟨g,off+q,none⟩=some (.int .i64 ((zs[q]).1.2:Nat)):=(World.cell?_of_block (a:=⟨g,off+q,none⟩) (hnx.2 g hb hb2)).trans (hc q hql);rw[<-hcs] at hR;have hqI2:(q:Int)<(zs.length:Int):=by omega
   have hqn:((q:Nat):Int)-1=((zs.length:Int)-1-((k+1:Nat):Int)):=by omega
   have HN:=Lib.hid hqn;have HQ:=Lib.hid hq;rw[hqI];clear hcs hqn hq hqI;generalize zs[q]=zq at *
   gi_wp2
   refine hR.mono ?_;rintro e W3 (⟨rfl,hJ3,hk3⟩|⟨rfl,hJx3⟩)
   ·gi_wp2
    go_roundw
    case rel=>exact⟨k+1,by omega,by rw[HN.out],hJ3,hnx.trans hk3⟩
    case measure=>have:=HQ.out;simp[intOf]<;>omega
   ·gi_wp2
    refine bodyPost_ret (results_none rfl _ _ _) rfl ?_;exact⟨⟨_,rfl⟩,.inr ⟨_,⟨k+1,by omega,rfl⟩,hJx3⟩⟩
  ·obtain rfl:k=zs.length:=by omega
   have hneg:((zs.length:Int)-1-(zs.length:Nat))=-1:=by omega
   rw[hneg]
   gi_wp2
   go_end0
   exact⟨⟨_,rfl⟩,.inl ⟨_,rfl,hJs⟩⟩
end Go.Proofs.YtpdfdhkdfkhfkaaDoor

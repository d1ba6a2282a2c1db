import Derived.Test.YtpdfdhkdfkhfkaaDoorGdI
import Derived.RangeFuncNested
import Derived.RangeFuncBound
import Derived.RangeFuncCalls
import Derived.RangeFuncLeaves
import Derived.RangeFuncWrites
import Derived.Shelf.Abstract
import Derived.OwnWalkIn
import Derived.TacticsInMore
import Derived.LoopNIn
import Derived.LoopIn
set_option maxRecDepth 100000
set_option maxHeartbeats 8000000
namespace Go.Proofs.YtpdfdhkdfkhfkaaDoor
open Go.ChangeShapes Go.WideShapes Go.ChangeAt Go.RowKit Go.Shelf
set_option linter.unusedVariables false
set_option linter.unusedSimpArgs false
attribute [local go_sem] Oper.semAt_some
theorem backward_c (w:World)(ao:Option Addr)(n cap:Nat):Calls Tryd.prog 58 #[.slice ao n cap] w fun e w'=>e=.returned (.func (.func 70) #[] #[.pointer (some ⟨w.heap.size,0,none⟩)])/\w'=w.alloc (.cells #[.slice ao n cap] 23):=by
 go_enter Tryd.func58,Tryd.ntmps58;go_wp2;go_ret;exact⟨rfl,rfl⟩
abbrev Kd:Type:={ x:Nat × Nat // x.1<=1024/\1<=x.2/\x.2<=3 }
def encK (x:Kd):Array Value:=#[.int .i64 (x.1.1:Nat),.int .i64 (x.1.2:Nat)]
def Kq (m b:Nat)(A B:World):Prop:=A.heap.size<=B.heap.size/\∀ k,k<m->k≠b->B.heap[k]?=A.heap[k]?
theorem Kq.trans {m b:Nat}{A B C:World}(h:Kq m b A B)(k:Kq m b B C):Kq m b A C:=⟨Nat.le_trans h.1 k.1,fun i hi hn=>(k.2 i hi hn).trans (h.2 i hi hn)⟩
theorem Kq.refl (m b:Nat)(A:World):Kq m b A A:=⟨Nat.le_refl _,fun _ _ _=>rfl⟩
def cameL (zs:List Kd)(k:Nat):List Kd:=zs.reverse.take k
theorem came_succ {zs:List Kd}{k:Nat}(h:k<zs.length):cameL zs (k+1)=cameL zs k++[zs[zs.length-1-k]]:=by
 unfold cameL;rw[List.take_succ_eq_append_getElem (by simpa using h),List.getElem_reverse]
theorem backward1_in (F:Fence)(n:Nat)(h7:F.fn 70)(hro:F.round=none)(hn:1<=n)(l Bs m b g off cap:Nat)(zs:List Kd)(hlen:zs.length<=1024)(hz:∀ j (h:j<zs.length),(zs[j]).1.1=j)(hb:g<m)(hb2:g≠b)(hBm:Bs<m)(hBb:Bs≠b)(J Jx:List Kd->World->Prop)
  (hY:∀ pre x W,J pre W->pre.length<zs.length->YieldAt F (n-1) Tryd.prog l (encK x) W fun e W' =>
   (e=.returned (.bool true)/\J (pre++[x]) W'/\Kq m b W W')\/(e=.returned (.bool false)/\Jx (pre++[x]) W'))
  (W:World) (hBs:W.cell? ⟨Bs,0,none⟩=some (.slice (some ⟨g,off,none⟩) zs.length cap)) (hc:∀ j (h:j<zs.length),W.cell? ⟨g,off+j,none⟩=some (.int .i64 ((zs[j]).1.2:Nat))) (h0:J [] W) :
  CallsIn F n Tryd.prog 70 #[.func (.yield l) #[] #[],.pointer (some ⟨Bs,0,none⟩)] W fun e W'=>(∃v,e=.returned v) /\
   ((∃ys,ys=cameL zs zs.length/\J ys W')\/(∃pre,(∃k,k<=zs.length/\pre=cameL zs k)/\Jx pre W')):=by
 refine callsIn_of_wp Tryd.func70 rfl h7 ?_ hro;simp only[Tryd.ntmps70,List.size_toArray,List.length_cons,List.length_nil,Nat.reduceAdd,Nat.reduceSub,Array.replicate_succ,Array.replicate_zero,List.push_toArray,List.append_toArray,List.nil_append,List.cons_append]
 gi_wp2
 gi_loopw [3] (fun i wr=>∃k:Nat,k<=zs.length/\i=.int .i64 ((zs.length:Int)-1-(k:Nat))/\J (cameL zs k) wr/\Kq m b W wr)
  (fun i _=>(intOf i+1).toNat)
 case atStart=>exact⟨0,Nat.zero_le _,by simp,h0,Kq.refl _ _ _⟩
 case round =>
  obtain⟨k,hk,rfl,hJs,hnx⟩:=hrel;by_cases hlt:k<zs.length
  ·have hcl:(cameL zs k).length=k:=by simp[cameL];omega
   obtain⟨q,hq⟩:∃q,q=zs.length-1-k:=⟨_,rfl⟩
   have hql:q<zs.length:=by omega
   have hqI:((zs.length:Int)-1-(k:Nat))=((q:Nat):Int):=by omega
   obtain⟨fn,tmps,assign,body,hy,hR⟩:=hY _ (zs[q]) wr hJs (by rw[hcl];exact hlt);have hcs:cameL zs (k+1)=cameL zs k++[zs[q]]:=by rw[came_succ hlt];simp only[hq]
   unfold encK at hy;rw[hz q hql] at hy;have cb:wr.cell? ⟨Bs,0,none⟩=some (.slice (some ⟨g,off,none⟩) zs.length cap):=(World.cell?_of_block (a:=⟨Bs,0,none⟩) (hnx.2 Bs hBm hBb)).trans hBs;have cq:wr.cell? ⟨g,off+q,none⟩=some (.int .i64 ((zs[q]).1.2:Nat)):=(World.cell?_of_block (a:=⟨g,off+q,none⟩) (hnx.2 g hb hb2)).trans (hc q hql);rw[<-hcs] at hR;have hqI2:(q:Int)<(zs.length:Int):=by omega
   have hqn:((q:Nat):Int)-1=((zs.length:Int)-1-((k+1:Nat):Int)):=by omega
   have HN:=Lib.hid hqn;have HQ:=Lib.hid hq;rw[hqI];clear hcs hqn hq hqI;generalize zs[q]=zq at *
   gi_wp2
   refine hR.mono ?_;rintro e W3 (⟨rfl,hJ3,hk3⟩|⟨rfl,hJx3⟩)
   ·gi_wp2
    go_roundw
    case rel=>exact⟨k+1,by omega,by rw[HN.out],hJ3,hnx.trans hk3⟩
    case measure=>have:=HQ.out;simp[intOf]<;>omega
   ·gi_wp2
    refine bodyPost_ret (results_none rfl _ _ _) rfl ?_;exact⟨⟨_,rfl⟩,.inr ⟨_,⟨k+1,by omega,rfl⟩,hJx3⟩⟩
  ·obtain rfl:k=zs.length:=by omega
   have hneg:((zs.length:Int)-1-(zs.length:Nat))=-1:=by omega
   rw[hneg]
   gi_wp2
   go_end0
   exact⟨⟨_,rfl⟩,.inl ⟨_,rfl,hJs⟩⟩
attribute [local go_sem] Oper.semAt_some
theorem backward0_in (F:Fence)(n:Nat)(h7:F.fn 70)(hro:F.round=none)(l Bs cap:Nat)(ao:Option Addr)(J:List Kd->World->Prop)(W:World)
  (hBs:W.cell? ⟨Bs,0,none⟩=some (.slice ao 0 cap)) (h0:J [] W) :
  CallsIn F n Tryd.prog 70 #[.func (.yield l) #[] #[],.pointer (some ⟨Bs,0,none⟩)] W fun e W'=>(∃v,e=.returned v)/\J [] W':=by
 refine callsIn_of_wp Tryd.func70 rfl h7 ?_ hro;simp only[Tryd.ntmps70,List.size_toArray,List.length_cons,List.length_nil,Nat.reduceAdd,Nat.reduceSub,Array.replicate_succ,Array.replicate_zero,List.push_toArray,List.append_toArray,List.nil_append,List.cons_append]
 gi_wp2
 gi_loopw [3] (fun i wr=>i=.int .i64 (-1)/\J [] wr) (fun _ _=>0)
 case atStart=>exact⟨by simp,h0⟩
 case round =>
  obtain⟨rfl,hJs⟩:=hrel
  gi_wp2
  go_end0
  exact⟨⟨_,rfl⟩,hJs⟩
def kdL (xs:List Nat)(hl:xs.length<=1024)(hk:∀ k ∈ xs,1<=k/\k<=3):List Kd :=
 List.ofFn fun i:Fin xs.length=>⟨(i.1,xs[i.1]),by have:=i.2;dsimp only;omega,hk _ (List.getElem_mem _)⟩
theorem kdL_len {xs:List Nat}{hl:xs.length<=1024}{hk:∀ k ∈ xs,1<=k/\k<=3}:(kdL xs hl hk).length=xs.length:=by simp[kdL]
theorem kdL_at {xs:List Nat}{hl:xs.length<=1024}{hk:∀ k ∈ xs,1<=k/\k<=3}(j:Nat)(h:j<(kdL xs hl hk).length):((kdL xs hl hk)[j]).1=(j,xs[j]'(by rw[<-kdL_len (hl:=hl) (hk:=hk)];exact h)):=by
 simp[kdL]
theorem kdL_map {xs:List Nat}{hl:xs.length<=1024}{hk:∀ k ∈ xs,1<=k/\k<=3}:(kdL xs hl hk).map (·.1.2)=xs:=by
 apply List.ext_getElem
 ·simp[kdL]
 ·intro i h1 h2;simp[kdL]
theorem backward_stops (F:Fence)(n:Nat)(h7:F.fn 70)(hro:F.round=none)(hn:1<=n)(Bs b m0:Nat)(v:Value)(xs:List Nat)(hl:xs.length<=1024)(hk:∀ k ∈ xs,1<=k/\k<=3)(w:World)
  (hBs:Bs<w.heap.size) (hBb:Bs≠b) (hc:w.cell? ⟨Bs,0,none⟩=some v) (hI:InG w m0 v xs) (hb:b<m0) :
  SeqStopsK F n Tryd.prog 70 #[.pointer (some ⟨Bs,0,none⟩)] encK (Kq w.heap.size b) (fun ys=>ys=(kdL xs hl hk).reverse) (fun pre=>∃rest,(kdL xs hl hk).reverse=pre++rest) xs.length w:=fun l J Jx W hW _ _ hY h0=>by
 have hc':=(hW.cell (p:=⟨Bs,0,none⟩) hBs).trans hc;have hI2:=hI.below hW;obtain⟨ao,cap,rfl,h|⟨g,off,rfl,hm,hg,hcs⟩⟩:=hI2
 ·subst h;exact(backward0_in F n h7 hro l Bs cap ao J W hc' h0).mono fun e W' ⟨he,hj⟩=>⟨he,.inl ⟨_,rfl,hj⟩⟩
 ·have hg0:g<w.heap.size\/xs=[]:=by
   obtain⟨ao',cap',e',h' | ⟨g',off',e2,hm',hg',_⟩⟩:=hI
   ·exact .inr h'
   ·cases e';cases e2;exact .inl hg'
  rcases hg0 with hg0|rfl
  ·have hlen:=kdL_len (hl:=hl) (hk:=hk);rw[<-hlen] at hc' hY;refine(backward1_in F n h7 hro hn l Bs w.heap.size b g off cap (kdL xs hl hk) (by rw[hlen];exact hl) (fun j h=>by rw[kdL_at j h]) hg0 (by omega) hBs hBb J Jx hY W hc' (fun j h=>?_) h0).mono ?_
   ·rw[kdL_at j h];exact hcs j _ (List.getElem?_eq_getElem _)
   ·rintro e W' ⟨he,⟨ys,rfl,hj⟩|⟨pre,⟨k,hk',rfl⟩,hj⟩⟩
    ·exact⟨he,.inl ⟨_,by unfold cameL;rw[List.take_of_length_le (by simp)],hj⟩⟩
    ·exact⟨he,.inr ⟨_,⟨_,(List.take_append_drop k _).symm⟩,hj⟩⟩
  ·exact(backward0_in F n h7 hro l Bs cap _ J W hc' h0).mono fun e W' ⟨he,hj⟩=>⟨he,.inl ⟨_,rfl,hj⟩⟩
end Go.Proofs.YtpdfdhkdfkhfkaaDoor

import Derived.Test.YtpdfdhkdfkhfkaaDoorGdJ
set_option maxRecDepth 100000
set_option maxHeartbeats 8000000
namespace Go.Proofs.YtpdfdhkdfkhfkaaDoor
open Go.ChangeShapes Go.WideShapes Go.ChangeAt Go.RowKit Go.Shelf
set_option linter.unusedVariables false
set_option linter.unusedSimpArgs false
attribute [local go_sem] Oper.semAt_some
theorem backward0_in (F:Fence)(n:Nat)(h7:F.fn 70)(hro:F.round=none)(l Bs cap:Nat)(ao:Option Addr)(J:List Kd->World->Prop)(W:World)
  (hBs:W.cell? ⟨Bs,0,none⟩=some (.slice ao 0 cap)) (h0:J [] W) :
  CallsIn F n Tryd.prog 70 #[.func (.yield l) #[] #[],.pointer (some ⟨Bs,0,none⟩)] W fun e W'=>(∃v,e=.returned v)/\J [] W':=by
 refine callsIn_of_wp Tryd.func70 rfl h7 ?_ hro;simp only[Tryd.ntmps70,List.size_toArray,List.length_cons,List.length_nil,Nat.reduceAdd,Nat.reduceSub,Array.replicate_succ,Array.replicate_zero,List.push_toArray,List.append_toArray,List.nil_append,List.cons_append]
 gi_wp2
 gi_loopw [3] (fun i wr=>i=.int .i64 (-1)/\J [] wr) (fun _ _=>0)
 case atStart=>exact⟨by simp,h0⟩
 case round =>
  obtain⟨rfl,hJs⟩:=hrel
  gi_wp2
  go_end0
  exact⟨⟨_,rfl⟩,hJs⟩
def kdL (xs:List Nat)(hl:xs.length<=1024)(hk:∀ k ∈ xs,1<=k/\k<=3):List Kd :=
 List.ofFn fun i:Fin xs.length=>⟨(i.1,xs[i.1]),by have:=i.2;dsimp only;omega,hk _ (List.getElem_mem _)⟩
theorem kdL_len {xs:List Nat}{hl:xs.length<=1024}{hk:∀ k ∈ xs,1<=k/\k<=3}:(kdL xs hl hk).length=xs.length:=by simp[kdL]
theorem kdL_at {xs:List Nat}{hl:xs.length<=1024}{hk:∀ k ∈ xs,1<=k/\k<=3}(j:Nat)(h:j<(kdL xs hl hk).length):((kdL xs hl hk)[j]).1=(j,xs[j]'(by rw[<-kdL_len (hl:=hl) (hk:=hk)];exact h)):=by
 simp[kdL]
theorem kdL_map {xs:List Nat}{hl:xs.length<=1024}{hk:∀ k ∈ xs,1<=k/\k<=3}:(kdL xs hl hk).map (·.1.2)=xs:=by
 apply List.ext_getElem
 ·simp[kdL]
 ·intro i h1 h2;simp[kdL]
theorem backward_stops (F:Fence)(n:Nat)(h7:F.fn 70)(hro:F.round=none)(hn:1<=n)(Bs b m0:Nat)(v:Value)(xs:List Nat)(hl:xs.length<=1024)(hk:∀ k ∈ xs,1<=k/\k<=3)(w:World)
  (hBs:Bs<w.heap.size) (hBb:Bs≠b) (hc:w.cell? ⟨Bs,0,none⟩=some v) (hI:InG w m0 v xs) (hb:b<m0) :
  SeqStopsK F n Tryd.prog 70 #[.pointer (some ⟨Bs,0,none⟩)] encK (Kq w.heap.size b) (fun ys=>ys=(kdL xs hl hk).reverse) (fun pre=>∃rest,(kdL xs hl hk).reverse=pre++rest) xs.length w:=fun l J Jx W hW _ _ hY h0=>by
 have hc':=(hW.cell (p:=⟨Bs,0,none⟩) hBs).trans hc;have hI2:=hI.below hW;obtain⟨ao,cap,rfl,h|⟨g,off,rfl,hm,hg,hcs⟩⟩:=hI2
 ·subst h;exact(backward0_in F n h7 hro l Bs cap ao J W hc' h0).mono fun e W' ⟨he,hj⟩=>⟨he,.inl ⟨_,rfl,hj⟩⟩
 ·have hg0:g<w.heap.size\/xs=[]:=by
   obtain⟨ao',cap',e',h' | ⟨g',off',e2,hm',hg',_⟩⟩:=hI
   ·exact .inr h'
   ·cases e';cases e2;exact .inl hg'
  rcases hg0 with hg0|rfl
  ·have hlen:=kdL_len (hl:=hl) (hk:=hk);rw[<-hlen] at hc' hY;refine(backward1_in F n h7 hro hn l Bs w.heap.size b g off cap (kdL xs hl hk) (by rw[hlen];exact hl) (fun j h=>by rw[kdL_at j h]) hg0 (by omega) hBs hBb J Jx hY W hc' (fun j h=>?_) h0).mono ?_
   ·rw[kdL_at j h];exact hcs j _ (List.getElem?_eq_getElem _)
   ·rintro e W' ⟨he,⟨ys,rfl,hj⟩|⟨pre,⟨k,hk',rfl⟩,hj⟩⟩
    ·exact⟨he,.inl ⟨_,by unfold cameL;rw[List.take_of_length_le (by simp)],hj⟩⟩
    ·exact⟨he,.inr ⟨_,⟨_,(List.take_append_drop k _).symm⟩,hj⟩⟩
  ·exact(backward0_in F n h7 hro l Bs cap _ J W hc' h0).mono fun e W' ⟨he,hj⟩=>⟨he,.inl ⟨_,rfl,hj⟩⟩
end Go.Proofs.YtpdfdhkdfkhfkaaDoor

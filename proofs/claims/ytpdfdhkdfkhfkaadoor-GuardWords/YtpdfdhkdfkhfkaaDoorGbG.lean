import Derived.Test.YtpdfdhkdfkhfkaaDoorRowK20
import Derived.Deep.Slices
import Derived.SliceStrings
set_option maxRecDepth 100000
set_option maxHeartbeats 8000000
namespace Go.Proofs.YtpdfdhkdfkhfkaaDoor
open Go.ChangeShapes Go.WideShapes Go.ChangeAt Go.RowKit
set_option linter.unusedVariables false
set_option linter.unusedSimpArgs false
theorem cellsRaw:Tryd.prog.cellsOf 44=3:=by kernel_rfl
def Wgh {H:Type}(d:DataW H)(n:Nat):Prop:=(d=.nil/\n=0)\/∃es sp,d=.slice es sp/\n<=es.length+sp.length
theorem lsv_of {W:World}{a:Addr}{len cap:Nat}{vs:List Value}(hl:len<=vs.length)(hc:∀ i (h:i<vs.length),W.cell? (a.add i)=some vs[i])(hb:0<len->a.block<W.heap.size):Lsv W (some a) (vs.take len):=by
 by_cases h0:len=0
 ·exact .inl (by simp[h0])
 ·obtain⟨b,off,spot⟩:=a;have h1:=hc 0 (by omega);have hspot:spot=none:=by simpa [Addr.add] using World.cell?_spot h1
  subst hspot;refine .inr ⟨b,off,rfl,hb (by omega),fun j x hj=>?_⟩;rw[List.getElem?_take] at hj;split at hj
  ·have hj2:=List.getElem?_eq_some_iff.1 hj;obtain⟨h2,h3⟩:=hj2
   have:=hc j h2
   rw[Addr.add_mid] at this;rw[this,h3]
  ·cases hj
theorem opn_ints {H:Type}{enc:TypeId × Value->H}{W:World}{k:IntKind}{t e:TypeId}{fuel:Nat}{u:Value}{x:DataW H × List MemPlace}(ht:Tryd.prog.underlying t=some (.slice e))(he:Tryd.prog.underlying e=some (.int k))(hc:Tryd.prog.cellsOf e=1)
  (h:DataW.trod enc Tryd.prog W 0 (fun _=>true) true fuel t [u]=some x) (hlt:∀ q ∈ x.2,q.block<W.heap.size) :
  ∃(ao:Option Addr) (cap:Nat) (zs:List Int),u=.slice ao zs.length cap/\Lsv W ao (zs.map (.int k ·))/\(∀ n ∈ zs,(Lit.int k n).wf=true)/\zs.length<=maxLen/\Wgh x.1 zs.length:=by
 rcases open_ints ht he hc h with ⟨hcs,hx⟩|⟨a,len,cap,zs,hcs,_,hl,hm,hz,hx,hcell,hwz⟩
 ·simp at hcs;exact⟨none,0,[],hcs,.inl rfl,by simp,by unfold maxLen;simp,.inl ⟨by rw[hx],rfl⟩⟩
 ·simp at hcs;simp only[if_true] at hz;have hlz:(zs.take len).length=len:=by rw[List.length_take];omega
  refine⟨some a,cap,zs.take len,by rw[hlz];exact hcs,?_,fun n hn=>hwz n (List.mem_of_mem_take hn),by rw[hlz];exact Nat.le_trans hl hm,.inr ⟨_,_,by rw[hx],by simp[lits]<;>omega⟩⟩;rw[List.map_take];refine lsv_of (cap:=cap) (by simp;omega) (fun i hi=>?_) (fun h0=>?_)
  ·have hi':i<zs.length:=by simpa using hi
   have:=hcell i hi'
   rw[this];simp[List.getD_eq_getElem?_getD,List.getElem?_eq_getElem hi']
  ·have:=hlt (.cell a.block a.off) (by
    rw[hx];exact MemPlace.mem_row.2 ⟨0,by omega,by simp⟩)
   exact this
theorem open_isl {H:Type}{enc:TypeId × Value->H}{W:World}{a:Option Addr}{n c:Nat}{d:DataW H}{ps:List MemPlace}(h:DataW.Trod enc Tryd.prog W 0 (fun _=>true) true 23 (.slice a n c) d ps)(hlt:∀ q ∈ ps,q.block<W.heap.size) :
  ∃(ao:Option Addr) (cap:Nat) (zs:List Int),(.slice a n c:Value)=.slice ao zs.length cap/\Lsv W ao (isV zs)/\(∀ u ∈ zs,-9223372036854775808<=u/\u<=9223372036854775807)/\zs.length<=maxLen/\Wgh d zs.length:=by
 obtain⟨fuel,hf⟩:=h;obtain⟨ao,cap,zs,h1,h2,h3,h4,h5⟩:=opn_ints Tryd.underlying23 Tryd.underlying3 cellsInt hf hlt;exact⟨ao,cap,zs,h1,h2,fun u hu=>bd_i64 (h3 u hu),h4,h5⟩
theorem addp (b off k:Nat):(⟨b,off,none⟩:Addr).add k=⟨b,off+k,none⟩:=Addr.add_mid ..
theorem open_raws {H:Type}{enc:TypeId × Value->H}{W:World}{a:Option Addr}{n c:Nat}{d:DataW H}{ps:List MemPlace}(h:DataW.Trod enc Tryd.prog W 0 (fun _=>true) true 36 (.slice a n c) d ps)(hlt:∀ q ∈ ps,q.block<W.heap.size) :
  ∃(ao:Option Addr) (cap:Nat) (zs:List Rw),(.slice a n c:Value)=.slice ao zs.length cap/\RawW W ao zs/\(∀ r ∈ zs,r.Ok)/\zs.length<=maxLen/\Wgh d zs.length:=by
 obtain⟨fuel,hf⟩:=h;rcases Go.Deep.open_slice Tryd.underlying36 hf with ⟨hcs,hx⟩|⟨a',len',cap',m,n',D,Pl,hcs,_,hl,hm,hmm,hx,hel⟩
 ·simp[Value.cells] at hcs;obtain⟨rfl,rfl,rfl⟩:=hcs;simp only[Prod.mk.injEq] at hx;exact⟨none,0,[],rfl,.inl rfl,by simp,by simp,.inl ⟨hx.1,rfl⟩⟩
 ·simp[Value.cells] at hcs;obtain⟨rfl,rfl,rfl⟩:=hcs;simp only[Prod.mk.injEq] at hx;obtain⟨rfl,rfl⟩:=hx;simp only[if_true] at hmm;subst hmm;obtain⟨b,off,spot⟩:=a';have each:∀ i,i<n->∃r:Rw,spot=none/\b<W.heap.size/\(W.cell? ⟨b,off+i*3,none⟩=some (.int .i64 r.o)/\W.cell? ⟨b,off+i*3+1,none⟩=some (.int .i64 r.a)/\W.cell? ⟨b,off+i*3+2,none⟩=some (.int .i64 r.b))/\r.Ok:=by
   intro i hi;obtain⟨cs',h1,h2⟩:=hel i (by omega);rw[cellsRaw] at h1;obtain⟨_,hlen,hcell⟩:=World.cells?_some h1;obtain⟨xs,k,hk,hxy,_,hxl,hff⟩:=DataW.trod_struct Tryd.underlying44 h2
   match xs,hxl,cs',hlen with
   | [y0,y1,y2],_,[u0,u1,u2],_ =>
    have g0:=hff 0 _ rfl;have g1:=hff 1 _ rfl;have g2:=hff 2 _ rfl;simp[cellsInt] at g0 g1 g2;obtain⟨z0,e0,_,w0⟩:=DataW.trod_int Tryd.underlying3 g0;obtain⟨z1,e1,_,w1⟩:=DataW.trod_int Tryd.underlying3 g1;obtain⟨z2,e2,_,w2⟩:=DataW.trod_int Tryd.underlying3 g2;simp at e0 e1 e2;subst e0 e1 e2;have c0:=hcell 0 (by omega);have c1:=hcell 1 (by omega);have c2:=hcell 2 (by omega);have hspot:spot=none:=by
     obtain⟨cs0,k1,k2⟩:=hel 0 (by omega);rw[cellsRaw] at k1;obtain⟨_,klen,kcell⟩:=World.cells?_some k1;have k3:=kcell 0 (by omega);rw[List.getElem?_eq_getElem (by omega)] at k3;simpa [Addr.add] using World.cell?_spot k3
    subst hspot;simp only[addp] at c0 c1 c2;have hbl:b<W.heap.size:=hlt (.cell b off) (List.mem_append_left _ (MemPlace.mem_row.2 ⟨0,by rw[cellsRaw];omega,by simp⟩));have b0:=bd_i64 w0;have b1:=bd_i64 w1;have b2:=bd_i64 w2;exact⟨⟨z0,z1,z2⟩,rfl,hbl,⟨by simpa using c0,by simpa using c1,by simpa using c2⟩,⟨b0.1,b0.2,b1.1,b1.2,b2.1,b2.2⟩⟩
  have hlen:((List.range n).map fun i=>if h:i<n then (each i h).choose else ⟨0,0,0⟩).length=n:=by simp
  refine⟨some ⟨b,off,spot⟩,m,(List.range n).map fun i=>if h:i<n then (each i h).choose else ⟨0,0,0⟩,by rw[hlen],?_,?_,by rw[hlen];exact Nat.le_trans hl hm,.inr ⟨_,_,rfl,by simp<;>omega⟩⟩
  ·by_cases h0:n=0
   ·subst h0;exact .inl rfl
   ·have s0:=(each 0 (by omega)).choose_spec;refine .inr ⟨b,off,by rw[s0.1],s0.2.1,fun k hk=>?_⟩;have hk':k<n:=by simpa using hk
    simp only[List.getElem_map,List.getElem_range,dif_pos hk'];exact(each k hk').choose_spec.2.2.1
  ·intro r hr;obtain⟨i,hi,rfl⟩:=List.mem_map.1 hr;have hi':=List.mem_range.1 hi;simp only[dif_pos hi'];exact(each i hi').choose_spec.2.2.2
end Go.Proofs.YtpdfdhkdfkhfkaaDoor

import Derived.Test.YtpdfdhkdfkhfkaaDoorGdB
import Derived.Laws.CopyOwn
import Derived.Laws.Bits64b
import Derived.Deep.RegionLaw
set_option maxRecDepth 100000
set_option maxHeartbeats 8000000
namespace Go.Proofs.YtpdfdhkdfkhfkaaDoor
open Go.ChangeShapes Go.WideShapes Go.ChangeAt Go.RowKit
set_option linter.unusedVariables false
set_option linter.unusedSimpArgs false
def InG (w:World)(m:Nat)(v:Value)(xs:List Nat):Prop :=
 ∃(ao:Option Addr) (cap:Nat),v=.slice ao xs.length cap/\(xs=[]\/∃b off,ao=some ⟨b,off,none⟩/\m<=b/\b<w.heap.size/\∀ (j x:Nat),xs[j]?=some x->w.cell? ⟨b,off+j,none⟩=some (.int .i64 (x:Nat)))
theorem InG.below {w w':World}{m:Nat}{v:Value}{xs:List Nat}(h:InG w m v xs)(B:Below w.heap.size w w'):InG w' m v xs:=by
 obtain⟨ao,cap,hv,h|⟨b,off,h1,h2,h3,h4⟩⟩:=h
 ·exact⟨ao,cap,hv,.inl h⟩
 ·exact⟨ao,cap,hv,.inr ⟨b,off,h1,h2,Nat.lt_of_lt_of_le h3 B.size,fun j x hx=>(B.cell (p:=⟨b,off+j,none⟩) h3).trans (h4 j x hx)⟩⟩
theorem and32g (n:Nat)(hn:n<=100000):bits BinOp.and IntKind.u64 (n:Int) 4294967295=n:=by
 have h:=bits_and_u64_nat n 4294967295 (by omega) (by omega);have h2:n &&& 4294967295=n:=by
  have:=Nat.and_two_pow_sub_one_eq_mod n 32
  rw[show (2 ^ 32-1:Nat)=4294967295 from rfl] at this;rw[this];exact Nat.mod_eq_of_lt (by omega)
 rw[h2] at h;exact h
theorem mul64_cg (n:Nat)(hn:n<=100000)(w:World):Calls Tryd.prog 74 #[.int .u64 1,.int .u64 (n:Nat)] w fun x w'=>x=.returned (.tuple #[.int .u64 0,.int .u64 (n:Nat)])/\w'=w:=by
 have a1:bits BinOp.and IntKind.u64 1 4294967295=1:=and32g 1 (by omega);have a0:bits BinOp.and IntKind.u64 0 4294967295=0:=and32g 0 (by omega);have an:=and32g n hn;have d0:(n:Int) / 4294967296=0:=by omega
 go_enter Tryd.func74,Tryd.ntmps74;go_wp2;exact bodyPost_ret (v:=.tuple #[.int .u64 0,.int .u64 (n:Nat)]) (by simp[results,Tryd.results74,go_sem]) rfl ⟨rfl,rfl⟩
theorem mul_cg (n:Nat)(hn:n<=100000)(w:World):Calls Tryd.prog 72 #[.int .u64 1,.int .u64 (n:Nat)] w fun x w'=>x=.returned (.tuple #[.int .u64 0,.int .u64 (n:Nat)])/\w'=w:=by
 have m1:=fun w=>mul64_cg n hn w;go_enter Tryd.func72,Tryd.ntmps72;go_wp2_with fail;refine(m1 _).mono ?_;rintro z w1 ⟨rfl,rfl⟩;go_wp2;exact bodyPost_ret (v:=.tuple #[.int .u64 0,.int .u64 (n:Nat)]) (by simp[results,Tryd.results72,go_sem]) rfl ⟨rfl,rfl⟩
theorem infoInt3g:(Tryd.prog.info? 3).map (fun i=>(i.zero,i.size,i.bytes))=some (some (.int .i64 0),1,8):=by kernel_rfl
theorem lay_atg {cur cs:List Value}{k:Nat}{v:Value}(hc:∀ j,j<k->cur[j]?=some v)(hs:∀ j,j<cs.length->cs[j]?=some v)(hk:k+cs.length<=cur.length):∀ j,j<k+cs.length->(splice cur k cs)[j]?=some v:=by
 intro j hj;unfold splice;rcases Nat.lt_or_ge j k with h1|h1
 ·rw[List.getElem?_append_left (by simp;omega),List.getElem?_take_of_lt h1];exact hc j h1
 ·have hl:(cur.take k).length=k:=by simp;omega
  rw[List.getElem?_append_right (by omega),hl,List.getElem?_append_left (by omega)];exact hs (j-k) (by omega)
theorem run_spliceg {P:Program}{w:World}(dT sT ty elem:TypeId)(hu:P.underlying dT=some (.slice elem))(hsz:(P.info? elem).map (·.size)=some 1)
  (dp sp:Option Addr) (dLen dCap sLen sCap:Nat) (g off:Nat) (cur:List Value) (t:TypeId) (hg:w.heap[g]?=some (.cells cur.toArray t (0,0))) (cs:List Value) (hn:cs.length=Nat.min sLen dLen)
  (hpos:0<cs.length->dp=some ⟨g,off,none⟩/\∃ad,sp=some ad/\∀ j v,cs[j]?=some v->w.cell? (ad.add j)=some v)
  (hfit:off+cs.length<=cur.length) (h1:∀ v ∈ cs,v.oneCell'=true) :
  ∃w',(Builtin.copy_ #[dT,sT] ty #[.slice dp dLen dCap,.slice sp sLen sCap]).run P w=.ok (goInt cs.length) w'/\w'.heap[g]?=some (.cells (splice cur off cs).toArray t (0,0))/\Below g w w':=by
 by_cases h0:cs.length=0
 ·obtain rfl:cs=[]:=List.eq_nil_of_length_eq_zero h0;have hrun:=run_copy_none (P:=P) w dT sT ty elem dp sp dLen dCap sLen sCap hu hsz (by simpa using hn.symm);exact⟨w,hrun,by simpa [splice] using hg,Below.refl _ _⟩
 ·obtain⟨rfl,ad,rfl,hsrc⟩:=hpos (by omega);have hrun:=run_copy_row (P:=P) w dT sT ty elem g off dLen dCap ad sLen sCap cur.toArray t cs hu hsz hg hn hsrc (by simpa using hfit) h1;exact⟨_,hrun,by simpa [splice] using setRow_heap w g _ _ t _ hg,below_setRow (Below.refl _ _) (Nat.le_refl _) _⟩
theorem repeat_cg (w:World)(b off c n:Nat)(hn:n<=100000)(hb:b<w.heap.size)(hc:w.cell? ⟨b,off,none⟩=some (.int .i64 3)) :
  Calls Tryd.prog 71 #[.slice (some ⟨b,off,none⟩) 1 c,.int .i64 (n:Nat)] w fun x w'=>∃v,x=.returned v/\InG w' w.heap.size v (List.replicate n 3)/\Below w.heap.size w w':=by
 obtain⟨ii,hii,hzi0,hzi1,hzi2⟩:=info_parts infoInt3g;have mk:∀ w:World,(Instr.makeSlice 23 (.int .i64 (n:Nat)) (.int .i64 (n:Nat))).run Tryd.prog w=.ok (.slice (some ⟨w.heap.size,0,none⟩) n n) (w.alloc (.cells (madeCells (Value.int .i64 0).cells (n*1)) 3)):=fun w=>by
  have:=run_make (P:=Tryd.prog) w 23 3 ii _ Tryd.underlying23 hii hzi0 .i64 .i64 n n (by omega) (Int.le_refl _) (by rw[hzi2];omega) (by omega)
  rw[hzi1] at this;simpa only[Int.toNat_natCast] using this
 obtain⟨X,hX,hXl⟩:∃X:List Value,madeCells (Value.int .i64 0).cells (n*1)=X.toArray/\X.length=n:=⟨(madeCells (Value.int .i64 0).cells (n*1)).toList,by simp,by simp[madeCells,Value.cells]⟩
 rw[hX] at mk;have B0:Below w.heap.size w (w.alloc (.cells X.toArray 3)):=(Below.refl _ w).alloc (Nat.le_refl _) _;have E0:(w.alloc (.cells X.toArray 3)).heap[w.heap.size]?=some (.cells X.toArray 3 (0,0)):=heap_alloc_new w _;have c0:=(B0.cell (p:=⟨b,off,none⟩) hb).trans hc;have m1:=fun w=>mul_cg n hn w;clear hX hc;go_enter Tryd.func71,Tryd.ntmps71;go_wp2_with fail;refine(m1 _).mono ?_;rintro z w1 ⟨rfl,rfl⟩;go_upto_region 7 with fail;generalize w1.alloc (.cells X.toArray 3)=w0 at *;obtain⟨g,hg⟩:∃g,g=w1.heap.size:=⟨_,rfl⟩
 rw[<-hg] at E0 ⊢;have HG:Hid (g=w1.heap.size):=hg;have hgs:(Tryd.prog.info? 3).map (·.size)=some 1:=by rw[hii];simp[hzi1]
 obtain⟨cs,hcs⟩:∃cs,cs=List.replicate (min 1 n) (Value.int .i64 3):=⟨_,rfl⟩
 have hcl:cs.length=min 1 n:=by rw[hcs];simp
 have hcv:∀ j v,cs[j]?=some v->j=0/\v=Value.int .i64 3:=by
  intro j v hv;rw[hcs,List.getElem?_replicate] at hv;split at hv
  ·injection hv with hv
   exact⟨by omega,hv.symm⟩
  ·cases hv
 have hca:∀ j,j<cs.length->cs[j]?=some (Value.int .i64 3):=by
  intro j hj;rw[hcs,List.getElem?_replicate];rw[hcl] at hj;rw[if_pos hj]
 clear hcs hg;obtain⟨w2,hr2,hg2,hb2⟩:=run_spliceg (P:=Tryd.prog) (w:=w0) 23 23 3 3 Tryd.underlying23 hgs (some ⟨g,0,none⟩) (some ⟨b,off,none⟩) n n 1 c g 0 X 3 E0 cs (by rw[hcl]) (fun _=>⟨rfl,_,rfl,fun j v hv=>by obtain⟨rfl,rfl⟩:=hcv j v hv;exact c0⟩) (by omega) (fun v hv=>by obtain⟨j,hj,h2⟩:=List.mem_iff_getElem.1 hv;rw[(hcv j v (by rw[List.getElem?_eq_getElem hj,h2])).2];rfl);have hlen2:(splice X 0 cs).length=n:=by rw[length_splice _ _ _ (by omega)];exact hXl
 have hat2:Hid (∀ j,j<0+cs.length->(splice X 0 cs)[j]?=some (Value.int .i64 3)):=lay_atg (fun j hj=>absurd hj (Nat.not_lt_zero _)) hca (by omega);generalize splice X 0 cs=Y at *;have hgl:Hid (g=w1.heap.size):=HG;have B2:Below w1.heap.size w1 w2:=B0.trans (by rw[<-HG.out];exact hb2);have hk1:Hid (min 1 n<=n/\(0<n->0<min 1 n)):=⟨by omega,by omega⟩
 rw[hcl,Nat.zero_add] at hat2;have hgi:goInt cs.length=.int .i64 (min 1 n:Nat):=by rw[hcl];rfl
 rw[hgi] at hr2;generalize min 1 n=k1 at *;have h2:=lt_of_block hg2;clear E0 c0 hca hcv B0 hb2 hgi;go_wp2;go_loopw [8] (fun v wr=>∃(k:Nat) (Y:List Value),k<=n/\v=.int .i64 (k:Nat)/\(0<n->0<k)/\Y.length=n/\Hid (∀ j,j<k->Y[j]?=some (Value.int .i64 3))/\wr.heap[g]?=some (.cells Y.toArray 3 (0,0))/\Below w1.heap.size w1 wr) (fun v _=>n-(intOf v).toNat)
 case atStart=>exact⟨k1,Y,hk1.out.1,rfl,hk1.out.2,hlen2,hat2,hg2,B2⟩
 case round =>
  clear hk1 hlen2 hat2 hg2 B2 hr2 hcl h2;obtain⟨k,Y,hk,rfl,hk0,hyl,hat,E1,B1⟩:=hrel;by_cases hlt:k<n
  ·have hkI:(k:Int)<(n:Int):=by omega
   have bdT:Below wr.heap.size wr wr.drew:=⟨rfl,rfl,rfl,Nat.le_refl _,fun _ _=>rfl⟩
   have Ed:wr.drew.heap[g]?=some (.cells Y.toArray 3 (0,0)):=E1;obtain⟨ds,hds⟩:∃ds,ds=List.replicate (min k (n-k)) (Value.int .i64 3):=⟨_,rfl⟩
   have hdl:ds.length=min k (n-k):=by rw[hds];simp
   have hda:∀ j,j<ds.length->ds[j]?=some (Value.int .i64 3):=by
    intro j hj;rw[hds,List.getElem?_replicate];rw[hdl] at hj;rw[if_pos hj]
   have hdv:∀ j v,ds[j]?=some v->j<k/\v=Value.int .i64 3:=by
    intro j v hv;rw[hds,List.getElem?_replicate] at hv;split at hv
    ·injection hv with hv
     exact⟨by omega,hv.symm⟩
    ·cases hv
   clear hds;obtain⟨w3,hr3,hg3,hb3⟩:=run_spliceg (P:=Tryd.prog) (w:=wr.drew) 23 23 3 3 Tryd.underlying23 hgs (some ⟨g,k,none⟩) (some ⟨g,0,none⟩) (n-k) (n-k) k n g k Y 3 Ed ds (by rw[hdl]) (fun _=>⟨rfl,_,rfl,fun j v hv=>by
    obtain⟨hj,rfl⟩:=hdv j v hv;have ea:(Addr.add ⟨g,0,none⟩ j)=⟨g,j,none⟩:=by simp[Addr.add];exact fun h=>h.symm
    rw[ea,cell_of_row _ _ _ _ _ _ Ed];simpa using hat.out j hj⟩) (by omega) (fun v hv=>by obtain⟨j,hj,h2⟩:=List.mem_iff_getElem.1 hv;rw[(hdv j v (by rw[List.getElem?_eq_getElem hj,h2])).2];rfl)
   have hlen3:(splice Y k ds).length=n:=by rw[length_splice _ _ _ (by omega)];exact hyl
   have hat3:Hid (∀ j,j<k+ds.length->(splice Y k ds)[j]?=some (Value.int .i64 3)):=lay_atg hat.out hda (by omega);generalize splice Y k ds=Y3 at *;have B3:Below w1.heap.size w1 w3:=(B1.trans (bdT.mono B1.size)).trans (by rw[<-HG.out];exact hb3);rw[hdl] at hat3;have hgi:goInt ds.length=.int .i64 (min k (n-k):Nat):=by rw[hdl];rfl
   rw[hgi] at hr3;have hpos:0<min k (n-k):=by have:=hk0 (by omega);omega
   have hle:k+min k (n-k)<=n:=by omega
   generalize min k (n-k)=d at *;clear hat hda hdv hdl hgi E1 hyl Ed;go_wp2_with fail;go_region;go_wp2;go_roundw
   case rel=>exact⟨k+d,Y3,hle,by simp,fun _=>by omega,hlen3,hat3,hg3,B3⟩
   case measure=>simp[intOf];omega
  ·have hkI:¬(k:Int)<(n:Int):=by omega
   have HR:Hid (∃v,Ending.returned (.slice (some ⟨g,0,none⟩) n n)=Ending.returned v/\InG wr w1.heap.size v (List.replicate n 3)/\Below w1.heap.size w1 wr):=by
    refine⟨_,rfl,⟨_,n,by simp,.inr ⟨g,0,rfl,by show w1.heap.size<=g;rw[HG.out];exact Nat.le_refl _,lt_of_block E1,fun j x hx=>?_⟩⟩,B1⟩;rw[Nat.zero_add,cell_of_row _ _ _ _ _ _ E1];rw[List.getElem?_replicate] at hx;split at hx
    ·injection hx with hx
     subst hx;simpa using hat.out j (by omega)
    ·cases hx
   clear hat E1 hyl B1;go_wp2;go_ret;exact HR.out
end Go.Proofs.YtpdfdhkdfkhfkaaDoor

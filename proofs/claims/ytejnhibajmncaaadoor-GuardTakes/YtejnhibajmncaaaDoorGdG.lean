import Derived.Test.YtejnhibajmncaaaDoorGdB
set_option maxRecDepth 100000
set_option maxHeartbeats 8000000
namespace Go.Proofs.YtejnhibajmncaaaDoor
open Go.ChangeShapes Go.WideShapes Go.ChangeAt Go.RowKit
set_option linter.unusedVariables false
set_option linter.unusedSimpArgs false
def InG (w:World)(m:Nat)(v:Value)(xs:List Nat):Prop :=
 ∃(ao:Option Addr) (cap:Nat),v=.slice ao xs.length cap/\(xs=[]\/∃b off,ao=some ⟨b,off,none⟩/\m<=b/\b<w.heap.size/\∀ (j x:Nat),xs[j]?=some x->w.cell? ⟨b,off+j,none⟩=some (.int .i64 (x:Nat)))
theorem InG.below {w w':World}{m:Nat}{v:Value}{xs:List Nat}(h:InG w m v xs)(B:Below w.heap.size w w'):InG w' m v xs:=by
 obtain⟨ao,cap,hv,h|⟨b,off,h1,h2,h3,h4⟩⟩:=h
 ·exact⟨ao,cap,hv,.inl h⟩
 ·exact⟨ao,cap,hv,.inr ⟨b,off,h1,h2,Nat.lt_of_lt_of_le h3 B.size,fun j x hx=>(B.cell (p:=⟨b,off+j,none⟩) h3).trans (h4 j x hx)⟩⟩
theorem and32g (n:Nat)(hn:n<=100000):bits BinOp.and IntKind.u64 (n:Int) 4294967295=n:=by
 have h:=bits_and_u64_nat n 4294967295 (by omega) (by omega);have h2:n &&& 4294967295=n:=by
  have:=Nat.and_two_pow_sub_one_eq_mod n 32
  rw[show (2 ^ 32-1:Nat)=4294967295 from rfl] at this;rw[this];exact Nat.mod_eq_of_lt (by omega)
 rw[h2] at h;exact h
theorem mul64_cg (n:Nat)(hn:n<=100000)(w:World):Calls Tryd.prog 87 #[.int .u64 1,.int .u64 (n:Nat)] w fun x w'=>x=.returned (.tuple #[.int .u64 0,.int .u64 (n:Nat)])/\w'=w:=by
 have a1:bits BinOp.and IntKind.u64 1 4294967295=1:=and32g 1 (by omega);have a0:bits BinOp.and IntKind.u64 0 4294967295=0:=and32g 0 (by omega);have an:=and32g n hn;have d0:(n:Int) / 4294967296=0:=by omega
 go_enter Tryd.func87,Tryd.ntmps87;go_wp2;exact bodyPost_ret (v:=.tuple #[.int .u64 0,.int .u64 (n:Nat)]) (by simp[results,Tryd.results87,go_sem]) rfl ⟨rfl,rfl⟩
theorem mul_cg (n:Nat)(hn:n<=100000)(w:World):Calls Tryd.prog 85 #[.int .u64 1,.int .u64 (n:Nat)] w fun x w'=>x=.returned (.tuple #[.int .u64 0,.int .u64 (n:Nat)])/\w'=w:=by
 have m1:=fun w=>mul64_cg n hn w;go_enter Tryd.func85,Tryd.ntmps85;go_wp2_with fail;refine(m1 _).mono ?_;rintro z w1 ⟨rfl,rfl⟩;go_wp2;exact bodyPost_ret (v:=.tuple #[.int .u64 0,.int .u64 (n:Nat)]) (by simp[results,Tryd.results85,go_sem]) rfl ⟨rfl,rfl⟩
theorem infoInt3g:(Tryd.prog.info? 3).map (fun i=>(i.zero,i.size,i.bytes))=some (some (.int .i64 0),1,8):=by kernel_rfl
theorem lay_atg {cur cs:List Value}{k:Nat}{v:Value}(hc:∀ j,j<k->cur[j]?=some v)(hs:∀ j,j<cs.length->cs[j]?=some v)(hk:k+cs.length<=cur.length):∀ j,j<k+cs.length->(splice cur k cs)[j]?=some v:=by
 intro j hj;unfold splice;rcases Nat.lt_or_ge j k with h1|h1
 ·rw[List.getElem?_append_left (by simp;omega),List.getElem?_take_of_lt h1];exact hc j h1
 ·have hl:(cur.take k).length=k:=by simp;omega
  rw[List.getElem?_append_right (by omega),hl,List.getElem?_append_left (by omega)];exact hs (j-k) (by omega)
theorem run_spliceg {P:Program}{w:World}(dT sT ty elem:TypeId)(hu:P.underlying dT=some (.slice elem))(hsz:(P.info? elem).map (·.size)=some 1)
  (dp sp:Option Addr) (dLen dCap sLen sCap:Nat) (g off:Nat) (cur:List Value) (t:TypeId) (hg:w.heap[g]?=some (.cells cur.toArray t (0,0))) (cs:List Value) (hn:cs.length=Nat.min sLen dLen)
  (hpos:0<cs.length->dp=some ⟨g,off,none⟩/\∃ad,sp=some ad/\∀ j v,cs[j]?=some v->w.cell? (ad.add j)=some v)
  (hfit:off+cs.length<=cur.length) (h1:∀ v ∈ cs,v.oneCell'=true) :
  ∃w',(Builtin.copy_ #[dT,sT] ty #[.slice dp dLen dCap,.slice sp sLen sCap]).run P w=.ok (goInt cs.length) w'/\w'.heap[g]?=some (.cells (splice cur off cs).toArray t (0,0))/\Below g w w':=by
 by_cases h0:cs.length=0
 ·obtain rfl:cs=[]:=List.eq_nil_of_length_eq_zero h0;have hrun:=run_copy_none (P:=P) w dT sT ty elem dp sp dLen dCap sLen sCap hu hsz (by simpa using hn.symm);exact⟨w,hrun,by simpa [splice] using hg,Below.refl _ _⟩
 ·obtain⟨rfl,ad,rfl,hsrc⟩:=hpos (by omega);have hrun:=run_copy_row (P:=P) w dT sT ty elem g off dLen dCap ad sLen sCap cur.toArray t cs hu hsz hg hn hsrc (by simpa using hfit) h1;exact⟨_,hrun,by simpa [splice] using setRow_heap w g _ _ t _ hg,below_setRow (Below.refl _ _) (Nat.le_refl _) _⟩
theorem repeat_cg (w:World)(b off c n:Nat)(hn:n<=100000)(hb:b<w.heap.size)(hc:w.cell? ⟨b,off,none⟩=some (.int .i64 3)) :
  Calls Tryd.prog 84 #[.slice (some ⟨b,off,none⟩) 1 c,.int .i64 (n:Nat)] w fun x w'=>∃v,x=.returned v/\InG w' w.heap.size v (List.replicate n 3)/\Below w.heap.size w w':=by
 obtain⟨ii,hii,hzi0,hzi1,hzi2⟩:=info_parts infoInt3g;have mk:∀ w:World,(Instr.makeSlice 25 (.int .i64 (n:Nat)) (.int .i64 (n:Nat))).run Tryd.prog w=.ok (.slice (some ⟨w.heap.size,0,none⟩) n n) (w.alloc (.cells (madeCells (Value.int .i64 0).cells (n*1)) 3)):=fun w=>by
  have:=run_make (P:=Tryd.prog) w 25 3 ii _ Tryd.underlying25 hii hzi0 .i64 .i64 n n (by omega) (Int.le_refl _) (by rw[hzi2];omega) (by omega)
  rw[hzi1] at this;simpa only[Int.toNat_natCast] using this
 obtain⟨X,hX,hXl⟩:∃X:List Value,madeCells (Value.int .i64 0).cells (n*1)=X.toArray/\X.length=n:=⟨(madeCells (Value.int .i64 0).cells (n*1)).toList,by simp,by simp[madeCells,Value.cells]⟩
 rw[hX] at mk;have B0:Below w.heap.size w (w.alloc (.cells X.toArray 3)):=(Below.refl _ w).alloc (Nat.le_refl _) _;have E0:(w.alloc (.cells X.toArray 3)).heap[w.heap.size]?=some (.cells X.toArray 3 (0,0)):=heap_alloc_new w _;have c0:=(B0.cell (p:=⟨b,off,none⟩) hb).trans hc;have m1:=fun w=>mul_cg n hn w;clear hX hc;go_enter Tryd.func84,Tryd.ntmps84;go_wp2_with fail;refine(m1 _).mono ?_;rintro z w1 ⟨rfl,rfl⟩;go_upto_region 7 with fail;generalize w1.alloc (.cells X.toArray 3)=w0 at *;obtain⟨g,hg⟩:∃g,g=w1.heap.size:=⟨_,rfl⟩
 rw[<-hg] at E0 ⊢;have HG:Hid (g=w1.heap.size):=hg;have hgs:(Tryd.prog.info? 3).map (·.size)=some 1:=by rw[hii];simp[hzi1]
 obtain⟨cs,hcs⟩:∃cs,cs=List.replicate (min 1 n) (Value.int .i64 3):=⟨_,rfl⟩
 have hcl:cs.length=min 1 n:=by rw[hcs];simp
 have hcv:∀ j v,cs[j]?=some v->j=0/\v=Value.int .i64 3:=by
  intro j v hv;rw[hcs,List.getElem?_replicate] at hv;split at hv
  ·injection hv with hv
   exact⟨by omega,hv.symm⟩
  ·cases hv
 have hca:∀ j,j<cs.length->cs[j]?=some (Value.int .i64 3):=by
  intro j hj;rw[hcs,List.getElem?_replicate];rw[hcl] at hj;rw[if_pos hj]
 clear hcs hg;obtain⟨w2,hr2,hg2,hb2⟩:=run_spliceg (P:=Tryd.prog) (w:=w0) 25 25 3 3 Tryd.underlying25 hgs (some ⟨g,0,none⟩) (some ⟨b,off,none⟩) n n 1 c g 0 X 3 E0 cs (by rw[hcl]) (fun _=>⟨rfl,_,rfl,fun j v hv=>by obtain⟨rfl,rfl⟩:=hcv j v hv;exact c0⟩) (by omega) (fun v hv=>by obtain⟨j,hj,h2⟩:=List.mem_iff_getElem.1 hv;rw[(hcv j v (by rw[List.getElem?_eq_getElem hj,h2])).2];rfl);have hlen2:(splice X 0 cs).length=n:=by rw[length_splice _ _ _ (by omega)];exact hXl
 have hat2:Hid (∀ j,j<0+cs.length->(splice X 0 cs)[j]?=some (Value.int .i64 3)):=lay_atg (fun j hj=>absurd hj (Nat.not_lt_zero _)) hca (by omega);generalize splice X 0 cs=Y at *;have hgl:Hid (g=w1.heap.size):=HG;have B2:Below w1.heap.size w1 w2:=B0.trans (by rw[<-HG.out];exact hb2);have hk1:Hid (min 1 n<=n/\(0<n->0<min 1 n)):=⟨by omega,by omega⟩
 rw[hcl,Nat.zero_add] at hat2;have hgi:goInt cs.length=.int .i64 (min 1 n:Nat):=by rw[hcl];rfl
 rw[hgi] at hr2;generalize min 1 n=k1 at *;have h2:=lt_of_block hg2;clear E0 c0 hca hcv B0 hb2 hgi;go_wp2;go_loopw [8] (fun v wr=>∃(k:Nat) (Y:List Value),k<=n/\v=.int .i64 (k:Nat)/\(0<n->0<k)/\Y.length=n/\Hid (∀ j,j<k->Y[j]?=some (Value.int .i64 3))/\wr.heap[g]?=some (.cells Y.toArray 3 (0,0))/\Below w1.heap.size w1 wr) (fun v _=>n-(intOf v).toNat)
 case atStart=>exact⟨k1,Y,hk1.out.1,rfl,hk1.out.2,hlen2,hat2,hg2,B2⟩
 case round =>
  clear hk1 hlen2 hat2 hg2 B2 hr2 hcl h2;obtain⟨k,Y,hk,rfl,hk0,hyl,hat,E1,B1⟩:=hrel;by_cases hlt:k<n
  ·have hkI:(k:Int)<(n:Int):=by omega
   have bdT:Below wr.heap.size wr wr.drew:=⟨rfl,rfl,rfl,Nat.le_refl _,fun _ _=>rfl⟩
   have Ed:wr.drew.heap[g]?=some (.cells Y.toArray 3 (0,0)):=E1;obtain⟨ds,hds⟩:∃ds,ds=List.replicate (min k (n-k)) (Value.int .i64 3):=⟨_,rfl⟩
   have hdl:ds.length=min k (n-k):=by rw[hds];simp
   have hda:∀ j,j<ds.length->ds[j]?=some (Value.int .i64 3):=by
    intro j hj;rw[hds,List.getElem?_replicate];rw[hdl] at hj;rw[if_pos hj]
   have hdv:∀ j v,ds[j]?=some v->j<k/\v=Value.int .i64 3:=by
    intro j v hv;rw[hds,List.getElem?_replicate] at hv;split at hv
    ·injection hv with hv
     exact⟨by omega,hv.symm⟩
    ·cases hv
   clear hds;obtain⟨w3,hr3,hg3,hb3⟩:=run_spliceg (P:=Tryd.prog) (w:=wr.drew) 25 25 3 3 Tryd.underlying25 hgs (some ⟨g,k,none⟩) (some ⟨g,0,none⟩) (n-k) (n-k) k n g k Y 3 Ed ds (by rw[hdl]) (fun _=>⟨rfl,_,rfl,fun j v hv=>by
    obtain⟨hj,rfl⟩:=hdv j v hv;have ea:(Addr.add ⟨g,0,none⟩ j)=⟨g,j,none⟩:=by simp[Addr.add];exact fun h=>h.symm
    rw[ea,cell_of_row _ _ _ _ _ _ Ed];simpa using hat.out j hj⟩) (by omega) (fun v hv=>by obtain⟨j,hj,h2⟩:=List.mem_iff_getElem.1 hv;rw[(hdv j v (by rw[List.getElem?_eq_getElem hj,h2])).2];rfl)
   have hlen3:(splice Y k ds).length=n:=by rw[length_splice _ _ _ (by omega)];exact hyl
   have hat3:Hid (∀ j,j<k+ds.length->(splice Y k ds)[j]?=some (Value.int .i64 3)):=lay_atg hat.out hda (by omega);generalize splice Y k ds=Y3 at *;have B3:Below w1.heap.size w1 w3:=(B1.trans (bdT.mono B1.size)).trans (by rw[<-HG.out];exact hb3);rw[hdl] at hat3;have hgi:goInt ds.length=.int .i64 (min k (n-k):Nat):=by rw[hdl];rfl
   rw[hgi] at hr3;have hpos:0<min k (n-k):=by have:=hk0 (by omega);omega
   have hle:k+min k (n-k)<=n:=by omega
   generalize min k (n-k)=d at *;clear hat hda hdv hdl hgi E1 hyl Ed;go_wp2_with fail;go_region;go_wp2;go_roundw
   case rel=>exact⟨k+d,Y3,hle,by simp,fun _=>by omega,hlen3,hat3,hg3,B3⟩
   case measure=>simp[intOf];omega
  ·have hkI:¬(k:Int)<(n:Int):=by omega
   have HR:Hid (∃v,Ending.returned (.slice (some ⟨g,0,none⟩) n n)=Ending.returned v/\InG wr w1.heap.size v (List.replicate n 3)/\Below w1.heap.size w1 wr):=by
    refine⟨_,rfl,⟨_,n,by simp,.inr ⟨g,0,rfl,by show w1.heap.size<=g;rw[HG.out];exact Nat.le_refl _,lt_of_block E1,fun j x hx=>?_⟩⟩,B1⟩;rw[Nat.zero_add,cell_of_row _ _ _ _ _ _ E1];rw[List.getElem?_replicate] at hx;split at hx
    ·injection hx with hx
     subst hx;simpa using hat.out j (by omega)
    ·cases hx
   clear hat E1 hyl B1;go_wp2;go_ret;exact HR.out
abbrev wdV (o a b:Nat):Value:=.agg #[.int .i64 (o:Nat),.int .i64 (a:Nat),.int .i64 (b:Nat)]
def EffOut (w:World)(p q:List Nat)(e:Ending)(w':World):Prop:=∃v u,e=.returned (.tuple #[v,u])/\InG w' w.heap.size v p/\InG w' w.heap.size u q/\Below w.heap.size w w'
theorem InG.mono {w:World}{m n:Nat}{v:Value}{xs:List Nat}(h:InG w m v xs)(hn:n<=m):InG w n v xs:=by
 obtain⟨ao,cap,hv,h|⟨b,off,h1,h2,h3,h4⟩⟩:=h
 ·exact⟨ao,cap,hv,.inl h⟩
 ·exact⟨ao,cap,hv,.inr ⟨b,off,h1,Nat.le_trans hn h2,h3,h4⟩⟩
theorem InG.nil (w:World)(m:Nat):InG w m (.slice none 0 0) []:=⟨none,0,rfl,.inl rfl⟩
theorem InG.one {w:World}{m g x:Nat}{t:TypeId}(h:w.heap[g]?=some (.cells #[.int .i64 (x:Nat)] t (0,0)))(hm:m<=g):InG w m (.slice (some ⟨g,0,none⟩) 1 1) [x]:=by
 refine⟨_,1,rfl,.inr ⟨g,0,rfl,hm,lt_of_block h,fun j y hy=>?_⟩⟩
 match j,hy with
 | 0,hy=>simp at hy;subst hy;rw[cell_of_row _ _ _ _ _ _ h];rfl
theorem InG.two {w:World}{m g x y:Nat}{t:TypeId}(h:w.heap[g]?=some (.cells #[.int .i64 (x:Nat),.int .i64 (y:Nat)] t (0,0)))(hm:m<=g):InG w m (.slice (some ⟨g,0,none⟩) 2 2) [x,y]:=by
 refine⟨_,2,rfl,.inr ⟨g,0,rfl,hm,lt_of_block h,fun j z hz=>?_⟩⟩
 match j,hz with
 | 0,hz=>simp at hz;subst hz;rw[cell_of_row _ _ _ _ _ _ h];rfl
 | 1,hz=>simp at hz;subst hz;rw[cell_of_row _ _ _ _ _ _ h];rfl
theorem InG.three {w:World}{m g x y z:Nat}{t:TypeId}(h:w.heap[g]?=some (.cells #[.int .i64 (x:Nat),.int .i64 (y:Nat),.int .i64 (z:Nat)] t (0,0)))(hm:m<=g):InG w m (.slice (some ⟨g,0,none⟩) 3 3) [x,y,z]:=by
 refine⟨_,3,rfl,.inr ⟨g,0,rfl,hm,lt_of_block h,fun j u hu=>?_⟩⟩
 match j,hu with
 | 0,hu=>simp at hu;subst hu;rw[cell_of_row _ _ _ _ _ _ h];rfl
 | 1,hu=>simp at hu;subst hu;rw[cell_of_row _ _ _ _ _ _ h];rfl
 | 2,hu=>simp at hu;subst hu;rw[cell_of_row _ _ _ _ _ _ h];rfl
theorem bG (w:World)(o:Obj):Below w.heap.size w (w.alloc o):=(Below.refl _ w).alloc (Nat.le_refl _) o
theorem bG2 {w w':World}(o:Obj)(h:Below w.heap.size w w'):Below w.heap.size w (w'.alloc o):=h.alloc h.size o
theorem h1G (w:World)(o:Obj):(w.alloc o).heap[w.heap.size]?=some o:=heap_alloc_new w o
theorem h2G (w:World)(o p:Obj):((w.alloc o).alloc p).heap[w.heap.size]?=some o:=(Below.heap_alloc _ _ _ (by simp)).trans (heap_alloc_new w o)
theorem vertices_c (n:Nat)(hn:n<=1024)(w:World):Calls Tryd.prog 79 #[.int .i64 (n:Nat)] w fun e w'=>∃v,e=.returned v/\InG w' w.heap.size v (List.replicate n 3)/\Below w.heap.size w w':=by
 obtain⟨w1,hw1⟩:∃w1,w1=w.alloc (.cells #[.int .i64 3] 3):=⟨_,rfl⟩
 have B1:Below w.heap.size w w1:=by rw[hw1];exact bG _ _
 have hc:w1.cell? ⟨w.heap.size,0,none⟩=some (.int .i64 3):=by rw[hw1,cell_of_row _ _ _ _ _ _ (h1G w _)];rfl
 have hl:w.heap.size<w1.heap.size:=by rw[hw1];simp
 have HR:=repeat_cg w1 w.heap.size 0 1 n (by omega) hl hc;obtain⟨g,hg⟩:∃g,g=w.heap.size:=⟨_,rfl⟩
 rw[<-hg] at HR B1 hl ⊢;have HG:=Lib.hid hg;clear hg hc;go_enter Tryd.func79,Tryd.ntmps79;go_wp2_with fail;rw[<-hw1,<-HG.out];clear hw1;refine HR.mono ?_;rintro e w2 ⟨v,rfl,HI,B2⟩;go_wp2;go_ret;exact⟨_,rfl,HI.mono (Nat.le_of_lt hl),B1.trans (B2.mono (Nat.le_of_lt hl))⟩
theorem call_1 (w:World):Calls Tryd.prog 78 #[.int .i64 1] w (EffOut w (callE 1).1 (callE 1).2):=by
 have HV:=fun wx:World=>vertices_c 2 (by omega) wx;go_enter Tryd.func78,Tryd.ntmps78;go_wp2_with fail;refine(HV _).mono ?_;rintro e w2 ⟨v,rfl,HI,B2⟩;have HZ:Hid (EffOut w (callE 1).1 (callE 1).2 (.returned (.tuple #[v,.slice (some ⟨w2.heap.size,0,none⟩) 1 1])) (w2.alloc (.cells #[.int .i64 2] 3))) :=
  ⟨_,_,rfl,HI.below (bG _ _),InG.one (x:=2) (h1G _ _) B2.size,bG2 _ B2⟩
 clear HV HI B2;go_wp2;go_ret2;exact HZ.out
theorem call_2 (w:World):Calls Tryd.prog 78 #[.int .i64 2] w (EffOut w (callE 2).1 (callE 2).2):=by
 have HV:=fun wx:World=>vertices_c 2 (by omega) wx;go_enter Tryd.func78,Tryd.ntmps78;go_wp2_with fail;refine(HV _).mono ?_;rintro e w2 ⟨v,rfl,HI,B2⟩;have HZ:Hid (EffOut w (callE 2).1 (callE 2).2 (.returned (.tuple #[v,.slice (some ⟨w2.heap.size,0,none⟩) 1 1])) (w2.alloc (.cells #[.int .i64 2] 3))) :=
  ⟨_,_,rfl,HI.below (bG _ _),InG.one (x:=2) (h1G _ _) B2.size,bG2 _ B2⟩
 clear HV HI B2;go_wp2;go_ret2;exact HZ.out
theorem call_3 (w:World):Calls Tryd.prog 78 #[.int .i64 3] w (EffOut w (callE 3).1 (callE 3).2):=by
 have HV:=fun wx:World=>vertices_c 2 (by omega) wx;go_enter Tryd.func78,Tryd.ntmps78;go_wp2_with fail;refine(HV _).mono ?_;rintro e w2 ⟨v,rfl,HI,B2⟩;have HZ:Hid (EffOut w (callE 3).1 (callE 3).2 (.returned (.tuple #[v,.slice (some ⟨w2.heap.size,0,none⟩) 1 1])) (w2.alloc (.cells #[.int .i64 1] 3))) :=
  ⟨_,_,rfl,HI.below (bG _ _),InG.one (x:=1) (h1G _ _) B2.size,bG2 _ B2⟩
 clear HV HI B2;go_wp2;go_ret2;exact HZ.out
theorem call_4 (w:World):Calls Tryd.prog 78 #[.int .i64 4] w (EffOut w (callE 4).1 (callE 4).2):=by
 have HV:=fun wx:World=>vertices_c 1 (by omega) wx;go_enter Tryd.func78,Tryd.ntmps78;go_wp2_with fail;refine(HV _).mono ?_;rintro e w2 ⟨v,rfl,HI,B2⟩;have HZ:Hid (EffOut w (callE 4).1 (callE 4).2 (.returned (.tuple #[v,.slice (some ⟨w2.heap.size,0,none⟩) 1 1])) (w2.alloc (.cells #[.int .i64 1] 3))) :=
  ⟨_,_,rfl,HI.below (bG _ _),InG.one (x:=1) (h1G _ _) B2.size,bG2 _ B2⟩
 clear HV HI B2;go_wp2;go_ret2;exact HZ.out
theorem call_5 (w:World):Calls Tryd.prog 78 #[.int .i64 5] w (EffOut w (callE 5).1 (callE 5).2):=by
 have HV:=fun wx:World=>vertices_c 1 (by omega) wx;go_enter Tryd.func78,Tryd.ntmps78;go_wp2_with fail;refine(HV _).mono ?_;rintro e w2 ⟨v,rfl,HI,B2⟩;have HZ:Hid (EffOut w (callE 5).1 (callE 5).2 (.returned (.tuple #[v,.slice (some ⟨w2.heap.size,0,none⟩) 1 1])) (w2.alloc (.cells #[.int .i64 1] 3))) :=
  ⟨_,_,rfl,HI.below (bG _ _),InG.one (x:=1) (h1G _ _) B2.size,bG2 _ B2⟩
 clear HV HI B2;go_wp2;go_ret2;exact HZ.out
theorem call_6 (w:World):Calls Tryd.prog 78 #[.int .i64 6] w (EffOut w (callE 6).1 (callE 6).2):=by
 have HV:=fun wx:World=>vertices_c 1 (by omega) wx;go_enter Tryd.func78,Tryd.ntmps78;go_wp2_with fail;refine(HV _).mono ?_;rintro e w2 ⟨v,rfl,HI,B2⟩;have HZ:Hid (EffOut w (callE 6).1 (callE 6).2 (.returned (.tuple #[v,.slice (some ⟨w2.heap.size,0,none⟩) 1 1])) (w2.alloc (.cells #[.int .i64 1] 3))) :=
  ⟨_,_,rfl,HI.below (bG _ _),InG.one (x:=1) (h1G _ _) B2.size,bG2 _ B2⟩
 clear HV HI B2;go_wp2;go_ret2;exact HZ.out
theorem call_7 (w:World):Calls Tryd.prog 78 #[.int .i64 7] w (EffOut w (callE 7).1 (callE 7).2):=by
 have HV:=fun wx:World=>vertices_c 1 (by omega) wx;go_enter Tryd.func78,Tryd.ntmps78;go_wp2_with fail;refine(HV _).mono ?_;rintro e w2 ⟨v,rfl,HI,B2⟩;have HZ:Hid (EffOut w (callE 7).1 (callE 7).2 (.returned (.tuple #[v,.slice (some ⟨w2.heap.size,0,none⟩) 1 1])) (w2.alloc (.cells #[.int .i64 1] 3))) :=
  ⟨_,_,rfl,HI.below (bG _ _),InG.one (x:=1) (h1G _ _) B2.size,bG2 _ B2⟩
 clear HV HI B2;go_wp2;go_ret2;exact HZ.out
theorem call_8 (w:World):Calls Tryd.prog 78 #[.int .i64 8] w (EffOut w (callE 8).1 (callE 8).2):=by
 have HV:=fun wx:World=>vertices_c 1 (by omega) wx;go_enter Tryd.func78,Tryd.ntmps78;go_wp2_with fail;refine(HV _).mono ?_;rintro e w2 ⟨v,rfl,HI,B2⟩;have HZ:Hid (EffOut w (callE 8).1 (callE 8).2 (.returned (.tuple #[v,.slice (some ⟨w2.heap.size,0,none⟩) 1 1])) (w2.alloc (.cells #[.int .i64 1] 3))) :=
  ⟨_,_,rfl,HI.below (bG _ _),InG.one (x:=1) (h1G _ _) B2.size,bG2 _ B2⟩
 clear HV HI B2;go_wp2;go_ret2;exact HZ.out
theorem call_9 (w:World):Calls Tryd.prog 78 #[.int .i64 9] w (EffOut w (callE 9).1 (callE 9).2):=by
 have HV:=fun wx:World=>vertices_c 1 (by omega) wx;go_enter Tryd.func78,Tryd.ntmps78;go_wp2_with fail;refine(HV _).mono ?_;rintro e w2 ⟨v,rfl,HI,B2⟩;have HZ:Hid (EffOut w (callE 9).1 (callE 9).2 (.returned (.tuple #[v,.slice (some ⟨w2.heap.size,0,none⟩) 1 1])) (w2.alloc (.cells #[.int .i64 1] 3))) :=
  ⟨_,_,rfl,HI.below (bG _ _),InG.one (x:=1) (h1G _ _) B2.size,bG2 _ B2⟩
 clear HV HI B2;go_wp2;go_ret2;exact HZ.out
theorem call_10 (w:World):Calls Tryd.prog 78 #[.int .i64 10] w (EffOut w (callE 10).1 (callE 10).2):=by
 have HV:=fun wx:World=>vertices_c 1 (by omega) wx;go_enter Tryd.func78,Tryd.ntmps78;go_wp2_with fail;refine(HV _).mono ?_;rintro e w2 ⟨v,rfl,HI,B2⟩;have HZ:Hid (EffOut w (callE 10).1 (callE 10).2 (.returned (.tuple #[v,.slice (some ⟨w2.heap.size,0,none⟩) 1 1])) (w2.alloc (.cells #[.int .i64 3] 3))) :=
  ⟨_,_,rfl,HI.below (bG _ _),InG.one (x:=3) (h1G _ _) B2.size,bG2 _ B2⟩
 clear HV HI B2;go_wp2;go_ret2;exact HZ.out
theorem call_c (a:Nat)(h:1<=a/\a<=10)(w:World):Calls Tryd.prog 78 #[.int .i64 (a:Nat)] w (EffOut w (callE a).1 (callE a).2):=by
 match a,h with
 | 1,_=>exact call_1 w
 | 2,_=>exact call_2 w
 | 3,_=>exact call_3 w
 | 4,_=>exact call_4 w
 | 5,_=>exact call_5 w
 | 6,_=>exact call_6 w
 | 7,_=>exact call_7 w
 | 8,_=>exact call_8 w
 | 9,_=>exact call_9 w
 | 10,_=>exact call_10 w
 | 0,h=>omega
 | n+11,h=>omega
theorem hA2 (w:World)(o p:Obj):((w.alloc o).alloc p).heap[w.heap.size+1]?=some p:=by
 have:=heap_alloc_new (w.alloc o) p
 simpa using this
theorem hA2b (w:World)(o p q:Obj):(((w.alloc o).alloc p).alloc q).heap[w.heap.size+1]?=some p:=(Below.heap_alloc _ _ _ (by simp)).trans (hA2 w o p)
theorem hA3 (w:World)(o p q:Obj):(((w.alloc o).alloc p).alloc q).heap[w.heap.size+2]?=some q:=by
 have:=heap_alloc_new ((w.alloc o).alloc p) q
 simpa using this
theorem EffOut.mono {w w1:World}{p q:List Nat}{e:Ending}{w':World}(B:Below w.heap.size w w1)(h:EffOut w1 p q e w'):EffOut w p q e w':=by
 obtain⟨v,u,he,h1,h2,h3⟩:=h;exact⟨v,u,he,h1.mono B.size,h2.mono B.size,B.trans (h3.mono B.size)⟩
abbrev bxW (o a b:Nat):Obj:=.cells #[.int .i64 (o:Nat),.int .i64 (a:Nat),.int .i64 (b:Nat)] 84
theorem eff_0 (c:Cd)(a b:Nat)(w:World)(ak:Option Addr)(nk ck:Nat):Calls Tryd.prog 60 #[wdV 0 a b,.slice ak nk ck] w (EffOut w (effE c 0 a b).1 (effE c 0 a b).2):=by
 have HZ:Hid (EffOut w (effE c 0 a b).1 (effE c 0 a b).2 (.returned (.tuple #[.slice none 0 0,.slice none 0 0])) (w.alloc (bxW 0 a b))) :=
  ⟨_,_,rfl,InG.nil _ _,InG.nil _ _,bG w _⟩
 go_enter Tryd.func60,Tryd.ntmps60;go_wp2;go_ret2;exact HZ.out
theorem eff_2 (c:Cd)(a b:Nat)(w:World)(ak:Option Addr)(nk ck:Nat):Calls Tryd.prog 60 #[wdV 2 a b,.slice ak nk ck] w (EffOut w (effE c 2 a b).1 (effE c 2 a b).2):=by
 have HZ:Hid (EffOut w (effE c 2 a b).1 (effE c 2 a b).2 (.returned (.tuple #[.slice none 0 0,.slice (some ⟨w.heap.size+1,0,none⟩) 1 1])) ((w.alloc (bxW 2 a b)).alloc (.cells #[.int .i64 3] 3))) :=
  ⟨_,_,rfl,InG.nil _ _,InG.one (x:=3) (hA2 w _ _) (by omega),bG2 _ (bG w _)⟩
 go_enter Tryd.func60,Tryd.ntmps60;go_wp2;go_ret2;exact HZ.out
theorem eff_3 (c:Cd)(a b:Nat)(w:World)(ak:Option Addr)(nk ck:Nat):Calls Tryd.prog 60 #[wdV 3 a b,.slice ak nk ck] w (EffOut w (effE c 3 a b).1 (effE c 3 a b).2):=by
 have HZ:Hid (EffOut w (effE c 3 a b).1 (effE c 3 a b).2 (.returned (.tuple #[.slice none 0 0,.slice (some ⟨w.heap.size+1,0,none⟩) 1 1])) ((w.alloc (bxW 3 a b)).alloc (.cells #[.int .i64 3] 3))) :=
  ⟨_,_,rfl,InG.nil _ _,InG.one (x:=3) (hA2 w _ _) (by omega),bG2 _ (bG w _)⟩
 go_enter Tryd.func60,Tryd.ntmps60;go_wp2;go_ret2;exact HZ.out
theorem eff_4 (c:Cd)(a b:Nat)(w:World)(ak:Option Addr)(nk ck:Nat):Calls Tryd.prog 60 #[wdV 4 a b,.slice ak nk ck] w (EffOut w (effE c 4 a b).1 (effE c 4 a b).2):=by
 have HZ:Hid (EffOut w (effE c 4 a b).1 (effE c 4 a b).2 (.returned (.tuple #[.slice (some ⟨w.heap.size+1,0,none⟩) 1 1,.slice (some ⟨w.heap.size+2,0,none⟩) 1 1])) (((w.alloc (bxW 4 a b)).alloc (.cells #[.int .i64 1] 3)).alloc (.cells #[.int .i64 1] 3))) :=
  ⟨_,_,rfl,InG.one (x:=1) (hA2b w _ _ _) (by omega),InG.one (x:=1) (hA3 w _ _ _) (by omega),bG2 _ (bG2 _ (bG w _))⟩
 go_enter Tryd.func60,Tryd.ntmps60;go_wp2;go_ret2;exact HZ.out
theorem eff_5 (c:Cd)(a b:Nat)(w:World)(ak:Option Addr)(nk ck:Nat):Calls Tryd.prog 60 #[wdV 5 a b,.slice ak nk ck] w (EffOut w (effE c 5 a b).1 (effE c 5 a b).2):=by
 have HZ:Hid (EffOut w (effE c 5 a b).1 (effE c 5 a b).2 (.returned (.tuple #[.slice (some ⟨w.heap.size+1,0,none⟩) 1 1,.slice (some ⟨w.heap.size+2,0,none⟩) 1 1])) (((w.alloc (bxW 5 a b)).alloc (.cells #[.int .i64 2] 3)).alloc (.cells #[.int .i64 2] 3))) :=
  ⟨_,_,rfl,InG.one (x:=2) (hA2b w _ _ _) (by omega),InG.one (x:=2) (hA3 w _ _ _) (by omega),bG2 _ (bG2 _ (bG w _))⟩
 go_enter Tryd.func60,Tryd.ntmps60;go_wp2;go_ret2;exact HZ.out
theorem eff_6 (c:Cd)(a b:Nat)(w:World)(ak:Option Addr)(nk ck:Nat):Calls Tryd.prog 60 #[wdV 6 a b,.slice ak nk ck] w (EffOut w (effE c 6 a b).1 (effE c 6 a b).2):=by
 have HZ:Hid (EffOut w (effE c 6 a b).1 (effE c 6 a b).2 (.returned (.tuple #[.slice (some ⟨w.heap.size+1,0,none⟩) 2 2,.slice (some ⟨w.heap.size+2,0,none⟩) 1 1])) (((w.alloc (bxW 6 a b)).alloc (.cells #[.int .i64 1,.int .i64 1] 3)).alloc (.cells #[.int .i64 1] 3))) :=
  ⟨_,_,rfl,InG.two (x:=1) (y:=1) (hA2b w _ _ _) (by omega),InG.one (x:=1) (hA3 w _ _ _) (by omega),bG2 _ (bG2 _ (bG w _))⟩
 go_enter Tryd.func60,Tryd.ntmps60;go_wp2;go_ret2;exact HZ.out
theorem eff_7 (c:Cd)(a b:Nat)(w:World)(ak:Option Addr)(nk ck:Nat):Calls Tryd.prog 60 #[wdV 7 a b,.slice ak nk ck] w (EffOut w (effE c 7 a b).1 (effE c 7 a b).2):=by
 have HZ:Hid (EffOut w (effE c 7 a b).1 (effE c 7 a b).2 (.returned (.tuple #[.slice (some ⟨w.heap.size+1,0,none⟩) 2 2,.slice (some ⟨w.heap.size+2,0,none⟩) 1 1])) (((w.alloc (bxW 7 a b)).alloc (.cells #[.int .i64 1,.int .i64 1] 3)).alloc (.cells #[.int .i64 1] 3))) :=
  ⟨_,_,rfl,InG.two (x:=1) (y:=1) (hA2b w _ _ _) (by omega),InG.one (x:=1) (hA3 w _ _ _) (by omega),bG2 _ (bG2 _ (bG w _))⟩
 go_enter Tryd.func60,Tryd.ntmps60;go_wp2;go_ret2;exact HZ.out
theorem eff_8 (c:Cd)(a b:Nat)(w:World)(ak:Option Addr)(nk ck:Nat):Calls Tryd.prog 60 #[wdV 8 a b,.slice ak nk ck] w (EffOut w (effE c 8 a b).1 (effE c 8 a b).2):=by
 have HZ:Hid (EffOut w (effE c 8 a b).1 (effE c 8 a b).2 (.returned (.tuple #[.slice (some ⟨w.heap.size+1,0,none⟩) 2 2,.slice (some ⟨w.heap.size+2,0,none⟩) 1 1])) (((w.alloc (bxW 8 a b)).alloc (.cells #[.int .i64 1,.int .i64 1] 3)).alloc (.cells #[.int .i64 1] 3))) :=
  ⟨_,_,rfl,InG.two (x:=1) (y:=1) (hA2b w _ _ _) (by omega),InG.one (x:=1) (hA3 w _ _ _) (by omega),bG2 _ (bG2 _ (bG w _))⟩
 go_enter Tryd.func60,Tryd.ntmps60;go_wp2;go_ret2;exact HZ.out
theorem eff_9 (c:Cd)(a b:Nat)(w:World)(ak:Option Addr)(nk ck:Nat):Calls Tryd.prog 60 #[wdV 9 a b,.slice ak nk ck] w (EffOut w (effE c 9 a b).1 (effE c 9 a b).2):=by
 have HZ:Hid (EffOut w (effE c 9 a b).1 (effE c 9 a b).2 (.returned (.tuple #[.slice (some ⟨w.heap.size+1,0,none⟩) 2 2,.slice (some ⟨w.heap.size+2,0,none⟩) 1 1])) (((w.alloc (bxW 9 a b)).alloc (.cells #[.int .i64 1,.int .i64 1] 3)).alloc (.cells #[.int .i64 1] 3))) :=
  ⟨_,_,rfl,InG.two (x:=1) (y:=1) (hA2b w _ _ _) (by omega),InG.one (x:=1) (hA3 w _ _ _) (by omega),bG2 _ (bG2 _ (bG w _))⟩
 go_enter Tryd.func60,Tryd.ntmps60;go_wp2;go_ret2;exact HZ.out
theorem eff_10 (c:Cd)(a b:Nat)(w:World)(ak:Option Addr)(nk ck:Nat):Calls Tryd.prog 60 #[wdV 10 a b,.slice ak nk ck] w (EffOut w (effE c 10 a b).1 (effE c 10 a b).2):=by
 have HZ:Hid (EffOut w (effE c 10 a b).1 (effE c 10 a b).2 (.returned (.tuple #[.slice (some ⟨w.heap.size+1,0,none⟩) 2 2,.slice (some ⟨w.heap.size+2,0,none⟩) 1 1])) (((w.alloc (bxW 10 a b)).alloc (.cells #[.int .i64 1,.int .i64 1] 3)).alloc (.cells #[.int .i64 1] 3))) :=
  ⟨_,_,rfl,InG.two (x:=1) (y:=1) (hA2b w _ _ _) (by omega),InG.one (x:=1) (hA3 w _ _ _) (by omega),bG2 _ (bG2 _ (bG w _))⟩
 go_enter Tryd.func60,Tryd.ntmps60;go_wp2;go_ret2;exact HZ.out
theorem eff_11 (c:Cd)(a b:Nat)(w:World)(ak:Option Addr)(nk ck:Nat):Calls Tryd.prog 60 #[wdV 11 a b,.slice ak nk ck] w (EffOut w (effE c 11 a b).1 (effE c 11 a b).2):=by
 have HZ:Hid (EffOut w (effE c 11 a b).1 (effE c 11 a b).2 (.returned (.tuple #[.slice (some ⟨w.heap.size+1,0,none⟩) 2 2,.slice (some ⟨w.heap.size+2,0,none⟩) 1 1])) (((w.alloc (bxW 11 a b)).alloc (.cells #[.int .i64 (b:Nat),.int .i64 (b:Nat)] 3)).alloc (.cells #[.int .i64 2] 3))) :=
  ⟨_,_,rfl,InG.two (x:=b) (y:=b) (hA2b w _ _ _) (by omega),InG.one (x:=2) (hA3 w _ _ _) (by omega),bG2 _ (bG2 _ (bG w _))⟩
 go_enter Tryd.func60,Tryd.ntmps60;go_wp2;go_ret2;exact HZ.out
theorem eff_12 (c:Cd)(a b:Nat)(w:World)(ak:Option Addr)(nk ck:Nat):Calls Tryd.prog 60 #[wdV 12 a b,.slice ak nk ck] w (EffOut w (effE c 12 a b).1 (effE c 12 a b).2):=by
 have HZ:Hid (EffOut w (effE c 12 a b).1 (effE c 12 a b).2 (.returned (.tuple #[.slice (some ⟨w.heap.size+1,0,none⟩) 2 2,.slice (some ⟨w.heap.size+2,0,none⟩) 1 1])) (((w.alloc (bxW 12 a b)).alloc (.cells #[.int .i64 1,.int .i64 1] 3)).alloc (.cells #[.int .i64 2] 3))) :=
  ⟨_,_,rfl,InG.two (x:=1) (y:=1) (hA2b w _ _ _) (by omega),InG.one (x:=2) (hA3 w _ _ _) (by omega),bG2 _ (bG2 _ (bG w _))⟩
 go_enter Tryd.func60,Tryd.ntmps60;go_wp2;go_ret2;exact HZ.out
theorem eff_13 (c:Cd)(a b:Nat)(w:World)(ak:Option Addr)(nk ck:Nat):Calls Tryd.prog 60 #[wdV 13 a b,.slice ak nk ck] w (EffOut w (effE c 13 a b).1 (effE c 13 a b).2):=by
 have HZ:Hid (EffOut w (effE c 13 a b).1 (effE c 13 a b).2 (.returned (.tuple #[.slice none 0 0,.slice none 0 0])) (w.alloc (bxW 13 a b))) :=
  ⟨_,_,rfl,InG.nil _ _,InG.nil _ _,bG w _⟩
 go_enter Tryd.func60,Tryd.ntmps60;go_wp2;go_ret2;exact HZ.out
theorem eff_14 (c:Cd)(a b:Nat)(w:World)(ak:Option Addr)(nk ck:Nat):Calls Tryd.prog 60 #[wdV 14 a b,.slice ak nk ck] w (EffOut w (effE c 14 a b).1 (effE c 14 a b).2):=by
 have HZ:Hid (EffOut w (effE c 14 a b).1 (effE c 14 a b).2 (.returned (.tuple #[.slice (some ⟨w.heap.size+1,0,none⟩) 1 1,.slice none 0 0])) ((w.alloc (bxW 14 a b)).alloc (.cells #[.int .i64 2] 3))) :=
  ⟨_,_,rfl,InG.one (x:=2) (hA2 w _ _) (by omega),InG.nil _ _,bG2 _ (bG w _)⟩
 go_enter Tryd.func60,Tryd.ntmps60;go_wp2;go_ret2;exact HZ.out
theorem eff_15 (c:Cd)(a b:Nat)(w:World)(ak:Option Addr)(nk ck:Nat):Calls Tryd.prog 60 #[wdV 15 a b,.slice ak nk ck] w (EffOut w (effE c 15 a b).1 (effE c 15 a b).2):=by
 have HZ:Hid (EffOut w (effE c 15 a b).1 (effE c 15 a b).2 (.returned (.tuple #[.slice (some ⟨w.heap.size+1,0,none⟩) 1 1,.slice none 0 0])) ((w.alloc (bxW 15 a b)).alloc (.cells #[.int .i64 2] 3))) :=
  ⟨_,_,rfl,InG.one (x:=2) (hA2 w _ _) (by omega),InG.nil _ _,bG2 _ (bG w _)⟩
 go_enter Tryd.func60,Tryd.ntmps60;go_wp2;go_ret2;exact HZ.out
theorem eff_17 (c:Cd)(a b:Nat)(w:World)(ak:Option Addr)(nk ck:Nat):Calls Tryd.prog 60 #[wdV 17 a b,.slice ak nk ck] w (EffOut w (effE c 17 a b).1 (effE c 17 a b).2):=by
 have HZ:Hid (EffOut w (effE c 17 a b).1 (effE c 17 a b).2 (.returned (.tuple #[.slice none 0 0,.slice none 0 0])) (w.alloc (bxW 17 a b))) :=
  ⟨_,_,rfl,InG.nil _ _,InG.nil _ _,bG w _⟩
 go_enter Tryd.func60,Tryd.ntmps60;go_wp2;go_ret2;exact HZ.out
theorem eff_19 (c:Cd)(a b:Nat)(w:World)(ak:Option Addr)(nk ck:Nat):Calls Tryd.prog 60 #[wdV 19 a b,.slice ak nk ck] w (EffOut w (effE c 19 a b).1 (effE c 19 a b).2):=by
 have HZ:Hid (EffOut w (effE c 19 a b).1 (effE c 19 a b).2 (.returned (.tuple #[.slice none 0 0,.slice none 0 0])) (w.alloc (bxW 19 a b))) :=
  ⟨_,_,rfl,InG.nil _ _,InG.nil _ _,bG w _⟩
 go_enter Tryd.func60,Tryd.ntmps60;go_wp2;go_ret2;exact HZ.out
theorem eff_20 (c:Cd)(a b:Nat)(w:World)(ak:Option Addr)(nk ck:Nat):Calls Tryd.prog 60 #[wdV 20 a b,.slice ak nk ck] w (EffOut w (effE c 20 a b).1 (effE c 20 a b).2):=by
 have HZ:Hid (EffOut w (effE c 20 a b).1 (effE c 20 a b).2 (.returned (.tuple #[.slice none 0 0,.slice none 0 0])) (w.alloc (bxW 20 a b))) :=
  ⟨_,_,rfl,InG.nil _ _,InG.nil _ _,bG w _⟩
 go_enter Tryd.func60,Tryd.ntmps60;go_wp2;go_ret2;exact HZ.out
theorem eff_21 (c:Cd)(a b:Nat)(w:World)(ak:Option Addr)(nk ck:Nat):Calls Tryd.prog 60 #[wdV 21 a b,.slice ak nk ck] w (EffOut w (effE c 21 a b).1 (effE c 21 a b).2):=by
 have HZ:Hid (EffOut w (effE c 21 a b).1 (effE c 21 a b).2 (.returned (.tuple #[.slice none 0 0,.slice none 0 0])) (w.alloc (bxW 21 a b))) :=
  ⟨_,_,rfl,InG.nil _ _,InG.nil _ _,bG w _⟩
 go_enter Tryd.func60,Tryd.ntmps60;go_wp2;go_ret2;exact HZ.out
theorem eff_24 (c:Cd)(a b:Nat)(w:World)(ak:Option Addr)(nk ck:Nat):Calls Tryd.prog 60 #[wdV 24 a b,.slice ak nk ck] w (EffOut w (effE c 24 a b).1 (effE c 24 a b).2):=by
 have HZ:Hid (EffOut w (effE c 24 a b).1 (effE c 24 a b).2 (.returned (.tuple #[.slice none 0 0,.slice none 0 0])) (w.alloc (bxW 24 a b))) :=
  ⟨_,_,rfl,InG.nil _ _,InG.nil _ _,bG w _⟩
 go_enter Tryd.func60,Tryd.ntmps60;go_wp2;go_ret2;exact HZ.out
theorem eff_25 (c:Cd)(a b:Nat)(w:World)(ak:Option Addr)(nk ck:Nat):Calls Tryd.prog 60 #[wdV 25 a b,.slice ak nk ck] w (EffOut w (effE c 25 a b).1 (effE c 25 a b).2):=by
 have HZ:Hid (EffOut w (effE c 25 a b).1 (effE c 25 a b).2 (.returned (.tuple #[.slice none 0 0,.slice none 0 0])) (w.alloc (bxW 25 a b))) :=
  ⟨_,_,rfl,InG.nil _ _,InG.nil _ _,bG w _⟩
 go_enter Tryd.func60,Tryd.ntmps60;go_wp2;go_ret2;exact HZ.out
theorem eff_26 (c:Cd)(a b:Nat)(w:World)(ak:Option Addr)(nk ck:Nat):Calls Tryd.prog 60 #[wdV 26 a b,.slice ak nk ck] w (EffOut w (effE c 26 a b).1 (effE c 26 a b).2):=by
 have HZ:Hid (EffOut w (effE c 26 a b).1 (effE c 26 a b).2 (.returned (.tuple #[.slice (some ⟨w.heap.size+1,0,none⟩) 3 3,.slice (some ⟨w.heap.size+2,0,none⟩) 2 2])) (((w.alloc (bxW 26 a b)).alloc (.cells #[.int .i64 1,.int .i64 2,.int .i64 1] 3)).alloc (.cells #[.int .i64 1,.int .i64 2] 3))) :=
  ⟨_,_,rfl,InG.three (x:=1) (y:=2) (z:=1) (hA2b w _ _ _) (by omega),InG.two (x:=1) (y:=2) (hA3 w _ _ _) (by omega),bG2 _ (bG2 _ (bG w _))⟩
 go_enter Tryd.func60,Tryd.ntmps60;go_wp2;go_ret2;exact HZ.out
theorem eff_27 (c:Cd)(a b:Nat)(w:World)(ak:Option Addr)(nk ck:Nat):Calls Tryd.prog 60 #[wdV 27 a b,.slice ak nk ck] w (EffOut w (effE c 27 a b).1 (effE c 27 a b).2):=by
 have HZ:Hid (EffOut w (effE c 27 a b).1 (effE c 27 a b).2 (.returned (.tuple #[.slice (some ⟨w.heap.size+1,0,none⟩) 1 1,.slice none 0 0])) ((w.alloc (bxW 27 a b)).alloc (.cells #[.int .i64 2] 3))) :=
  ⟨_,_,rfl,InG.one (x:=2) (hA2 w _ _) (by omega),InG.nil _ _,bG2 _ (bG w _)⟩
 go_enter Tryd.func60,Tryd.ntmps60;go_wp2;go_ret2;exact HZ.out
theorem InG.drew {w:World}{m:Nat}{v:Value}{xs:List Nat}(h:InG w m v xs):InG w.drew m v xs:=h.below ⟨rfl,rfl,rfl,Nat.le_refl _,fun _ _=>rfl⟩
theorem eff_1 (c:Cd)(a b:Nat)(w:World)(ak:Option Addr)(nk ck:Nat):Calls Tryd.prog 60 #[wdV 1 a b,.slice ak nk ck] w (EffOut w (effE c 1 a b).1 (effE c 1 a b).2):=by
 have HZ:Hid (EffOut w (effE c 1 a b).1 (effE c 1 a b).2 (.returned (.tuple #[.slice none 0 0,.slice (some ⟨w.heap.size+1,0,none⟩) 1 1])) ((w.alloc (bxW 1 a b)).alloc (.cells #[.int .i64 (b:Nat)] 3)).drew) :=
  ⟨_,_,rfl,InG.nil _ _,(InG.one (x:=b) (hA2 w _ _) (by omega)).drew,(bG2 _ (bG w _)).drew⟩
 go_enter Tryd.func60,Tryd.ntmps60;go_upto_region 3 with fail;go_region;go_wp2;go_ret2;exact HZ.out
theorem eff_16 (c:Cd)(a b:Nat)(h:1<=a/\a<=10)(w:World)(ak:Option Addr)(nk ck:Nat):Calls Tryd.prog 60 #[wdV 16 a b,.slice ak nk ck] w (EffOut w (effE c 16 a b).1 (effE c 16 a b).2):=by
 have HC:=fun wx=>call_c a h wx;have HE:Hid (∀ e w',EffOut (w.alloc (bxW 16 a b)) (callE a).1 (callE a).2 e w'->EffOut w (effE c 16 a b).1 (effE c 16 a b).2 e w'):=fun e w' H=>H.mono (bG w _);clear h;go_enter Tryd.func60,Tryd.ntmps60;go_wp2_with fail;refine(HC _).mono ?_;rintro e w2 H;have HF:=HE.out _ _ H;obtain⟨v,u,rfl,H1,H2,H3⟩:=H;have HZ:=Lib.hid HF;clear H1 H2 H3 HF HC HE;go_wp2;go_ret2;exact HZ.out
theorem eff_22 (c:Cd)(a b:Nat)(w:World)(ak:Option Addr)(nk ck:Nat):Calls Tryd.prog 60 #[wdV 22 a b,.slice ak nk ck] w (EffOut w (effE c 22 a b).1 (effE c 22 a b).2):=by
 have HC:=fun wx=>vertices_c 1 (by omega) wx;go_enter Tryd.func60,Tryd.ntmps60;go_wp2_with fail;refine(HC _).mono ?_;rintro e w2 ⟨v,rfl,HI,B2⟩;have HZ:Hid (EffOut w (effE c 22 a b).1 (effE c 22 a b).2 (.returned (.tuple #[v,.slice none 0 0])) w2):=⟨_,_,rfl,HI.mono (by simp),InG.nil _ _,(bG w _).trans (B2.mono (by simp))⟩
 clear HI B2 HC;go_wp2;go_ret2;exact HZ.out
theorem eff_23 (c:Cd)(a b:Nat)(h:a<=1024)(w:World)(ak:Option Addr)(nk ck:Nat):Calls Tryd.prog 60 #[wdV 23 a b,.slice ak nk ck] w (EffOut w (effE c 23 a b).1 (effE c 23 a b).2):=by
 have HC:=fun wx=>vertices_c a h wx;go_enter Tryd.func60,Tryd.ntmps60;go_wp2_with fail;refine(HC _).mono ?_;rintro e w2 ⟨v,rfl,HI,B2⟩;have HZ:Hid (EffOut w (effE c 23 a b).1 (effE c 23 a b).2 (.returned (.tuple #[v,.slice none 0 0])) w2):=⟨_,_,rfl,HI.mono (by simp),InG.nil _ _,(bG w _).trans (B2.mono (by simp))⟩
 clear HI B2 HC;go_wp2;go_ret2;exact HZ.out
theorem eff_18 (c:Cd)(hr:rgtB c=true)(a b:Nat)(h:a<c.ks.length)(w:World)(ak:Option Addr)(ck:Nat)(hC:Lsv w ak (isV c.ks))(hl:c.ks.length<=256):Calls Tryd.prog 60 #[wdV 18 a b,.slice ak c.ks.length ck] w (EffOut w (effE c 18 a b).1 (effE c 18 a b).2):=by
 obtain⟨w1,hw1⟩:∃w1,w1=w.alloc (bxW 18 a b):=⟨_,rfl⟩
 have B1:Below w.heap.size w w1:=by rw[hw1];exact bG _ _
 obtain⟨g,hg⟩:∃g,g=w.heap.size:=⟨_,rfl⟩
 have hs1:w1.heap.size=g+1:=by rw[hw1,hg];simp
 have hb:w1.heap[g]?=some (bxW 18 a b):=by rw[hw1,hg];exact h1G _ _
 have c0:w1.cell? ⟨g,0,none⟩=some (.int .i64 18):=by rw[cell_of_row _ _ _ _ _ _ hb];rfl
 have c1:w1.cell? ⟨g,1,none⟩=some (.int .i64 (a:Nat)):=by rw[cell_of_row _ _ _ _ _ _ hb];rfl
 obtain⟨kb,off,rfl,hkl,hkc⟩:=(hC.below B1).at (isV_get h);rw[kdC_int hr h] at hkc;have hZ:∀ w2:World,(∀ x y:Obj,True)->Below w.heap.size w w2->w2.heap[g+1]?=some (.cells #[.int .i64 (kdC c a:Nat)] 3 (0,0))->w2.heap[g+2]?=some (.cells #[.int .i64 (kdC c a:Nat)] 3 (0,0))->EffOut w (effE c 18 a b).1 (effE c 18 a b).2 (.returned (.tuple #[.slice (some ⟨g+1,0,none⟩) 1 1,.slice (some ⟨g+2,0,none⟩) 1 1])) w2:=fun w2 _ B h1 h2=>⟨_,_,rfl,InG.one h1 (by omega),InG.one h2 (by omega),B⟩;have hZ2:∀ w2:World,(∀ x y:Obj,True)->Below w.heap.size w w2->w2.heap[g+1]?=some (.cells #[.int .i64 (kdC c a:Nat)] 3 (0,0))->w2.heap[g+2]?=some (.cells #[.int .i64 (kdC c a:Nat)] 3 (0,0))->EffOut w (effE c 18 a b).1 (effE c 18 a b).2 (.returned (.tuple #[.slice (some ⟨g+2,0,none⟩) 1 1,.slice (some ⟨g+1,0,none⟩) 1 1])) w2:=fun w2 _ B h1 h2=>⟨_,_,rfl,InG.one h2 (by omega),InG.one h1 (by omega),B⟩;have B3:Below w.heap.size w ((w1.alloc (.cells #[.int .i64 (kdC c a:Nat)] 3)).alloc (.cells #[.int .i64 (kdC c a:Nat)] 3)).drew:=(bG2 _ (bG2 _ B1)).drew;have E1:((w1.alloc (.cells #[.int .i64 (kdC c a:Nat)] 3)).alloc (.cells #[.int .i64 (kdC c a:Nat)] 3)).drew.heap[g+1]?=some (.cells #[.int .i64 (kdC c a:Nat)] 3 (0,0)):=by
  rw[<-hs1];exact h2G w1 _ _
 have E2:((w1.alloc (.cells #[.int .i64 (kdC c a:Nat)] 3)).alloc (.cells #[.int .i64 (kdC c a:Nat)] 3)).drew.heap[g+2]?=some (.cells #[.int .i64 (kdC c a:Nat)] 3 (0,0)):=by
  rw[show g+2=w1.heap.size+1 by omega];exact hA2 w1 _ _
 have HZ:=Lib.hid (hZ _ (fun _ _=>trivial) B3 E1 E2);have HZ2:=Lib.hid (hZ2 _ (fun _ _=>trivial) B3 E1 E2);have haI:(a:Int)<(c.ks.length:Int):=by omega
 generalize kdC c a=kd at *;have HG:=Lib.hid hg;have HS:=Lib.hid hs1;have A1:=bG w1 (.cells #[.int .i64 (kd:Nat)] 3);have c1a:(w1.alloc (.cells #[.int .i64 (kd:Nat)] 3)).cell? ⟨g,1,none⟩=some (.int .i64 (a:Nat)):=(A1.cell (p:=⟨g,1,none⟩) (by show g<w1.heap.size;omega)).trans c1;have hka:(w1.alloc (.cells #[.int .i64 (kd:Nat)] 3)).cell? ⟨kb,off+a,none⟩=some (.int .i64 (kd:Nat)):=(A1.cell (p:=⟨kb,off+a,none⟩) hkl).trans hkc;clear A1 hZ hZ2 B3 E1 E2 hg hs1 hb hC B1;go_enter Tryd.func60,Tryd.ntmps60;go_upto_region 1 with fail;have hw2:w1=w.alloc (.cells #[.int .i64 18,.int .i64 (a:Nat),.int .i64 (b:Nat)] 84):=hw1;rw[<-hw2,<-HG.out];clear hw1 hw2;go_upto_region 28 with fail;go_region
 all_goals
  rw[HS.out];go_wp2;go_ret2
  first|exact HZ.out|exact HZ2.out
theorem effect_c (c:Cd)(hr:rgtB c=true)(o a b:Nat)(W:WdR c o a b)(w:World)(ak:Option Addr)(ck:Nat)(hC:Lsv w ak (isV c.ks)):Calls Tryd.prog 60 #[wdV o a b,.slice ak c.ks.length ck] w (EffOut w (effE c o a b).1 (effE c o a b).2):=by
 have hl:=(rgt_lens hr).2.2.2.2;have h16:=W.c16;have h18:=W.c17;have h23:=W.c23;have ho:=W.ol;clear W
 match o,ho,h16,h18,h23 with
 | 0,_,_,_,_=>exact eff_0 c a b w ak _ ck
 | 1,_,_,_,_=>exact eff_1 c a b w ak _ ck
 | 2,_,_,_,_=>exact eff_2 c a b w ak _ ck
 | 3,_,_,_,_=>exact eff_3 c a b w ak _ ck
 | 4,_,_,_,_=>exact eff_4 c a b w ak _ ck
 | 5,_,_,_,_=>exact eff_5 c a b w ak _ ck
 | 6,_,_,_,_=>exact eff_6 c a b w ak _ ck
 | 7,_,_,_,_=>exact eff_7 c a b w ak _ ck
 | 8,_,_,_,_=>exact eff_8 c a b w ak _ ck
 | 9,_,_,_,_=>exact eff_9 c a b w ak _ ck
 | 10,_,_,_,_=>exact eff_10 c a b w ak _ ck
 | 11,_,_,_,_=>exact eff_11 c a b w ak _ ck
 | 12,_,_,_,_=>exact eff_12 c a b w ak _ ck
 | 13,_,_,_,_=>exact eff_13 c a b w ak _ ck
 | 14,_,_,_,_=>exact eff_14 c a b w ak _ ck
 | 15,_,_,_,_=>exact eff_15 c a b w ak _ ck
 | 16,_,h,_,_=>exact eff_16 c a b (h rfl) w ak _ ck
 | 17,_,_,_,_=>exact eff_17 c a b w ak _ ck
 | 18,_,_,h,_=>exact eff_18 c hr a b (h (Or.inr (Or.inl rfl))) w ak ck hC hl
 | 19,_,_,_,_=>exact eff_19 c a b w ak _ ck
 | 20,_,_,_,_=>exact eff_20 c a b w ak _ ck
 | 21,_,_,_,_=>exact eff_21 c a b w ak _ ck
 | 22,_,_,_,_=>exact eff_22 c a b w ak _ ck
 | 23,_,_,_,h=>exact eff_23 c a b (h rfl) w ak _ ck
 | 24,_,_,_,_=>exact eff_24 c a b w ak _ ck
 | 25,_,_,_,_=>exact eff_25 c a b w ak _ ck
 | 26,_,_,_,_=>exact eff_26 c a b w ak _ ck
 | 27,_,_,_,_=>exact eff_27 c a b w ak _ ck
 | n+28,h,_,_,_=>omega
theorem fits_0 (a b r:Nat)(w:World):Calls Tryd.prog 59 #[wdV 0 a b,.int .i64 (r:Nat)] w fun e w'=>e=.returned (.bool (fitE 0 a r))/\Below w.heap.size w w':=by
 go_enter Tryd.func59,Tryd.ntmps59;go_wp2;go_ret;exact⟨ret_bool (by simp[fitE]<;>omega),bG _ _⟩
theorem opens_0 (a b:Nat)(w:World):Calls Tryd.prog 64 #[wdV 0 a b] w fun e w'=>e=.returned (.int .i64 (0))/\Below w.heap.size w w':=by
 go_enter Tryd.func64,Tryd.ntmps64;go_wp2;go_ret;exact⟨rfl,bG _ _⟩
theorem leads_0 (a b:Nat)(w:World):Calls Tryd.prog 41 #[wdV 0 a b] w fun e w'=>e=.returned (.tuple #[.int .i64 ((ledTo 0 a b).getD 0:Nat),.bool (ledTo 0 a b).isSome])/\Below w.heap.size w w':=by
 go_enter Tryd.func41,Tryd.ntmps41;go_wp2;go_ret2;exact⟨rfl,bG _ _⟩
theorem fits_1 (a b r:Nat)(w:World):Calls Tryd.prog 59 #[wdV 1 a b,.int .i64 (r:Nat)] w fun e w'=>e=.returned (.bool (fitE 1 a r))/\Below w.heap.size w w':=by
 go_enter Tryd.func59,Tryd.ntmps59;go_wp2;go_ret;exact⟨ret_bool (by simp[fitE]<;>omega),bG _ _⟩
theorem opens_1 (a b:Nat)(w:World):Calls Tryd.prog 64 #[wdV 1 a b] w fun e w'=>e=.returned (.int .i64 (0))/\Below w.heap.size w w':=by
 go_enter Tryd.func64,Tryd.ntmps64;go_wp2;go_ret;exact⟨rfl,bG _ _⟩
theorem leads_1 (a b:Nat)(w:World):Calls Tryd.prog 41 #[wdV 1 a b] w fun e w'=>e=.returned (.tuple #[.int .i64 ((ledTo 1 a b).getD 0:Nat),.bool (ledTo 1 a b).isSome])/\Below w.heap.size w w':=by
 go_enter Tryd.func41,Tryd.ntmps41;go_wp2;go_ret2;exact⟨rfl,bG _ _⟩
theorem fits_2 (a b r:Nat)(w:World):Calls Tryd.prog 59 #[wdV 2 a b,.int .i64 (r:Nat)] w fun e w'=>e=.returned (.bool (fitE 2 a r))/\Below w.heap.size w w':=by
 go_enter Tryd.func59,Tryd.ntmps59;go_wp2;go_ret;exact⟨ret_bool (by simp[fitE]<;>omega),bG _ _⟩
theorem opens_2 (a b:Nat)(w:World):Calls Tryd.prog 64 #[wdV 2 a b] w fun e w'=>e=.returned (.int .i64 (0))/\Below w.heap.size w w':=by
 go_enter Tryd.func64,Tryd.ntmps64;go_wp2;go_ret;exact⟨rfl,bG _ _⟩
theorem leads_2 (a b:Nat)(w:World):Calls Tryd.prog 41 #[wdV 2 a b] w fun e w'=>e=.returned (.tuple #[.int .i64 ((ledTo 2 a b).getD 0:Nat),.bool (ledTo 2 a b).isSome])/\Below w.heap.size w w':=by
 go_enter Tryd.func41,Tryd.ntmps41;go_wp2;go_ret2;exact⟨rfl,bG _ _⟩
theorem fits_3 (a b r:Nat)(w:World):Calls Tryd.prog 59 #[wdV 3 a b,.int .i64 (r:Nat)] w fun e w'=>e=.returned (.bool (fitE 3 a r))/\Below w.heap.size w w':=by
 go_enter Tryd.func59,Tryd.ntmps59;go_wp2;go_ret;exact⟨ret_bool (by simp[fitE]<;>omega),bG _ _⟩
theorem opens_3 (a b:Nat)(w:World):Calls Tryd.prog 64 #[wdV 3 a b] w fun e w'=>e=.returned (.int .i64 (0))/\Below w.heap.size w w':=by
 go_enter Tryd.func64,Tryd.ntmps64;go_wp2;go_ret;exact⟨rfl,bG _ _⟩
theorem leads_3 (a b:Nat)(w:World):Calls Tryd.prog 41 #[wdV 3 a b] w fun e w'=>e=.returned (.tuple #[.int .i64 ((ledTo 3 a b).getD 0:Nat),.bool (ledTo 3 a b).isSome])/\Below w.heap.size w w':=by
 go_enter Tryd.func41,Tryd.ntmps41;go_wp2;go_ret2;exact⟨rfl,bG _ _⟩
theorem fits_4 (a b r:Nat)(w:World):Calls Tryd.prog 59 #[wdV 4 a b,.int .i64 (r:Nat)] w fun e w'=>e=.returned (.bool (fitE 4 a r))/\Below w.heap.size w w':=by
 go_enter Tryd.func59,Tryd.ntmps59;go_wp2;go_ret;exact⟨ret_bool (by simp[fitE]<;>omega),bG _ _⟩
theorem opens_4 (a b:Nat)(w:World):Calls Tryd.prog 64 #[wdV 4 a b] w fun e w'=>e=.returned (.int .i64 (0))/\Below w.heap.size w w':=by
 go_enter Tryd.func64,Tryd.ntmps64;go_wp2;go_ret;exact⟨rfl,bG _ _⟩
theorem leads_4 (a b:Nat)(w:World):Calls Tryd.prog 41 #[wdV 4 a b] w fun e w'=>e=.returned (.tuple #[.int .i64 ((ledTo 4 a b).getD 0:Nat),.bool (ledTo 4 a b).isSome])/\Below w.heap.size w w':=by
 go_enter Tryd.func41,Tryd.ntmps41;go_wp2;go_ret2;exact⟨rfl,bG _ _⟩
theorem fits_5 (a b r:Nat)(w:World):Calls Tryd.prog 59 #[wdV 5 a b,.int .i64 (r:Nat)] w fun e w'=>e=.returned (.bool (fitE 5 a r))/\Below w.heap.size w w':=by
 go_enter Tryd.func59,Tryd.ntmps59;go_wp2;go_ret;exact⟨ret_bool (by simp[fitE]<;>omega),bG _ _⟩
theorem opens_5 (a b:Nat)(w:World):Calls Tryd.prog 64 #[wdV 5 a b] w fun e w'=>e=.returned (.int .i64 (0))/\Below w.heap.size w w':=by
 go_enter Tryd.func64,Tryd.ntmps64;go_wp2;go_ret;exact⟨rfl,bG _ _⟩
theorem leads_5 (a b:Nat)(w:World):Calls Tryd.prog 41 #[wdV 5 a b] w fun e w'=>e=.returned (.tuple #[.int .i64 ((ledTo 5 a b).getD 0:Nat),.bool (ledTo 5 a b).isSome])/\Below w.heap.size w w':=by
 go_enter Tryd.func41,Tryd.ntmps41;go_wp2;go_ret2;exact⟨rfl,bG _ _⟩
theorem fits_6 (a b r:Nat)(w:World):Calls Tryd.prog 59 #[wdV 6 a b,.int .i64 (r:Nat)] w fun e w'=>e=.returned (.bool (fitE 6 a r))/\Below w.heap.size w w':=by
 go_enter Tryd.func59,Tryd.ntmps59;go_wp2;go_ret;exact⟨ret_bool (by simp[fitE]<;>omega),bG _ _⟩
theorem opens_6 (a b:Nat)(w:World):Calls Tryd.prog 64 #[wdV 6 a b] w fun e w'=>e=.returned (.int .i64 (0))/\Below w.heap.size w w':=by
 go_enter Tryd.func64,Tryd.ntmps64;go_wp2;go_ret;exact⟨rfl,bG _ _⟩
theorem leads_6 (a b:Nat)(w:World):Calls Tryd.prog 41 #[wdV 6 a b] w fun e w'=>e=.returned (.tuple #[.int .i64 ((ledTo 6 a b).getD 0:Nat),.bool (ledTo 6 a b).isSome])/\Below w.heap.size w w':=by
 go_enter Tryd.func41,Tryd.ntmps41;go_wp2;go_ret2;exact⟨rfl,bG _ _⟩
theorem fits_7 (a b r:Nat)(w:World):Calls Tryd.prog 59 #[wdV 7 a b,.int .i64 (r:Nat)] w fun e w'=>e=.returned (.bool (fitE 7 a r))/\Below w.heap.size w w':=by
 go_enter Tryd.func59,Tryd.ntmps59;go_wp2;go_ret;exact⟨ret_bool (by simp[fitE]<;>omega),bG _ _⟩
theorem opens_7 (a b:Nat)(w:World):Calls Tryd.prog 64 #[wdV 7 a b] w fun e w'=>e=.returned (.int .i64 (0))/\Below w.heap.size w w':=by
 go_enter Tryd.func64,Tryd.ntmps64;go_wp2;go_ret;exact⟨rfl,bG _ _⟩
theorem leads_7 (a b:Nat)(w:World):Calls Tryd.prog 41 #[wdV 7 a b] w fun e w'=>e=.returned (.tuple #[.int .i64 ((ledTo 7 a b).getD 0:Nat),.bool (ledTo 7 a b).isSome])/\Below w.heap.size w w':=by
 go_enter Tryd.func41,Tryd.ntmps41;go_wp2;go_ret2;exact⟨rfl,bG _ _⟩
theorem fits_8 (a b r:Nat)(w:World):Calls Tryd.prog 59 #[wdV 8 a b,.int .i64 (r:Nat)] w fun e w'=>e=.returned (.bool (fitE 8 a r))/\Below w.heap.size w w':=by
 go_enter Tryd.func59,Tryd.ntmps59;go_wp2;go_ret;exact⟨ret_bool (by simp[fitE]<;>omega),bG _ _⟩
theorem opens_8 (a b:Nat)(w:World):Calls Tryd.prog 64 #[wdV 8 a b] w fun e w'=>e=.returned (.int .i64 (0))/\Below w.heap.size w w':=by
 go_enter Tryd.func64,Tryd.ntmps64;go_wp2;go_ret;exact⟨rfl,bG _ _⟩
theorem leads_8 (a b:Nat)(w:World):Calls Tryd.prog 41 #[wdV 8 a b] w fun e w'=>e=.returned (.tuple #[.int .i64 ((ledTo 8 a b).getD 0:Nat),.bool (ledTo 8 a b).isSome])/\Below w.heap.size w w':=by
 go_enter Tryd.func41,Tryd.ntmps41;go_wp2;go_ret2;exact⟨rfl,bG _ _⟩
theorem fits_9 (a b r:Nat)(w:World):Calls Tryd.prog 59 #[wdV 9 a b,.int .i64 (r:Nat)] w fun e w'=>e=.returned (.bool (fitE 9 a r))/\Below w.heap.size w w':=by
 go_enter Tryd.func59,Tryd.ntmps59;go_wp2;go_ret;exact⟨ret_bool (by simp[fitE]<;>omega),bG _ _⟩
theorem opens_9 (a b:Nat)(w:World):Calls Tryd.prog 64 #[wdV 9 a b] w fun e w'=>e=.returned (.int .i64 (0))/\Below w.heap.size w w':=by
 go_enter Tryd.func64,Tryd.ntmps64;go_wp2;go_ret;exact⟨rfl,bG _ _⟩
theorem leads_9 (a b:Nat)(w:World):Calls Tryd.prog 41 #[wdV 9 a b] w fun e w'=>e=.returned (.tuple #[.int .i64 ((ledTo 9 a b).getD 0:Nat),.bool (ledTo 9 a b).isSome])/\Below w.heap.size w w':=by
 go_enter Tryd.func41,Tryd.ntmps41;go_wp2;go_ret2;exact⟨rfl,bG _ _⟩
theorem fits_10 (a b r:Nat)(w:World):Calls Tryd.prog 59 #[wdV 10 a b,.int .i64 (r:Nat)] w fun e w'=>e=.returned (.bool (fitE 10 a r))/\Below w.heap.size w w':=by
 go_enter Tryd.func59,Tryd.ntmps59;go_wp2;go_ret;exact⟨ret_bool (by simp[fitE]<;>omega),bG _ _⟩
theorem opens_10 (a b:Nat)(w:World):Calls Tryd.prog 64 #[wdV 10 a b] w fun e w'=>e=.returned (.int .i64 (0))/\Below w.heap.size w w':=by
 go_enter Tryd.func64,Tryd.ntmps64;go_wp2;go_ret;exact⟨rfl,bG _ _⟩
theorem leads_10 (a b:Nat)(w:World):Calls Tryd.prog 41 #[wdV 10 a b] w fun e w'=>e=.returned (.tuple #[.int .i64 ((ledTo 10 a b).getD 0:Nat),.bool (ledTo 10 a b).isSome])/\Below w.heap.size w w':=by
 go_enter Tryd.func41,Tryd.ntmps41;go_wp2;go_ret2;exact⟨rfl,bG _ _⟩
theorem fits_11 (a b r:Nat)(w:World):Calls Tryd.prog 59 #[wdV 11 a b,.int .i64 (r:Nat)] w fun e w'=>e=.returned (.bool (fitE 11 a r))/\Below w.heap.size w w':=by
 go_enter Tryd.func59,Tryd.ntmps59;go_wp2;go_ret;exact⟨ret_bool (by simp[fitE]<;>omega),bG _ _⟩
theorem opens_11 (a b:Nat)(w:World):Calls Tryd.prog 64 #[wdV 11 a b] w fun e w'=>e=.returned (.int .i64 (0))/\Below w.heap.size w w':=by
 go_enter Tryd.func64,Tryd.ntmps64;go_wp2;go_ret;exact⟨rfl,bG _ _⟩
theorem leads_11 (a b:Nat)(w:World):Calls Tryd.prog 41 #[wdV 11 a b] w fun e w'=>e=.returned (.tuple #[.int .i64 ((ledTo 11 a b).getD 0:Nat),.bool (ledTo 11 a b).isSome])/\Below w.heap.size w w':=by
 go_enter Tryd.func41,Tryd.ntmps41;go_wp2;go_ret2;exact⟨rfl,bG _ _⟩
theorem fits_12 (a b r:Nat)(w:World):Calls Tryd.prog 59 #[wdV 12 a b,.int .i64 (r:Nat)] w fun e w'=>e=.returned (.bool (fitE 12 a r))/\Below w.heap.size w w':=by
 go_enter Tryd.func59,Tryd.ntmps59;go_wp2;go_ret;exact⟨ret_bool (by simp[fitE]<;>omega),bG _ _⟩
theorem opens_12 (a b:Nat)(w:World):Calls Tryd.prog 64 #[wdV 12 a b] w fun e w'=>e=.returned (.int .i64 (0))/\Below w.heap.size w w':=by
 go_enter Tryd.func64,Tryd.ntmps64;go_wp2;go_ret;exact⟨rfl,bG _ _⟩
theorem leads_12 (a b:Nat)(w:World):Calls Tryd.prog 41 #[wdV 12 a b] w fun e w'=>e=.returned (.tuple #[.int .i64 ((ledTo 12 a b).getD 0:Nat),.bool (ledTo 12 a b).isSome])/\Below w.heap.size w w':=by
 go_enter Tryd.func41,Tryd.ntmps41;go_wp2;go_ret2;exact⟨rfl,bG _ _⟩
theorem fits_13 (a b r:Nat)(w:World):Calls Tryd.prog 59 #[wdV 13 a b,.int .i64 (r:Nat)] w fun e w'=>e=.returned (.bool (fitE 13 a r))/\Below w.heap.size w w':=by
 go_enter Tryd.func59,Tryd.ntmps59;go_wp2;go_ret;exact⟨ret_bool (by simp[fitE]<;>omega),bG _ _⟩
theorem opens_13 (a b:Nat)(w:World):Calls Tryd.prog 64 #[wdV 13 a b] w fun e w'=>e=.returned (.int .i64 (0))/\Below w.heap.size w w':=by
 go_enter Tryd.func64,Tryd.ntmps64;go_wp2;go_ret;exact⟨rfl,bG _ _⟩
theorem leads_13 (a b:Nat)(w:World):Calls Tryd.prog 41 #[wdV 13 a b] w fun e w'=>e=.returned (.tuple #[.int .i64 ((ledTo 13 a b).getD 0:Nat),.bool (ledTo 13 a b).isSome])/\Below w.heap.size w w':=by
 go_enter Tryd.func41,Tryd.ntmps41;go_wp2;go_ret2;exact⟨rfl,bG _ _⟩
theorem fits_14 (a b r:Nat)(w:World):Calls Tryd.prog 59 #[wdV 14 a b,.int .i64 (r:Nat)] w fun e w'=>e=.returned (.bool (fitE 14 a r))/\Below w.heap.size w w':=by
 go_enter Tryd.func59,Tryd.ntmps59;go_wp2;go_ret;exact⟨ret_bool (by simp[fitE]<;>omega),bG _ _⟩
theorem opens_14 (a b:Nat)(w:World):Calls Tryd.prog 64 #[wdV 14 a b] w fun e w'=>e=.returned (.int .i64 (0))/\Below w.heap.size w w':=by
 go_enter Tryd.func64,Tryd.ntmps64;go_wp2;go_ret;exact⟨rfl,bG _ _⟩
theorem leads_14 (a b:Nat)(w:World):Calls Tryd.prog 41 #[wdV 14 a b] w fun e w'=>e=.returned (.tuple #[.int .i64 ((ledTo 14 a b).getD 0:Nat),.bool (ledTo 14 a b).isSome])/\Below w.heap.size w w':=by
 go_enter Tryd.func41,Tryd.ntmps41;go_wp2;go_ret2;exact⟨rfl,bG _ _⟩
theorem fits_15 (a b r:Nat)(w:World):Calls Tryd.prog 59 #[wdV 15 a b,.int .i64 (r:Nat)] w fun e w'=>e=.returned (.bool (fitE 15 a r))/\Below w.heap.size w w':=by
 go_enter Tryd.func59,Tryd.ntmps59;go_wp2;go_ret;exact⟨ret_bool (by simp[fitE]<;>omega),bG _ _⟩
theorem opens_15 (a b:Nat)(w:World):Calls Tryd.prog 64 #[wdV 15 a b] w fun e w'=>e=.returned (.int .i64 (0))/\Below w.heap.size w w':=by
 go_enter Tryd.func64,Tryd.ntmps64;go_wp2;go_ret;exact⟨rfl,bG _ _⟩
theorem leads_15 (a b:Nat)(w:World):Calls Tryd.prog 41 #[wdV 15 a b] w fun e w'=>e=.returned (.tuple #[.int .i64 ((ledTo 15 a b).getD 0:Nat),.bool (ledTo 15 a b).isSome])/\Below w.heap.size w w':=by
 go_enter Tryd.func41,Tryd.ntmps41;go_wp2;go_ret2;exact⟨rfl,bG _ _⟩
theorem fits_16 (a b r:Nat)(w:World):Calls Tryd.prog 59 #[wdV 16 a b,.int .i64 (r:Nat)] w fun e w'=>e=.returned (.bool (fitE 16 a r))/\Below w.heap.size w w':=by
 go_enter Tryd.func59,Tryd.ntmps59;go_wp2;go_ret;exact⟨ret_bool (by simp[fitE]<;>omega),bG _ _⟩
theorem opens_16 (a b:Nat)(w:World):Calls Tryd.prog 64 #[wdV 16 a b] w fun e w'=>e=.returned (.int .i64 (0))/\Below w.heap.size w w':=by
 go_enter Tryd.func64,Tryd.ntmps64;go_wp2;go_ret;exact⟨rfl,bG _ _⟩
theorem leads_16 (a b:Nat)(w:World):Calls Tryd.prog 41 #[wdV 16 a b] w fun e w'=>e=.returned (.tuple #[.int .i64 ((ledTo 16 a b).getD 0:Nat),.bool (ledTo 16 a b).isSome])/\Below w.heap.size w w':=by
 go_enter Tryd.func41,Tryd.ntmps41;go_wp2;go_ret2;exact⟨rfl,bG _ _⟩
theorem fits_17 (a b r:Nat)(w:World):Calls Tryd.prog 59 #[wdV 17 a b,.int .i64 (r:Nat)] w fun e w'=>e=.returned (.bool (fitE 17 a r))/\Below w.heap.size w w':=by
 go_enter Tryd.func59,Tryd.ntmps59;go_wp2;go_ret;exact⟨ret_bool (by simp[fitE]<;>omega),bG _ _⟩
theorem opens_17 (a b:Nat)(w:World):Calls Tryd.prog 64 #[wdV 17 a b] w fun e w'=>e=.returned (.int .i64 (0))/\Below w.heap.size w w':=by
 go_enter Tryd.func64,Tryd.ntmps64;go_wp2;go_ret;exact⟨rfl,bG _ _⟩
theorem leads_17 (a b:Nat)(w:World):Calls Tryd.prog 41 #[wdV 17 a b] w fun e w'=>e=.returned (.tuple #[.int .i64 ((ledTo 17 a b).getD 0:Nat),.bool (ledTo 17 a b).isSome])/\Below w.heap.size w w':=by
 go_enter Tryd.func41,Tryd.ntmps41;go_wp2;go_ret2;exact⟨rfl,bG _ _⟩
theorem fits_18 (a b r:Nat)(w:World):Calls Tryd.prog 59 #[wdV 18 a b,.int .i64 (r:Nat)] w fun e w'=>e=.returned (.bool (fitE 18 a r))/\Below w.heap.size w w':=by
 go_enter Tryd.func59,Tryd.ntmps59;go_wp2;go_ret;exact⟨ret_bool (by simp[fitE]<;>omega),bG _ _⟩
theorem opens_18 (a b:Nat)(w:World):Calls Tryd.prog 64 #[wdV 18 a b] w fun e w'=>e=.returned (.int .i64 (0))/\Below w.heap.size w w':=by
 go_enter Tryd.func64,Tryd.ntmps64;go_wp2;go_ret;exact⟨rfl,bG _ _⟩
theorem leads_18 (a b:Nat)(w:World):Calls Tryd.prog 41 #[wdV 18 a b] w fun e w'=>e=.returned (.tuple #[.int .i64 ((ledTo 18 a b).getD 0:Nat),.bool (ledTo 18 a b).isSome])/\Below w.heap.size w w':=by
 go_enter Tryd.func41,Tryd.ntmps41;go_wp2;go_ret2;exact⟨rfl,bG _ _⟩
theorem fits_19 (a b r:Nat)(w:World):Calls Tryd.prog 59 #[wdV 19 a b,.int .i64 (r:Nat)] w fun e w'=>e=.returned (.bool (fitE 19 a r))/\Below w.heap.size w w':=by
 go_enter Tryd.func59,Tryd.ntmps59;go_wp2;go_ret;exact⟨ret_bool (by simp[fitE]<;>omega),bG _ _⟩
theorem opens_19 (a b:Nat)(w:World):Calls Tryd.prog 64 #[wdV 19 a b] w fun e w'=>e=.returned (.int .i64 (0))/\Below w.heap.size w w':=by
 go_enter Tryd.func64,Tryd.ntmps64;go_wp2;go_ret;exact⟨rfl,bG _ _⟩
theorem leads_19 (a b:Nat)(w:World):Calls Tryd.prog 41 #[wdV 19 a b] w fun e w'=>e=.returned (.tuple #[.int .i64 ((ledTo 19 a b).getD 0:Nat),.bool (ledTo 19 a b).isSome])/\Below w.heap.size w w':=by
 go_enter Tryd.func41,Tryd.ntmps41;go_wp2;go_ret2;exact⟨rfl,bG _ _⟩
theorem fits_20 (a b r:Nat)(w:World):Calls Tryd.prog 59 #[wdV 20 a b,.int .i64 (r:Nat)] w fun e w'=>e=.returned (.bool (fitE 20 a r))/\Below w.heap.size w w':=by
 go_enter Tryd.func59,Tryd.ntmps59;go_wp2;go_ret;exact⟨ret_bool (by simp[fitE]<;>omega),bG _ _⟩
theorem opens_20 (a b:Nat)(w:World):Calls Tryd.prog 64 #[wdV 20 a b] w fun e w'=>e=.returned (.int .i64 (1))/\Below w.heap.size w w':=by
 go_enter Tryd.func64,Tryd.ntmps64;go_wp2;go_ret;exact⟨rfl,bG _ _⟩
theorem leads_20 (a b:Nat)(w:World):Calls Tryd.prog 41 #[wdV 20 a b] w fun e w'=>e=.returned (.tuple #[.int .i64 ((ledTo 20 a b).getD 0:Nat),.bool (ledTo 20 a b).isSome])/\Below w.heap.size w w':=by
 go_enter Tryd.func41,Tryd.ntmps41;go_wp2;go_ret2;exact⟨rfl,bG _ _⟩
theorem fits_21 (a b r:Nat)(w:World):Calls Tryd.prog 59 #[wdV 21 a b,.int .i64 (r:Nat)] w fun e w'=>e=.returned (.bool (fitE 21 a r))/\Below w.heap.size w w':=by
 go_enter Tryd.func59,Tryd.ntmps59;go_wp2;go_ret;exact⟨ret_bool (by simp[fitE]<;>omega),bG _ _⟩
theorem opens_21 (a b:Nat)(w:World):Calls Tryd.prog 64 #[wdV 21 a b] w fun e w'=>e=.returned (.int .i64 (1))/\Below w.heap.size w w':=by
 go_enter Tryd.func64,Tryd.ntmps64;go_wp2;go_ret;exact⟨rfl,bG _ _⟩
theorem leads_21 (a b:Nat)(w:World):Calls Tryd.prog 41 #[wdV 21 a b] w fun e w'=>e=.returned (.tuple #[.int .i64 ((ledTo 21 a b).getD 0:Nat),.bool (ledTo 21 a b).isSome])/\Below w.heap.size w w':=by
 go_enter Tryd.func41,Tryd.ntmps41;go_wp2;go_ret2;exact⟨rfl,bG _ _⟩
theorem fits_22 (a b r:Nat)(w:World):Calls Tryd.prog 59 #[wdV 22 a b,.int .i64 (r:Nat)] w fun e w'=>e=.returned (.bool (fitE 22 a r))/\Below w.heap.size w w':=by
 go_enter Tryd.func59,Tryd.ntmps59;go_wp2;go_ret;exact⟨ret_bool (by simp[fitE]<;>omega),bG _ _⟩
theorem opens_22 (a b:Nat)(w:World):Calls Tryd.prog 64 #[wdV 22 a b] w fun e w'=>e=.returned (.int .i64 (1))/\Below w.heap.size w w':=by
 go_enter Tryd.func64,Tryd.ntmps64;go_wp2;go_ret;exact⟨rfl,bG _ _⟩
theorem leads_22 (a b:Nat)(w:World):Calls Tryd.prog 41 #[wdV 22 a b] w fun e w'=>e=.returned (.tuple #[.int .i64 ((ledTo 22 a b).getD 0:Nat),.bool (ledTo 22 a b).isSome])/\Below w.heap.size w w':=by
 go_enter Tryd.func41,Tryd.ntmps41;go_wp2;go_ret2;exact⟨rfl,bG _ _⟩
theorem fits_23 (a b r:Nat)(w:World):Calls Tryd.prog 59 #[wdV 23 a b,.int .i64 (r:Nat)] w fun e w'=>e=.returned (.bool (fitE 23 a r))/\Below w.heap.size w w':=by
 go_enter Tryd.func59,Tryd.ntmps59;go_wp2;go_ret;exact⟨ret_bool (by simp[fitE]<;>omega),bG _ _⟩
theorem opens_23 (a b:Nat)(w:World):Calls Tryd.prog 64 #[wdV 23 a b] w fun e w'=>e=.returned (.int .i64 (1))/\Below w.heap.size w w':=by
 go_enter Tryd.func64,Tryd.ntmps64;go_wp2;go_ret;exact⟨rfl,bG _ _⟩
theorem leads_23 (a b:Nat)(w:World):Calls Tryd.prog 41 #[wdV 23 a b] w fun e w'=>e=.returned (.tuple #[.int .i64 ((ledTo 23 a b).getD 0:Nat),.bool (ledTo 23 a b).isSome])/\Below w.heap.size w w':=by
 go_enter Tryd.func41,Tryd.ntmps41;go_wp2;go_ret2;exact⟨rfl,bG _ _⟩
theorem fits_24 (a b r:Nat)(w:World):Calls Tryd.prog 59 #[wdV 24 a b,.int .i64 (r:Nat)] w fun e w'=>e=.returned (.bool (fitE 24 a r))/\Below w.heap.size w w':=by
 go_enter Tryd.func59,Tryd.ntmps59;go_wp2;go_ret;exact⟨ret_bool (by simp[fitE]<;>omega),bG _ _⟩
theorem opens_24 (a b:Nat)(w:World):Calls Tryd.prog 64 #[wdV 24 a b] w fun e w'=>e=.returned (.int .i64 (0))/\Below w.heap.size w w':=by
 go_enter Tryd.func64,Tryd.ntmps64;go_wp2;go_ret;exact⟨rfl,bG _ _⟩
theorem leads_24 (a b:Nat)(w:World):Calls Tryd.prog 41 #[wdV 24 a b] w fun e w'=>e=.returned (.tuple #[.int .i64 ((ledTo 24 a b).getD 0:Nat),.bool (ledTo 24 a b).isSome])/\Below w.heap.size w w':=by
 go_enter Tryd.func41,Tryd.ntmps41;go_wp2;go_ret2;exact⟨rfl,bG _ _⟩
theorem fits_25 (a b r:Nat)(w:World):Calls Tryd.prog 59 #[wdV 25 a b,.int .i64 (r:Nat)] w fun e w'=>e=.returned (.bool (fitE 25 a r))/\Below w.heap.size w w':=by
 go_enter Tryd.func59,Tryd.ntmps59;go_wp2;go_ret;exact⟨ret_bool (by simp[fitE]<;>omega),bG _ _⟩
theorem opens_25 (a b:Nat)(w:World):Calls Tryd.prog 64 #[wdV 25 a b] w fun e w'=>e=.returned (.int .i64 (-1))/\Below w.heap.size w w':=by
 go_enter Tryd.func64,Tryd.ntmps64;go_wp2;go_ret;exact⟨rfl,bG _ _⟩
theorem leads_25 (a b:Nat)(w:World):Calls Tryd.prog 41 #[wdV 25 a b] w fun e w'=>e=.returned (.tuple #[.int .i64 ((ledTo 25 a b).getD 0:Nat),.bool (ledTo 25 a b).isSome])/\Below w.heap.size w w':=by
 go_enter Tryd.func41,Tryd.ntmps41;go_wp2;go_ret2;exact⟨rfl,bG _ _⟩
theorem fits_26 (a b r:Nat)(w:World):Calls Tryd.prog 59 #[wdV 26 a b,.int .i64 (r:Nat)] w fun e w'=>e=.returned (.bool (fitE 26 a r))/\Below w.heap.size w w':=by
 go_enter Tryd.func59,Tryd.ntmps59;go_wp2;go_ret;exact⟨ret_bool (by simp[fitE]<;>omega),bG _ _⟩
theorem opens_26 (a b:Nat)(w:World):Calls Tryd.prog 64 #[wdV 26 a b] w fun e w'=>e=.returned (.int .i64 (0))/\Below w.heap.size w w':=by
 go_enter Tryd.func64,Tryd.ntmps64;go_wp2;go_ret;exact⟨rfl,bG _ _⟩
theorem leads_26 (a b:Nat)(w:World):Calls Tryd.prog 41 #[wdV 26 a b] w fun e w'=>e=.returned (.tuple #[.int .i64 ((ledTo 26 a b).getD 0:Nat),.bool (ledTo 26 a b).isSome])/\Below w.heap.size w w':=by
 go_enter Tryd.func41,Tryd.ntmps41;go_wp2;go_ret2;exact⟨rfl,bG _ _⟩
theorem fits_27 (a b r:Nat)(w:World):Calls Tryd.prog 59 #[wdV 27 a b,.int .i64 (r:Nat)] w fun e w'=>e=.returned (.bool (fitE 27 a r))/\Below w.heap.size w w':=by
 go_enter Tryd.func59,Tryd.ntmps59;go_wp2;go_ret;exact⟨ret_bool (by simp[fitE]<;>omega),bG _ _⟩
theorem opens_27 (a b:Nat)(w:World):Calls Tryd.prog 64 #[wdV 27 a b] w fun e w'=>e=.returned (.int .i64 (0))/\Below w.heap.size w w':=by
 go_enter Tryd.func64,Tryd.ntmps64;go_wp2;go_ret;exact⟨rfl,bG _ _⟩
theorem leads_27 (a b:Nat)(w:World):Calls Tryd.prog 41 #[wdV 27 a b] w fun e w'=>e=.returned (.tuple #[.int .i64 ((ledTo 27 a b).getD 0:Nat),.bool (ledTo 27 a b).isSome])/\Below w.heap.size w w':=by
 go_enter Tryd.func41,Tryd.ntmps41;go_wp2;go_ret2;exact⟨rfl,bG _ _⟩
theorem fits_c (o a b r:Nat)(ho:o<28)(w:World):Calls Tryd.prog 59 #[wdV o a b,.int .i64 (r:Nat)] w fun e w'=>e=.returned (.bool (fitE o a r))/\Below w.heap.size w w':=by
 match o,ho with
 | 0,_=>exact fits_0 a b r w
 | 1,_=>exact fits_1 a b r w
 | 2,_=>exact fits_2 a b r w
 | 3,_=>exact fits_3 a b r w
 | 4,_=>exact fits_4 a b r w
 | 5,_=>exact fits_5 a b r w
 | 6,_=>exact fits_6 a b r w
 | 7,_=>exact fits_7 a b r w
 | 8,_=>exact fits_8 a b r w
 | 9,_=>exact fits_9 a b r w
 | 10,_=>exact fits_10 a b r w
 | 11,_=>exact fits_11 a b r w
 | 12,_=>exact fits_12 a b r w
 | 13,_=>exact fits_13 a b r w
 | 14,_=>exact fits_14 a b r w
 | 15,_=>exact fits_15 a b r w
 | 16,_=>exact fits_16 a b r w
 | 17,_=>exact fits_17 a b r w
 | 18,_=>exact fits_18 a b r w
 | 19,_=>exact fits_19 a b r w
 | 20,_=>exact fits_20 a b r w
 | 21,_=>exact fits_21 a b r w
 | 22,_=>exact fits_22 a b r w
 | 23,_=>exact fits_23 a b r w
 | 24,_=>exact fits_24 a b r w
 | 25,_=>exact fits_25 a b r w
 | 26,_=>exact fits_26 a b r w
 | 27,_=>exact fits_27 a b r w
 | n+28,h=>omega
def opnI (o:Nat):Int:=if 20<=o/\o<=23 then 1 else if o=25 then -1 else 0
theorem opens_c (o a b:Nat)(ho:o<28)(w:World):Calls Tryd.prog 64 #[wdV o a b] w fun e w'=>e=.returned (.int .i64 (opnI o))/\Below w.heap.size w w':=by
 match o,ho with
 | 0,_=>exact opens_0 a b w
 | 1,_=>exact opens_1 a b w
 | 2,_=>exact opens_2 a b w
 | 3,_=>exact opens_3 a b w
 | 4,_=>exact opens_4 a b w
 | 5,_=>exact opens_5 a b w
 | 6,_=>exact opens_6 a b w
 | 7,_=>exact opens_7 a b w
 | 8,_=>exact opens_8 a b w
 | 9,_=>exact opens_9 a b w
 | 10,_=>exact opens_10 a b w
 | 11,_=>exact opens_11 a b w
 | 12,_=>exact opens_12 a b w
 | 13,_=>exact opens_13 a b w
 | 14,_=>exact opens_14 a b w
 | 15,_=>exact opens_15 a b w
 | 16,_=>exact opens_16 a b w
 | 17,_=>exact opens_17 a b w
 | 18,_=>exact opens_18 a b w
 | 19,_=>exact opens_19 a b w
 | 20,_=>exact opens_20 a b w
 | 21,_=>exact opens_21 a b w
 | 22,_=>exact opens_22 a b w
 | 23,_=>exact opens_23 a b w
 | 24,_=>exact opens_24 a b w
 | 25,_=>exact opens_25 a b w
 | 26,_=>exact opens_26 a b w
 | 27,_=>exact opens_27 a b w
 | n+28,h=>omega
theorem leads_c (o a b:Nat)(ho:o<28)(w:World):Calls Tryd.prog 41 #[wdV o a b] w fun e w'=>e=.returned (.tuple #[.int .i64 ((ledTo o a b).getD 0:Nat),.bool (ledTo o a b).isSome])/\Below w.heap.size w w':=by
 match o,ho with
 | 0,_=>exact leads_0 a b w
 | 1,_=>exact leads_1 a b w
 | 2,_=>exact leads_2 a b w
 | 3,_=>exact leads_3 a b w
 | 4,_=>exact leads_4 a b w
 | 5,_=>exact leads_5 a b w
 | 6,_=>exact leads_6 a b w
 | 7,_=>exact leads_7 a b w
 | 8,_=>exact leads_8 a b w
 | 9,_=>exact leads_9 a b w
 | 10,_=>exact leads_10 a b w
 | 11,_=>exact leads_11 a b w
 | 12,_=>exact leads_12 a b w
 | 13,_=>exact leads_13 a b w
 | 14,_=>exact leads_14 a b w
 | 15,_=>exact leads_15 a b w
 | 16,_=>exact leads_16 a b w
 | 17,_=>exact leads_17 a b w
 | 18,_=>exact leads_18 a b w
 | 19,_=>exact leads_19 a b w
 | 20,_=>exact leads_20 a b w
 | 21,_=>exact leads_21 a b w
 | 22,_=>exact leads_22 a b w
 | 23,_=>exact leads_23 a b w
 | 24,_=>exact leads_24 a b w
 | 25,_=>exact leads_25 a b w
 | 26,_=>exact leads_26 a b w
 | 27,_=>exact leads_27 a b w
 | n+28,h=>omega
theorem opn_int {o a r:Nat}(h:fitE o a r=true):((r:Nat):Int)+opnI o=((opnE o r:Nat):Int):=by
 unfold fitE at h;unfold opnI opnE;by_cases h1:20<=o/\o<=23
 ·rw[if_pos h1,if_pos h1];omega
 ·rw[if_neg h1,if_neg h1];by_cases h2:o=25
  ·subst h2;simp at h;rw[if_pos rfl,if_pos rfl];omega
  ·rw[if_neg h2,if_neg h2];omega
theorem partsOf_c (c:Cd)(k:Nat)(hk:k<c.ws.length)(ho:c.Ok)(w:World)(hT:TabG w):Calls Tryd.prog 37 #[.int .u64 (c.ws.getD k 0)] w fun e w'=>e=.returned (wdV (opN c k) (aN c k) (bN c k))/\Below w.heap.size w w':=by
 have hu:=ho.ws _ (List.getElem_mem hk);have e:c.ws.getD k 0=c.ws[k]:=by simp[List.getD_eq_getElem?_getD,List.getElem?_eq_getElem hk]
 have HP:=fun wx hx=>parts_anyG (c.ws.getD k 0) wx hx (by rw[e];exact hu.1) (by rw[e];exact hu.2);have h1:((opN c k:Nat):Int)=c.ws.getD k 0 / 72057594037927936:=by rw[opN,opW,e];omega
 have h2:((aN c k:Nat):Int)=c.ws.getD k 0 / 268435456 % 268435456:=by rw[aN,aW,e];omega
 have h3:((bN c k:Nat):Int)=c.ws.getD k 0 % 268435456:=by rw[bN,bW,e];omega
 rw[<-h1,<-h2,<-h3] at HP;clear h1 h2 h3 e hu;generalize opN c k=o at *;generalize aN c k=a at *;generalize bN c k=b at *;generalize c.ws.getD k 0=u at *;obtain⟨g,hg⟩:∃g,g=w.heap.size:=⟨_,rfl⟩
 obtain⟨w1,hw1⟩:∃w1,w1=w.alloc (.cells #[.int .i64 0,.int .i64 0,.int .i64 0] 84):=⟨_,rfl⟩
 have B1:Below w.heap.size w w1:=by rw[hw1];exact bG _ _
 have h1:w1.heap[g]?=some (.cells #[.int .i64 0,.int .i64 0,.int .i64 0] 84 (0,0)):=by rw[hw1,hg];exact h1G _ _
 have hl:g<w1.heap.size:=lt_of_block h1;have HG:=Lib.hid hg;have T1:=hT.below B1;clear hT hg;go_enter Tryd.func37,Tryd.ntmps37;go_wp2_with fail;rw[<-hw1,<-HG.out];clear hw1;refine(HP _ T1).mono ?_;rintro e w2 ⟨rfl,B2⟩;have h2:=(B2.block g hl).trans h1;have BB:=B1.trans (B2.mono B1.size);clear HP T1 h1 B1 B2;have c0:w2.cell? ⟨g,0,none⟩=some (.int .i64 0):=by rw[cell_of_row _ _ _ _ _ _ h2];rfl
 have c1:w2.cell? ⟨g,1,none⟩=some (.int .i64 0):=by rw[cell_of_row _ _ _ _ _ _ h2];rfl
 have c2:w2.cell? ⟨g,2,none⟩=some (.int .i64 0):=by rw[cell_of_row _ _ _ _ _ _ h2];rfl
 have f0:=frozen_of_row w2 g 0 _ _ h2;have f1:=frozen_of_row w2 g 1 _ _ h2;have f2:=frozen_of_row w2 g 2 _ _ h2;have BE:Below w.heap.size w (((w2.setCell ⟨g,0,none⟩ (.int .i64 (o:Nat))).setCell ⟨g,1,none⟩ (.int .i64 (a:Nat))).setCell ⟨g,2,none⟩ (.int .i64 (b:Nat))):=((BB.setCell (p:=⟨g,0,none⟩) (by show _<=g;rw[HG.out];exact Nat.le_refl _) _).setCell (p:=⟨g,1,none⟩) (by show _<=g;rw[HG.out];exact Nat.le_refl _) _).setCell (p:=⟨g,2,none⟩) (by show _<=g;rw[HG.out];exact Nat.le_refl _) _;have hE:(((w2.setCell ⟨g,0,none⟩ (.int .i64 (o:Nat))).setCell ⟨g,1,none⟩ (.int .i64 (a:Nat))).setCell ⟨g,2,none⟩ (.int .i64 (b:Nat))).heap[g]?=some (.cells #[.int .i64 (o:Nat),.int .i64 (a:Nat),.int .i64 (b:Nat)] 84 (0,0)) :=
  heap_setCell_same _ _ 2 _ _ _ (heap_setCell_same _ _ 1 _ _ _ (heap_setCell_same _ _ 0 _ _ _ h2))
 have u0:(((w2.setCell ⟨g,0,none⟩ (.int .i64 (o:Nat))).setCell ⟨g,1,none⟩ (.int .i64 (a:Nat))).setCell ⟨g,2,none⟩ (.int .i64 (b:Nat))).cell? ⟨g,0,none⟩=some (.int .i64 (o:Nat)):=by rw[cell_of_row _ _ _ _ _ _ hE];rfl
 have u1:(((w2.setCell ⟨g,0,none⟩ (.int .i64 (o:Nat))).setCell ⟨g,1,none⟩ (.int .i64 (a:Nat))).setCell ⟨g,2,none⟩ (.int .i64 (b:Nat))).cell? ⟨g,1,none⟩=some (.int .i64 (a:Nat)):=by rw[cell_of_row _ _ _ _ _ _ hE];rfl
 have u2:(((w2.setCell ⟨g,0,none⟩ (.int .i64 (o:Nat))).setCell ⟨g,1,none⟩ (.int .i64 (a:Nat))).setCell ⟨g,2,none⟩ (.int .i64 (b:Nat))).cell? ⟨g,2,none⟩=some (.int .i64 (b:Nat)):=by rw[cell_of_row _ _ _ _ _ _ hE];rfl
 have HBE:=Lib.hid BE;clear BE hE h2 BB;go_wp2;exact bodyPost_ret (v:=wdV o a b) (by simp[results,Tryd.results37,go_sem,u0,u1,u2]) rfl ⟨rfl,HBE.out⟩
end Go.Proofs.YtejnhibajmncaaaDoor

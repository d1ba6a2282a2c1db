import Derived.Test.YtejnhibajmncaaaDoorGdB
set_option maxRecDepth 100000
set_option maxHeartbeats 8000000
namespace Go.Proofs.YtejnhibajmncaaaDoor
open Go.ChangeShapes Go.WideShapes Go.ChangeAt Go.RowKit
set_option linter.unusedVariables false
set_option linter.unusedSimpArgs false
def InG (w:World)(m:Nat)(v:Value)(xs:List Nat):Prop :=
 ∃(ao:Option Addr) (cap:Nat),v=.slice ao xs.length cap/\(xs=[]\/∃b off,ao=some ⟨b,off,none⟩/\m<=b/\b<w.heap.size/\∀ (j x:Nat),xs[j]?=some x->w.cell? ⟨b,off+j,none⟩=some (.int .i64 (x:Nat)))
theorem InG.below {w w':World}{m:Nat}{v:Value}{xs:List Nat}(h:InG w m v xs)(B:Below w.heap.size w w'):InG w' m v xs:=by
 obtain⟨ao,cap,hv,h|⟨b,off,h1,h2,h3,h4⟩⟩:=h
 ·exact⟨ao,cap,hv,.inl h⟩
 ·exact⟨ao,cap,hv,.inr ⟨b,off,h1,h2,Nat.lt_of_lt_of_le h3 B.size,fun j x hx=>(B.cell (p:=⟨b,off+j,none⟩) h3).trans (h4 j x hx)⟩⟩
theorem lY (n:Nat)(hn:n<=100000):bits BinOp.and IntKind.u64 (n:Int) 4294967295=n:=by
 have h:=bits_and_u64_nat n 4294967295 (by omega) (by omega);have h2:n &&& 4294967295=n:=by
  have:=Nat.and_two_pow_sub_one_eq_mod n 32
  rw[show (2 ^ 32-1:Nat)=4294967295 from rfl] at this;rw[this];exact Nat.mod_eq_of_lt (by omega)
 rw[h2] at h;exact h
theorem qL (n:Nat)(hn:n<=100000)(w:World):Calls Tryd.prog 87 #[.int .u64 1,.int .u64 (n:Nat)] w fun x w'=>x=.returned (.tuple #[.int .u64 0,.int .u64 (n:Nat)])/\w'=w:=by
 have a1:bits BinOp.and IntKind.u64 1 4294967295=1:=lY 1 (by omega);have a0:bits BinOp.and IntKind.u64 0 4294967295=0:=lY 0 (by omega);have an:=lY n hn;have d0:(n:Int) / 4294967296=0:=by omega
 go_enter Tryd.func87,Tryd.ntmps87;go_wp2;exact bodyPost_ret (v:=.tuple #[.int .u64 0,.int .u64 (n:Nat)]) (by simp[results,Tryd.results87,go_sem]) rfl ⟨rfl,rfl⟩
theorem wE (n:Nat)(hn:n<=100000)(w:World):Calls Tryd.prog 85 #[.int .u64 1,.int .u64 (n:Nat)] w fun x w'=>x=.returned (.tuple #[.int .u64 0,.int .u64 (n:Nat)])/\w'=w:=by
 have m1:=fun w=>qL n hn w;go_enter Tryd.func85,Tryd.ntmps85;go_wp2_with fail;refine(m1 _).mono ?_;rintro z w1 ⟨rfl,rfl⟩;go_wp2;exact bodyPost_ret (v:=.tuple #[.int .u64 0,.int .u64 (n:Nat)]) (by simp[results,Tryd.results85,go_sem]) rfl ⟨rfl,rfl⟩
theorem nP:(Tryd.prog.info? 3).map (fun i=>(i.zero,i.size,i.bytes))=some (some (.int .i64 0),1,8):=by kernel_rfl
theorem mE {cur cs:List Value}{k:Nat}{v:Value}(hc:∀ j,j<k->cur[j]?=some v)(hs:∀ j,j<cs.length->cs[j]?=some v)(hk:k+cs.length<=cur.length):∀ j,j<k+cs.length->(splice cur k cs)[j]?=some v:=by
 intro j hj;unfold splice;rcases Nat.lt_or_ge j k with h1|h1
 ·rw[List.getElem?_append_left (by simp;omega),List.getElem?_take_of_lt h1];exact hc j h1
 ·have hl:(cur.take k).length=k:=by simp;omega
  rw[List.getElem?_append_right (by omega),hl,List.getElem?_append_left (by omega)];exact hs (j-k) (by omega)
theorem gr {P:Program}{w:World}(dT sT ty elem:TypeId)(hu:P.underlying dT=some (.slice elem))(hsz:(P.info? elem).map (·.size)=some 1)
  (dp sp:Option Addr) (dLen dCap sLen sCap:Nat) (g off:Nat) (cur:List Value) (t:TypeId) (hg:w.heap[g]?=some (.cells cur.toArray t (0,0))) (cs:List Value) (hn:cs.length=Nat.min sLen dLen)
  (hpos:0<cs.length->dp=some ⟨g,off,none⟩/\∃ad,sp=some ad/\∀ j v,cs[j]?=some v->w.cell? (ad.add j)=some v)
  (hfit:off+cs.length<=cur.length) (h1:∀ v ∈ cs,v.oneCell'=true) :
  ∃w',(Builtin.copy_ #[dT,sT] ty #[.slice dp dLen dCap,.slice sp sLen sCap]).run P w=.ok (goInt cs.length) w'/\w'.heap[g]?=some (.cells (splice cur off cs).toArray t (0,0))/\Below g w w':=by
 by_cases h0:cs.length=0
 ·obtain rfl:cs=[]:=List.eq_nil_of_length_eq_zero h0;have hrun:=run_copy_none (P:=P) w dT sT ty elem dp sp dLen dCap sLen sCap hu hsz (by simpa using hn.symm);exact⟨w,hrun,by simpa [splice] using hg,Below.refl _ _⟩
 ·obtain⟨rfl,ad,rfl,hsrc⟩:=hpos (by omega);have hrun:=run_copy_row (P:=P) w dT sT ty elem g off dLen dCap ad sLen sCap cur.toArray t cs hu hsz hg hn hsrc (by simpa using hfit) h1;exact⟨_,hrun,by simpa [splice] using setRow_heap w g _ _ t _ hg,below_setRow (Below.refl _ _) (Nat.le_refl _) _⟩
theorem nW (w:World)(b off c n:Nat)(hn:n<=100000)(hb:b<w.heap.size)(hc:w.cell? ⟨b,off,none⟩=some (.int .i64 3)) :
  Calls Tryd.prog 84 #[.slice (some ⟨b,off,none⟩) 1 c,.int .i64 (n:Nat)] w fun x w'=>∃v,x=.returned v/\InG w' w.heap.size v (List.replicate n 3)/\Below w.heap.size w w':=by
 obtain⟨ii,hii,hzi0,hzi1,hzi2⟩:=bh nP;have mk:∀ w:World,(Instr.makeSlice 25 (.int .i64 (n:Nat)) (.int .i64 (n:Nat))).run Tryd.prog w=.ok (.slice (some ⟨w.heap.size,0,none⟩) n n) (w.alloc (.cells (madeCells (Value.int .i64 0).cells (n*1)) 3)):=fun w=>by
  have:=run_make (P:=Tryd.prog) w 25 3 ii _ Tryd.underlying25 hii hzi0 .i64 .i64 n n (by omega) (Int.le_refl _) (by rw[hzi2];omega) (by omega)
  rw[hzi1] at this;simpa only[Int.toNat_natCast] using this
 obtain⟨X,hX,hXl⟩:∃X:List Value,madeCells (Value.int .i64 0).cells (n*1)=X.toArray/\X.length=n:=⟨(madeCells (Value.int .i64 0).cells (n*1)).toList,by simp,by simp[madeCells,Value.cells]⟩
 rw[hX] at mk;have B0:Below w.heap.size w (w.alloc (.cells X.toArray 3)):=(Below.refl _ w).alloc (Nat.le_refl _) _;have E0:(w.alloc (.cells X.toArray 3)).heap[w.heap.size]?=some (.cells X.toArray 3 (0,0)):=heap_alloc_new w _;have c0:=(B0.cell (p:=⟨b,off,none⟩) hb).trans hc;have m1:=fun w=>wE n hn w;clear hX hc;go_enter Tryd.func84,Tryd.ntmps84;go_wp2_with fail;refine(m1 _).mono ?_;rintro z w1 ⟨rfl,rfl⟩;go_upto_region 7 with fail;generalize w1.alloc (.cells X.toArray 3)=w0 at *;obtain⟨g,hg⟩:∃g,g=w1.heap.size:=⟨_,rfl⟩
 rw[<-hg] at E0 ⊢;have HG:Hid (g=w1.heap.size):=hg;have hgs:(Tryd.prog.info? 3).map (·.size)=some 1:=by rw[hii];simp[hzi1]
 obtain⟨cs,hcs⟩:∃cs,cs=List.replicate (min 1 n) (Value.int .i64 3):=⟨_,rfl⟩
 have hcl:cs.length=min 1 n:=by rw[hcs];simp
 have hcv:∀ j v,cs[j]?=some v->j=0/\v=Value.int .i64 3:=by
  intro j v hv;rw[hcs,List.getElem?_replicate] at hv;split at hv
  ·injection hv with hv
   exact⟨by omega,hv.symm⟩
  ·cases hv
 have hca:∀ j,j<cs.length->cs[j]?=some (Value.int .i64 3):=by
  intro j hj;rw[hcs,List.getElem?_replicate];rw[hcl] at hj;rw[if_pos hj]
 clear hcs hg;obtain⟨w2,hr2,hg2,hb2⟩:=gr (P:=Tryd.prog) (w:=w0) 25 25 3 3 Tryd.underlying25 hgs (some ⟨g,0,none⟩) (some ⟨b,off,none⟩) n n 1 c g 0 X 3 E0 cs (by rw[hcl]) (fun _=>⟨rfl,_,rfl,fun j v hv=>by obtain⟨rfl,rfl⟩:=hcv j v hv;exact c0⟩) (by omega) (fun v hv=>by obtain⟨j,hj,h2⟩:=List.mem_iff_getElem.1 hv;rw[(hcv j v (by rw[List.getElem?_eq_getElem hj,h2])).2];rfl);have hlen2:(splice X 0 cs).length=n:=by rw[length_splice _ _ _ (by omega)];exact hXl
 have hat2:Hid (∀ j,j<0+cs.length->(splice X 0 cs)[j]?=some (Value.int .i64 3)):=mE (fun j hj=>absurd hj (Nat.not_lt_zero _)) hca (by omega);generalize splice X 0 cs=Y at *;have hgl:Hid (g=w1.heap.size):=HG;have B2:Below w1.heap.size w1 w2:=B0.trans (by rw[<-HG.out];exact hb2);have hk1:Hid (min 1 n<=n/\(0<n->0<min 1 n)):=⟨by omega,by omega⟩
 rw[hcl,Nat.zero_add] at hat2;have hgi:goInt cs.length=.int .i64 (min 1 n:Nat):=by rw[hcl];rfl
 rw[hgi] at hr2;generalize min 1 n=k1 at *;have h2:=lt_of_block hg2;clear E0 c0 hca hcv B0 hb2 hgi;go_wp2;go_loopw [8] (fun v wr=>∃(k:Nat) (Y:List Value),k<=n/\v=.int .i64 (k:Nat)/\(0<n->0<k)/\Y.length=n/\Hid (∀ j,j<k->Y[j]?=some (Value.int .i64 3))/\wr.heap[g]?=some (.cells Y.toArray 3 (0,0))/\Below w1.heap.size w1 wr) (fun v _=>n-(intOf v).toNat)
 case atStart=>exact⟨k1,Y,hk1.out.1,rfl,hk1.out.2,hlen2,hat2,hg2,B2⟩
 case round =>
  clear hk1 hlen2 hat2 hg2 B2 hr2 hcl h2;obtain⟨k,Y,hk,rfl,hk0,hyl,hat,E1,B1⟩:=hrel;by_cases hlt:k<n
  ·have hkI:(k:Int)<(n:Int):=by omega
   have bdT:Below wr.heap.size wr wr.drew:=⟨rfl,rfl,rfl,Nat.le_refl _,fun _ _=>rfl⟩
   have Ed:wr.drew.heap[g]?=some (.cells Y.toArray 3 (0,0)):=E1;obtain⟨ds,hds⟩:∃ds,ds=List.replicate (min k (n-k)) (Value.int .i64 3):=⟨_,rfl⟩
   have hdl:ds.length=min k (n-k):=by rw[hds];simp
   have hda:∀ j,j<ds.length->ds[j]?=some (Value.int .i64 3):=by
    intro j hj;rw[hds,List.getElem?_replicate];rw[hdl] at hj;rw[if_pos hj]
   have hdv:∀ j v,ds[j]?=some v->j<k/\v=Value.int .i64 3:=by
    intro j v hv;rw[hds,List.getElem?_replicate] at hv;split at hv
    ·injection hv with hv
     exact⟨by omega,hv.symm⟩
    ·cases hv
   clear hds;obtain⟨w3,hr3,hg3,hb3⟩:=gr (P:=Tryd.prog) (w:=wr.drew) 25 25 3 3 Tryd.underlying25 hgs (some ⟨g,k,none⟩) (some ⟨g,0,none⟩) (n-k) (n-k) k n g k Y 3 Ed ds (by rw[hdl]) (fun _=>⟨rfl,_,rfl,fun j v hv=>by
    obtain⟨hj,rfl⟩:=hdv j v hv;have ea:(Addr.add ⟨g,0,none⟩ j)=⟨g,j,none⟩:=by simp[Addr.add];exact fun h=>h.symm
    rw[ea,cell_of_row _ _ _ _ _ _ Ed];simpa using hat.out j hj⟩) (by omega) (fun v hv=>by obtain⟨j,hj,h2⟩:=List.mem_iff_getElem.1 hv;rw[(hdv j v (by rw[List.getElem?_eq_getElem hj,h2])).2];rfl)
   have hlen3:(splice Y k ds).length=n:=by rw[length_splice _ _ _ (by omega)];exact hyl
   have hat3:Hid (∀ j,j<k+ds.length->(splice Y k ds)[j]?=some (Value.int .i64 3)):=mE hat.out hda (by omega);generalize splice Y k ds=Y3 at *;have B3:Below w1.heap.size w1 w3:=(B1.trans (bdT.mono B1.size)).trans (by rw[<-HG.out];exact hb3);rw[hdl] at hat3;have hgi:goInt ds.length=.int .i64 (min k (n-k):Nat):=by rw[hdl];rfl
   rw[hgi] at hr3;have hpos:0<min k (n-k):=by have:=hk0 (by omega);omega
   have hle:k+min k (n-k)<=n:=by omega
   generalize min k (n-k)=d at *;clear hat hda hdv hdl hgi E1 hyl Ed;go_wp2_with fail;go_region;go_wp2;go_roundw
   case rel=>exact⟨k+d,Y3,hle,by simp,fun _=>by omega,hlen3,hat3,hg3,B3⟩
   case measure=>simp[intOf];omega
  ·have hkI:¬(k:Int)<(n:Int):=by omega
   have HR:Hid (∃v,Ending.returned (.slice (some ⟨g,0,none⟩) n n)=Ending.returned v/\InG wr w1.heap.size v (List.replicate n 3)/\Below w1.heap.size w1 wr):=by
    refine⟨_,rfl,⟨_,n,by simp,.inr ⟨g,0,rfl,by show w1.heap.size<=g;rw[HG.out];exact Nat.le_refl _,lt_of_block E1,fun j x hx=>?_⟩⟩,B1⟩;rw[Nat.zero_add,cell_of_row _ _ _ _ _ _ E1];rw[List.getElem?_replicate] at hx;split at hx
    ·injection hx with hx
     subst hx;simpa using hat.out j (by omega)
    ·cases hx
   clear hat E1 hyl B1;go_wp2;go_ret;exact HR.out
abbrev wdV (o a b:Nat):Value:=.agg #[.int .i64 (o:Nat),.int .i64 (a:Nat),.int .i64 (b:Nat)]
def ai (w:World)(p q:List Nat)(e:Ending)(w':World):Prop:=∃v u,e=.returned (.tuple #[v,u])/\InG w' w.heap.size v p/\InG w' w.heap.size u q/\Below w.heap.size w w'
theorem InG.mono {w:World}{m n:Nat}{v:Value}{xs:List Nat}(h:InG w m v xs)(hn:n<=m):InG w n v xs:=by
 obtain⟨ao,cap,hv,h|⟨b,off,h1,h2,h3,h4⟩⟩:=h
 ·exact⟨ao,cap,hv,.inl h⟩
 ·exact⟨ao,cap,hv,.inr ⟨b,off,h1,Nat.le_trans hn h2,h3,h4⟩⟩
theorem InG.nil (w:World)(m:Nat):InG w m (.slice none 0 0) []:=⟨none,0,rfl,.inl rfl⟩
theorem InG.one {w:World}{m g x:Nat}{t:TypeId}(h:w.heap[g]?=some (.cells #[.int .i64 (x:Nat)] t (0,0)))(hm:m<=g):InG w m (.slice (some ⟨g,0,none⟩) 1 1) [x]:=by
 refine⟨_,1,rfl,.inr ⟨g,0,rfl,hm,lt_of_block h,fun j y hy=>?_⟩⟩
 match j,hy with
 | 0,hy=>simp at hy;subst hy;rw[cell_of_row _ _ _ _ _ _ h];rfl
theorem InG.two {w:World}{m g x y:Nat}{t:TypeId}(h:w.heap[g]?=some (.cells #[.int .i64 (x:Nat),.int .i64 (y:Nat)] t (0,0)))(hm:m<=g):InG w m (.slice (some ⟨g,0,none⟩) 2 2) [x,y]:=by
 refine⟨_,2,rfl,.inr ⟨g,0,rfl,hm,lt_of_block h,fun j z hz=>?_⟩⟩
 match j,hz with
 | 0,hz=>simp at hz;subst hz;rw[cell_of_row _ _ _ _ _ _ h];rfl
 | 1,hz=>simp at hz;subst hz;rw[cell_of_row _ _ _ _ _ _ h];rfl
theorem InG.three {w:World}{m g x y z:Nat}{t:TypeId}(h:w.heap[g]?=some (.cells #[.int .i64 (x:Nat),.int .i64 (y:Nat),.int .i64 (z:Nat)] t (0,0)))(hm:m<=g):InG w m (.slice (some ⟨g,0,none⟩) 3 3) [x,y,z]:=by
 refine⟨_,3,rfl,.inr ⟨g,0,rfl,hm,lt_of_block h,fun j u hu=>?_⟩⟩
 match j,hu with
 | 0,hu=>simp at hu;subst hu;rw[cell_of_row _ _ _ _ _ _ h];rfl
 | 1,hu=>simp at hu;subst hu;rw[cell_of_row _ _ _ _ _ _ h];rfl
 | 2,hu=>simp at hu;subst hu;rw[cell_of_row _ _ _ _ _ _ h];rfl
theorem bG (w:World)(o:Obj):Below w.heap.size w (w.alloc o):=(Below.refl _ w).alloc (Nat.le_refl _) o
theorem bG2 {w w':World}(o:Obj)(h:Below w.heap.size w w'):Below w.heap.size w (w'.alloc o):=h.alloc h.size o
theorem h1G (w:World)(o:Obj):(w.alloc o).heap[w.heap.size]?=some o:=heap_alloc_new w o
theorem h2G (w:World)(o p:Obj):((w.alloc o).alloc p).heap[w.heap.size]?=some o:=(Below.heap_alloc _ _ _ (by simp)).trans (heap_alloc_new w o)
theorem bg (n:Nat)(hn:n<=1024)(w:World):Calls Tryd.prog 79 #[.int .i64 (n:Nat)] w fun e w'=>∃v,e=.returned v/\InG w' w.heap.size v (List.replicate n 3)/\Below w.heap.size w w':=by
 obtain⟨w1,hw1⟩:∃w1,w1=w.alloc (.cells #[.int .i64 3] 3):=⟨_,rfl⟩
 have B1:Below w.heap.size w w1:=by rw[hw1];exact bG _ _
 have hc:w1.cell? ⟨w.heap.size,0,none⟩=some (.int .i64 3):=by rw[hw1,cell_of_row _ _ _ _ _ _ (h1G w _)];rfl
 have hl:w.heap.size<w1.heap.size:=by rw[hw1];simp
 have HR:=nW w1 w.heap.size 0 1 n (by omega) hl hc;obtain⟨g,hg⟩:∃g,g=w.heap.size:=⟨_,rfl⟩
 rw[<-hg] at HR B1 hl ⊢;have HG:=Lib.hid hg;clear hg hc;go_enter Tryd.func79,Tryd.ntmps79;go_wp2_with fail;rw[<-hw1,<-HG.out];clear hw1;refine HR.mono ?_;rintro e w2 ⟨v,rfl,HI,B2⟩;go_wp2;go_ret;exact⟨_,rfl,HI.mono (Nat.le_of_lt hl),B1.trans (B2.mono (Nat.le_of_lt hl))⟩
theorem vO (w:World):Calls Tryd.prog 78 #[.int .i64 1] w (ai w (aF 1).1 (aF 1).2):=by
 have HV:=fun wx:World=>bg 2 (by omega) wx;go_enter Tryd.func78,Tryd.ntmps78;go_wp2_with fail;refine(HV _).mono ?_;rintro e w2 ⟨v,rfl,HI,B2⟩;have HZ:Hid (ai w (aF 1).1 (aF 1).2 (.returned (.tuple #[v,.slice (some ⟨w2.heap.size,0,none⟩) 1 1])) (w2.alloc (.cells #[.int .i64 2] 3))) :=
  ⟨_,_,rfl,HI.below (bG _ _),InG.one (x:=2) (h1G _ _) B2.size,bG2 _ B2⟩
 clear HV HI B2;go_wp2;go_ret2;exact HZ.out
theorem wU (w:World):Calls Tryd.prog 78 #[.int .i64 2] w (ai w (aF 2).1 (aF 2).2):=by
 have HV:=fun wx:World=>bg 2 (by omega) wx;go_enter Tryd.func78,Tryd.ntmps78;go_wp2_with fail;refine(HV _).mono ?_;rintro e w2 ⟨v,rfl,HI,B2⟩;have HZ:Hid (ai w (aF 2).1 (aF 2).2 (.returned (.tuple #[v,.slice (some ⟨w2.heap.size,0,none⟩) 1 1])) (w2.alloc (.cells #[.int .i64 2] 3))) :=
  ⟨_,_,rfl,HI.below (bG _ _),InG.one (x:=2) (h1G _ _) B2.size,bG2 _ B2⟩
 clear HV HI B2;go_wp2;go_ret2;exact HZ.out
theorem yi (w:World):Calls Tryd.prog 78 #[.int .i64 3] w (ai w (aF 3).1 (aF 3).2):=by
 have HV:=fun wx:World=>bg 2 (by omega) wx;go_enter Tryd.func78,Tryd.ntmps78;go_wp2_with fail;refine(HV _).mono ?_;rintro e w2 ⟨v,rfl,HI,B2⟩;have HZ:Hid (ai w (aF 3).1 (aF 3).2 (.returned (.tuple #[v,.slice (some ⟨w2.heap.size,0,none⟩) 1 1])) (w2.alloc (.cells #[.int .i64 1] 3))) :=
  ⟨_,_,rfl,HI.below (bG _ _),InG.one (x:=1) (h1G _ _) B2.size,bG2 _ B2⟩
 clear HV HI B2;go_wp2;go_ret2;exact HZ.out
theorem xW (w:World):Calls Tryd.prog 78 #[.int .i64 4] w (ai w (aF 4).1 (aF 4).2):=by
 have HV:=fun wx:World=>bg 1 (by omega) wx;go_enter Tryd.func78,Tryd.ntmps78;go_wp2_with fail;refine(HV _).mono ?_;rintro e w2 ⟨v,rfl,HI,B2⟩;have HZ:Hid (ai w (aF 4).1 (aF 4).2 (.returned (.tuple #[v,.slice (some ⟨w2.heap.size,0,none⟩) 1 1])) (w2.alloc (.cells #[.int .i64 1] 3))) :=
  ⟨_,_,rfl,HI.below (bG _ _),InG.one (x:=1) (h1G _ _) B2.size,bG2 _ B2⟩
 clear HV HI B2;go_wp2;go_ret2;exact HZ.out
theorem xE (w:World):Calls Tryd.prog 78 #[.int .i64 5] w (ai w (aF 5).1 (aF 5).2):=by
 have HV:=fun wx:World=>bg 1 (by omega) wx;go_enter Tryd.func78,Tryd.ntmps78;go_wp2_with fail;refine(HV _).mono ?_;rintro e w2 ⟨v,rfl,HI,B2⟩;have HZ:Hid (ai w (aF 5).1 (aF 5).2 (.returned (.tuple #[v,.slice (some ⟨w2.heap.size,0,none⟩) 1 1])) (w2.alloc (.cells #[.int .i64 1] 3))) :=
  ⟨_,_,rfl,HI.below (bG _ _),InG.one (x:=1) (h1G _ _) B2.size,bG2 _ B2⟩
 clear HV HI B2;go_wp2;go_ret2;exact HZ.out
theorem vg (w:World):Calls Tryd.prog 78 #[.int .i64 6] w (ai w (aF 6).1 (aF 6).2):=by
 have HV:=fun wx:World=>bg 1 (by omega) wx;go_enter Tryd.func78,Tryd.ntmps78;go_wp2_with fail;refine(HV _).mono ?_;rintro e w2 ⟨v,rfl,HI,B2⟩;have HZ:Hid (ai w (aF 6).1 (aF 6).2 (.returned (.tuple #[v,.slice (some ⟨w2.heap.size,0,none⟩) 1 1])) (w2.alloc (.cells #[.int .i64 1] 3))) :=
  ⟨_,_,rfl,HI.below (bG _ _),InG.one (x:=1) (h1G _ _) B2.size,bG2 _ B2⟩
 clear HV HI B2;go_wp2;go_ret2;exact HZ.out
theorem xL (w:World):Calls Tryd.prog 78 #[.int .i64 7] w (ai w (aF 7).1 (aF 7).2):=by
 have HV:=fun wx:World=>bg 1 (by omega) wx;go_enter Tryd.func78,Tryd.ntmps78;go_wp2_with fail;refine(HV _).mono ?_;rintro e w2 ⟨v,rfl,HI,B2⟩;have HZ:Hid (ai w (aF 7).1 (aF 7).2 (.returned (.tuple #[v,.slice (some ⟨w2.heap.size,0,none⟩) 1 1])) (w2.alloc (.cells #[.int .i64 1] 3))) :=
  ⟨_,_,rfl,HI.below (bG _ _),InG.one (x:=1) (h1G _ _) B2.size,bG2 _ B2⟩
 clear HV HI B2;go_wp2;go_ret2;exact HZ.out
theorem ya (w:World):Calls Tryd.prog 78 #[.int .i64 8] w (ai w (aF 8).1 (aF 8).2):=by
 have HV:=fun wx:World=>bg 1 (by omega) wx;go_enter Tryd.func78,Tryd.ntmps78;go_wp2_with fail;refine(HV _).mono ?_;rintro e w2 ⟨v,rfl,HI,B2⟩;have HZ:Hid (ai w (aF 8).1 (aF 8).2 (.returned (.tuple #[v,.slice (some ⟨w2.heap.size,0,none⟩) 1 1])) (w2.alloc (.cells #[.int .i64 1] 3))) :=
  ⟨_,_,rfl,HI.below (bG _ _),InG.one (x:=1) (h1G _ _) B2.size,bG2 _ B2⟩
 clear HV HI B2;go_wp2;go_ret2;exact HZ.out
theorem yl (w:World):Calls Tryd.prog 78 #[.int .i64 9] w (ai w (aF 9).1 (aF 9).2):=by
 have HV:=fun wx:World=>bg 1 (by omega) wx;go_enter Tryd.func78,Tryd.ntmps78;go_wp2_with fail;refine(HV _).mono ?_;rintro e w2 ⟨v,rfl,HI,B2⟩;have HZ:Hid (ai w (aF 9).1 (aF 9).2 (.returned (.tuple #[v,.slice (some ⟨w2.heap.size,0,none⟩) 1 1])) (w2.alloc (.cells #[.int .i64 1] 3))) :=
  ⟨_,_,rfl,HI.below (bG _ _),InG.one (x:=1) (h1G _ _) B2.size,bG2 _ B2⟩
 clear HV HI B2;go_wp2;go_ret2;exact HZ.out
theorem sf (w:World):Calls Tryd.prog 78 #[.int .i64 10] w (ai w (aF 10).1 (aF 10).2):=by
 have HV:=fun wx:World=>bg 1 (by omega) wx;go_enter Tryd.func78,Tryd.ntmps78;go_wp2_with fail;refine(HV _).mono ?_;rintro e w2 ⟨v,rfl,HI,B2⟩;have HZ:Hid (ai w (aF 10).1 (aF 10).2 (.returned (.tuple #[v,.slice (some ⟨w2.heap.size,0,none⟩) 1 1])) (w2.alloc (.cells #[.int .i64 3] 3))) :=
  ⟨_,_,rfl,HI.below (bG _ _),InG.one (x:=3) (h1G _ _) B2.size,bG2 _ B2⟩
 clear HV HI B2;go_wp2;go_ret2;exact HZ.out
theorem wk (a:Nat)(h:1<=a/\a<=10)(w:World):Calls Tryd.prog 78 #[.int .i64 (a:Nat)] w (ai w (aF a).1 (aF a).2):=by
 match a,h with
 | 1,_=>exact vO w
 | 2,_=>exact wU w
 | 3,_=>exact yi w
 | 4,_=>exact xW w
 | 5,_=>exact xE w
 | 6,_=>exact vg w
 | 7,_=>exact xL w
 | 8,_=>exact ya w
 | 9,_=>exact yl w
 | 10,_=>exact sf w
 | 0,h=>omega
 | n+11,h=>omega
theorem hA2 (w:World)(o p:Obj):((w.alloc o).alloc p).heap[w.heap.size+1]?=some p:=by
 have:=heap_alloc_new (w.alloc o) p
 simpa using this
theorem hU (w:World)(o p q:Obj):(((w.alloc o).alloc p).alloc q).heap[w.heap.size+1]?=some p:=(Below.heap_alloc _ _ _ (by simp)).trans (hA2 w o p)
theorem hA3 (w:World)(o p q:Obj):(((w.alloc o).alloc p).alloc q).heap[w.heap.size+2]?=some q:=by
 have:=heap_alloc_new ((w.alloc o).alloc p) q
 simpa using this
theorem ai.mono {w w1:World}{p q:List Nat}{e:Ending}{w':World}(B:Below w.heap.size w w1)(h:ai w1 p q e w'):ai w p q e w':=by
 obtain⟨v,u,he,h1,h2,h3⟩:=h;exact⟨v,u,he,h1.mono B.size,h2.mono B.size,B.trans (h3.mono B.size)⟩
abbrev bxW (o a b:Nat):Obj:=.cells #[.int .i64 (o:Nat),.int .i64 (a:Nat),.int .i64 (b:Nat)] 84
theorem yy (c:Cd)(a b:Nat)(w:World)(ak:Option Addr)(nk ck:Nat):Calls Tryd.prog 60 #[wdV 0 a b,.slice ak nk ck] w (ai w (ah c 0 a b).1 (ah c 0 a b).2):=by
 have HZ:Hid (ai w (ah c 0 a b).1 (ah c 0 a b).2 (.returned (.tuple #[.slice none 0 0,.slice none 0 0])) (w.alloc (bxW 0 a b))) :=
  ⟨_,_,rfl,InG.nil _ _,InG.nil _ _,bG w _⟩
 go_enter Tryd.func60,Tryd.ntmps60;go_wp2;go_ret2;exact HZ.out
theorem yC (c:Cd)(a b:Nat)(w:World)(ak:Option Addr)(nk ck:Nat):Calls Tryd.prog 60 #[wdV 2 a b,.slice ak nk ck] w (ai w (ah c 2 a b).1 (ah c 2 a b).2):=by
 have HZ:Hid (ai w (ah c 2 a b).1 (ah c 2 a b).2 (.returned (.tuple #[.slice none 0 0,.slice (some ⟨w.heap.size+1,0,none⟩) 1 1])) ((w.alloc (bxW 2 a b)).alloc (.cells #[.int .i64 3] 3))) :=
  ⟨_,_,rfl,InG.nil _ _,InG.one (x:=3) (hA2 w _ _) (by omega),bG2 _ (bG w _)⟩
 go_enter Tryd.func60,Tryd.ntmps60;go_wp2;go_ret2;exact HZ.out
theorem yv (c:Cd)(a b:Nat)(w:World)(ak:Option Addr)(nk ck:Nat):Calls Tryd.prog 60 #[wdV 3 a b,.slice ak nk ck] w (ai w (ah c 3 a b).1 (ah c 3 a b).2):=by
 have HZ:Hid (ai w (ah c 3 a b).1 (ah c 3 a b).2 (.returned (.tuple #[.slice none 0 0,.slice (some ⟨w.heap.size+1,0,none⟩) 1 1])) ((w.alloc (bxW 3 a b)).alloc (.cells #[.int .i64 3] 3))) :=
  ⟨_,_,rfl,InG.nil _ _,InG.one (x:=3) (hA2 w _ _) (by omega),bG2 _ (bG w _)⟩
 go_enter Tryd.func60,Tryd.ntmps60;go_wp2;go_ret2;exact HZ.out
theorem yp (c:Cd)(a b:Nat)(w:World)(ak:Option Addr)(nk ck:Nat):Calls Tryd.prog 60 #[wdV 4 a b,.slice ak nk ck] w (ai w (ah c 4 a b).1 (ah c 4 a b).2):=by
 have HZ:Hid (ai w (ah c 4 a b).1 (ah c 4 a b).2 (.returned (.tuple #[.slice (some ⟨w.heap.size+1,0,none⟩) 1 1,.slice (some ⟨w.heap.size+2,0,none⟩) 1 1])) (((w.alloc (bxW 4 a b)).alloc (.cells #[.int .i64 1] 3)).alloc (.cells #[.int .i64 1] 3))) :=
  ⟨_,_,rfl,InG.one (x:=1) (hU w _ _ _) (by omega),InG.one (x:=1) (hA3 w _ _ _) (by omega),bG2 _ (bG2 _ (bG w _))⟩
 go_enter Tryd.func60,Tryd.ntmps60;go_wp2;go_ret2;exact HZ.out
theorem za (c:Cd)(a b:Nat)(w:World)(ak:Option Addr)(nk ck:Nat):Calls Tryd.prog 60 #[wdV 5 a b,.slice ak nk ck] w (ai w (ah c 5 a b).1 (ah c 5 a b).2):=by
 have HZ:Hid (ai w (ah c 5 a b).1 (ah c 5 a b).2 (.returned (.tuple #[.slice (some ⟨w.heap.size+1,0,none⟩) 1 1,.slice (some ⟨w.heap.size+2,0,none⟩) 1 1])) (((w.alloc (bxW 5 a b)).alloc (.cells #[.int .i64 2] 3)).alloc (.cells #[.int .i64 2] 3))) :=
  ⟨_,_,rfl,InG.one (x:=2) (hU w _ _ _) (by omega),InG.one (x:=2) (hA3 w _ _ _) (by omega),bG2 _ (bG2 _ (bG w _))⟩
 go_enter Tryd.func60,Tryd.ntmps60;go_wp2;go_ret2;exact HZ.out
theorem yW (c:Cd)(a b:Nat)(w:World)(ak:Option Addr)(nk ck:Nat):Calls Tryd.prog 60 #[wdV 6 a b,.slice ak nk ck] w (ai w (ah c 6 a b).1 (ah c 6 a b).2):=by
 have HZ:Hid (ai w (ah c 6 a b).1 (ah c 6 a b).2 (.returned (.tuple #[.slice (some ⟨w.heap.size+1,0,none⟩) 2 2,.slice (some ⟨w.heap.size+2,0,none⟩) 1 1])) (((w.alloc (bxW 6 a b)).alloc (.cells #[.int .i64 1,.int .i64 1] 3)).alloc (.cells #[.int .i64 1] 3))) :=
  ⟨_,_,rfl,InG.two (x:=1) (y:=1) (hU w _ _ _) (by omega),InG.one (x:=1) (hA3 w _ _ _) (by omega),bG2 _ (bG2 _ (bG w _))⟩
 go_enter Tryd.func60,Tryd.ntmps60;go_wp2;go_ret2;exact HZ.out
theorem yo (c:Cd)(a b:Nat)(w:World)(ak:Option Addr)(nk ck:Nat):Calls Tryd.prog 60 #[wdV 7 a b,.slice ak nk ck] w (ai w (ah c 7 a b).1 (ah c 7 a b).2):=by
 have HZ:Hid (ai w (ah c 7 a b).1 (ah c 7 a b).2 (.returned (.tuple #[.slice (some ⟨w.heap.size+1,0,none⟩) 2 2,.slice (some ⟨w.heap.size+2,0,none⟩) 1 1])) (((w.alloc (bxW 7 a b)).alloc (.cells #[.int .i64 1,.int .i64 1] 3)).alloc (.cells #[.int .i64 1] 3))) :=
  ⟨_,_,rfl,InG.two (x:=1) (y:=1) (hU w _ _ _) (by omega),InG.one (x:=1) (hA3 w _ _ _) (by omega),bG2 _ (bG2 _ (bG w _))⟩
 go_enter Tryd.func60,Tryd.ntmps60;go_wp2;go_ret2;exact HZ.out
theorem yS (c:Cd)(a b:Nat)(w:World)(ak:Option Addr)(nk ck:Nat):Calls Tryd.prog 60 #[wdV 8 a b,.slice ak nk ck] w (ai w (ah c 8 a b).1 (ah c 8 a b).2):=by
 have HZ:Hid (ai w (ah c 8 a b).1 (ah c 8 a b).2 (.returned (.tuple #[.slice (some ⟨w.heap.size+1,0,none⟩) 2 2,.slice (some ⟨w.heap.size+2,0,none⟩) 1 1])) (((w.alloc (bxW 8 a b)).alloc (.cells #[.int .i64 1,.int .i64 1] 3)).alloc (.cells #[.int .i64 1] 3))) :=
  ⟨_,_,rfl,InG.two (x:=1) (y:=1) (hU w _ _ _) (by omega),InG.one (x:=1) (hA3 w _ _ _) (by omega),bG2 _ (bG2 _ (bG w _))⟩
 go_enter Tryd.func60,Tryd.ntmps60;go_wp2;go_ret2;exact HZ.out
theorem yN (c:Cd)(a b:Nat)(w:World)(ak:Option Addr)(nk ck:Nat):Calls Tryd.prog 60 #[wdV 9 a b,.slice ak nk ck] w (ai w (ah c 9 a b).1 (ah c 9 a b).2):=by
 have HZ:Hid (ai w (ah c 9 a b).1 (ah c 9 a b).2 (.returned (.tuple #[.slice (some ⟨w.heap.size+1,0,none⟩) 2 2,.slice (some ⟨w.heap.size+2,0,none⟩) 1 1])) (((w.alloc (bxW 9 a b)).alloc (.cells #[.int .i64 1,.int .i64 1] 3)).alloc (.cells #[.int .i64 1] 3))) :=
  ⟨_,_,rfl,InG.two (x:=1) (y:=1) (hU w _ _ _) (by omega),InG.one (x:=1) (hA3 w _ _ _) (by omega),bG2 _ (bG2 _ (bG w _))⟩
 go_enter Tryd.func60,Tryd.ntmps60;go_wp2;go_ret2;exact HZ.out
theorem vE (c:Cd)(a b:Nat)(w:World)(ak:Option Addr)(nk ck:Nat):Calls Tryd.prog 60 #[wdV 10 a b,.slice ak nk ck] w (ai w (ah c 10 a b).1 (ah c 10 a b).2):=by
 have HZ:Hid (ai w (ah c 10 a b).1 (ah c 10 a b).2 (.returned (.tuple #[.slice (some ⟨w.heap.size+1,0,none⟩) 2 2,.slice (some ⟨w.heap.size+2,0,none⟩) 1 1])) (((w.alloc (bxW 10 a b)).alloc (.cells #[.int .i64 1,.int .i64 1] 3)).alloc (.cells #[.int .i64 1] 3))) :=
  ⟨_,_,rfl,InG.two (x:=1) (y:=1) (hU w _ _ _) (by omega),InG.one (x:=1) (hA3 w _ _ _) (by omega),bG2 _ (bG2 _ (bG w _))⟩
 go_enter Tryd.func60,Tryd.ntmps60;go_wp2;go_ret2;exact HZ.out
theorem vX (c:Cd)(a b:Nat)(w:World)(ak:Option Addr)(nk ck:Nat):Calls Tryd.prog 60 #[wdV 11 a b,.slice ak nk ck] w (ai w (ah c 11 a b).1 (ah c 11 a b).2):=by
 have HZ:Hid (ai w (ah c 11 a b).1 (ah c 11 a b).2 (.returned (.tuple #[.slice (some ⟨w.heap.size+1,0,none⟩) 2 2,.slice (some ⟨w.heap.size+2,0,none⟩) 1 1])) (((w.alloc (bxW 11 a b)).alloc (.cells #[.int .i64 (b:Nat),.int .i64 (b:Nat)] 3)).alloc (.cells #[.int .i64 2] 3))) :=
  ⟨_,_,rfl,InG.two (x:=b) (y:=b) (hU w _ _ _) (by omega),InG.one (x:=2) (hA3 w _ _ _) (by omega),bG2 _ (bG2 _ (bG w _))⟩
 go_enter Tryd.func60,Tryd.ntmps60;go_wp2;go_ret2;exact HZ.out
theorem xh (c:Cd)(a b:Nat)(w:World)(ak:Option Addr)(nk ck:Nat):Calls Tryd.prog 60 #[wdV 12 a b,.slice ak nk ck] w (ai w (ah c 12 a b).1 (ah c 12 a b).2):=by
 have HZ:Hid (ai w (ah c 12 a b).1 (ah c 12 a b).2 (.returned (.tuple #[.slice (some ⟨w.heap.size+1,0,none⟩) 2 2,.slice (some ⟨w.heap.size+2,0,none⟩) 1 1])) (((w.alloc (bxW 12 a b)).alloc (.cells #[.int .i64 1,.int .i64 1] 3)).alloc (.cells #[.int .i64 2] 3))) :=
  ⟨_,_,rfl,InG.two (x:=1) (y:=1) (hU w _ _ _) (by omega),InG.one (x:=2) (hA3 w _ _ _) (by omega),bG2 _ (bG2 _ (bG w _))⟩
 go_enter Tryd.func60,Tryd.ntmps60;go_wp2;go_ret2;exact HZ.out
theorem xA (c:Cd)(a b:Nat)(w:World)(ak:Option Addr)(nk ck:Nat):Calls Tryd.prog 60 #[wdV 13 a b,.slice ak nk ck] w (ai w (ah c 13 a b).1 (ah c 13 a b).2):=by
 have HZ:Hid (ai w (ah c 13 a b).1 (ah c 13 a b).2 (.returned (.tuple #[.slice none 0 0,.slice none 0 0])) (w.alloc (bxW 13 a b))) :=
  ⟨_,_,rfl,InG.nil _ _,InG.nil _ _,bG w _⟩
 go_enter Tryd.func60,Tryd.ntmps60;go_wp2;go_ret2;exact HZ.out
theorem xr (c:Cd)(a b:Nat)(w:World)(ak:Option Addr)(nk ck:Nat):Calls Tryd.prog 60 #[wdV 14 a b,.slice ak nk ck] w (ai w (ah c 14 a b).1 (ah c 14 a b).2):=by
 have HZ:Hid (ai w (ah c 14 a b).1 (ah c 14 a b).2 (.returned (.tuple #[.slice (some ⟨w.heap.size+1,0,none⟩) 1 1,.slice none 0 0])) ((w.alloc (bxW 14 a b)).alloc (.cells #[.int .i64 2] 3))) :=
  ⟨_,_,rfl,InG.one (x:=2) (hA2 w _ _) (by omega),InG.nil _ _,bG2 _ (bG w _)⟩
 go_enter Tryd.func60,Tryd.ntmps60;go_wp2;go_ret2;exact HZ.out
theorem vR (c:Cd)(a b:Nat)(w:World)(ak:Option Addr)(nk ck:Nat):Calls Tryd.prog 60 #[wdV 15 a b,.slice ak nk ck] w (ai w (ah c 15 a b).1 (ah c 15 a b).2):=by
 have HZ:Hid (ai w (ah c 15 a b).1 (ah c 15 a b).2 (.returned (.tuple #[.slice (some ⟨w.heap.size+1,0,none⟩) 1 1,.slice none 0 0])) ((w.alloc (bxW 15 a b)).alloc (.cells #[.int .i64 2] 3))) :=
  ⟨_,_,rfl,InG.one (x:=2) (hA2 w _ _) (by omega),InG.nil _ _,bG2 _ (bG w _)⟩
 go_enter Tryd.func60,Tryd.ntmps60;go_wp2;go_ret2;exact HZ.out
theorem xR (c:Cd)(a b:Nat)(w:World)(ak:Option Addr)(nk ck:Nat):Calls Tryd.prog 60 #[wdV 17 a b,.slice ak nk ck] w (ai w (ah c 17 a b).1 (ah c 17 a b).2):=by
 have HZ:Hid (ai w (ah c 17 a b).1 (ah c 17 a b).2 (.returned (.tuple #[.slice none 0 0,.slice none 0 0])) (w.alloc (bxW 17 a b))) :=
  ⟨_,_,rfl,InG.nil _ _,InG.nil _ _,bG w _⟩
 go_enter Tryd.func60,Tryd.ntmps60;go_wp2;go_ret2;exact HZ.out
theorem ye (c:Cd)(a b:Nat)(w:World)(ak:Option Addr)(nk ck:Nat):Calls Tryd.prog 60 #[wdV 19 a b,.slice ak nk ck] w (ai w (ah c 19 a b).1 (ah c 19 a b).2):=by
 have HZ:Hid (ai w (ah c 19 a b).1 (ah c 19 a b).2 (.returned (.tuple #[.slice none 0 0,.slice none 0 0])) (w.alloc (bxW 19 a b))) :=
  ⟨_,_,rfl,InG.nil _ _,InG.nil _ _,bG w _⟩
 go_enter Tryd.func60,Tryd.ntmps60;go_wp2;go_ret2;exact HZ.out
theorem vH (c:Cd)(a b:Nat)(w:World)(ak:Option Addr)(nk ck:Nat):Calls Tryd.prog 60 #[wdV 20 a b,.slice ak nk ck] w (ai w (ah c 20 a b).1 (ah c 20 a b).2):=by
 have HZ:Hid (ai w (ah c 20 a b).1 (ah c 20 a b).2 (.returned (.tuple #[.slice none 0 0,.slice none 0 0])) (w.alloc (bxW 20 a b))) :=
  ⟨_,_,rfl,InG.nil _ _,InG.nil _ _,bG w _⟩
 go_enter Tryd.func60,Tryd.ntmps60;go_wp2;go_ret2;exact HZ.out
theorem wT (c:Cd)(a b:Nat)(w:World)(ak:Option Addr)(nk ck:Nat):Calls Tryd.prog 60 #[wdV 21 a b,.slice ak nk ck] w (ai w (ah c 21 a b).1 (ah c 21 a b).2):=by
 have HZ:Hid (ai w (ah c 21 a b).1 (ah c 21 a b).2 (.returned (.tuple #[.slice none 0 0,.slice none 0 0])) (w.alloc (bxW 21 a b))) :=
  ⟨_,_,rfl,InG.nil _ _,InG.nil _ _,bG w _⟩
 go_enter Tryd.func60,Tryd.ntmps60;go_wp2;go_ret2;exact HZ.out
theorem vA (c:Cd)(a b:Nat)(w:World)(ak:Option Addr)(nk ck:Nat):Calls Tryd.prog 60 #[wdV 24 a b,.slice ak nk ck] w (ai w (ah c 24 a b).1 (ah c 24 a b).2):=by
 have HZ:Hid (ai w (ah c 24 a b).1 (ah c 24 a b).2 (.returned (.tuple #[.slice none 0 0,.slice none 0 0])) (w.alloc (bxW 24 a b))) :=
  ⟨_,_,rfl,InG.nil _ _,InG.nil _ _,bG w _⟩
 go_enter Tryd.func60,Tryd.ntmps60;go_wp2;go_ret2;exact HZ.out
theorem xD (c:Cd)(a b:Nat)(w:World)(ak:Option Addr)(nk ck:Nat):Calls Tryd.prog 60 #[wdV 25 a b,.slice ak nk ck] w (ai w (ah c 25 a b).1 (ah c 25 a b).2):=by
 have HZ:Hid (ai w (ah c 25 a b).1 (ah c 25 a b).2 (.returned (.tuple #[.slice none 0 0,.slice none 0 0])) (w.alloc (bxW 25 a b))) :=
  ⟨_,_,rfl,InG.nil _ _,InG.nil _ _,bG w _⟩
 go_enter Tryd.func60,Tryd.ntmps60;go_wp2;go_ret2;exact HZ.out
theorem xN (c:Cd)(a b:Nat)(w:World)(ak:Option Addr)(nk ck:Nat):Calls Tryd.prog 60 #[wdV 26 a b,.slice ak nk ck] w (ai w (ah c 26 a b).1 (ah c 26 a b).2):=by
 have HZ:Hid (ai w (ah c 26 a b).1 (ah c 26 a b).2 (.returned (.tuple #[.slice (some ⟨w.heap.size+1,0,none⟩) 3 3,.slice (some ⟨w.heap.size+2,0,none⟩) 2 2])) (((w.alloc (bxW 26 a b)).alloc (.cells #[.int .i64 1,.int .i64 2,.int .i64 1] 3)).alloc (.cells #[.int .i64 1,.int .i64 2] 3))) :=
  ⟨_,_,rfl,InG.three (x:=1) (y:=2) (z:=1) (hU w _ _ _) (by omega),InG.two (x:=1) (y:=2) (hA3 w _ _ _) (by omega),bG2 _ (bG2 _ (bG w _))⟩
 go_enter Tryd.func60,Tryd.ntmps60;go_wp2;go_ret2;exact HZ.out
theorem vM (c:Cd)(a b:Nat)(w:World)(ak:Option Addr)(nk ck:Nat):Calls Tryd.prog 60 #[wdV 27 a b,.slice ak nk ck] w (ai w (ah c 27 a b).1 (ah c 27 a b).2):=by
 have HZ:Hid (ai w (ah c 27 a b).1 (ah c 27 a b).2 (.returned (.tuple #[.slice (some ⟨w.heap.size+1,0,none⟩) 1 1,.slice none 0 0])) ((w.alloc (bxW 27 a b)).alloc (.cells #[.int .i64 2] 3))) :=
  ⟨_,_,rfl,InG.one (x:=2) (hA2 w _ _) (by omega),InG.nil _ _,bG2 _ (bG w _)⟩
 go_enter Tryd.func60,Tryd.ntmps60;go_wp2;go_ret2;exact HZ.out
theorem InG.drew {w:World}{m:Nat}{v:Value}{xs:List Nat}(h:InG w m v xs):InG w.drew m v xs:=h.below ⟨rfl,rfl,rfl,Nat.le_refl _,fun _ _=>rfl⟩
theorem yP (c:Cd)(a b:Nat)(w:World)(ak:Option Addr)(nk ck:Nat):Calls Tryd.prog 60 #[wdV 1 a b,.slice ak nk ck] w (ai w (ah c 1 a b).1 (ah c 1 a b).2):=by
 have HZ:Hid (ai w (ah c 1 a b).1 (ah c 1 a b).2 (.returned (.tuple #[.slice none 0 0,.slice (some ⟨w.heap.size+1,0,none⟩) 1 1])) ((w.alloc (bxW 1 a b)).alloc (.cells #[.int .i64 (b:Nat)] 3)).drew) :=
  ⟨_,_,rfl,InG.nil _ _,(InG.one (x:=b) (hA2 w _ _) (by omega)).drew,(bG2 _ (bG w _)).drew⟩
 go_enter Tryd.func60,Tryd.ntmps60;go_upto_region 3 with fail;go_region;go_wp2;go_ret2;exact HZ.out
theorem xX (c:Cd)(a b:Nat)(h:1<=a/\a<=10)(w:World)(ak:Option Addr)(nk ck:Nat):Calls Tryd.prog 60 #[wdV 16 a b,.slice ak nk ck] w (ai w (ah c 16 a b).1 (ah c 16 a b).2):=by
 have HC:=fun wx=>wk a h wx;have HE:Hid (∀ e w',ai (w.alloc (bxW 16 a b)) (aF a).1 (aF a).2 e w'->ai w (ah c 16 a b).1 (ah c 16 a b).2 e w'):=fun e w' H=>H.mono (bG w _);clear h;go_enter Tryd.func60,Tryd.ntmps60;go_wp2_with fail;refine(HC _).mono ?_;rintro e w2 H;have HF:=HE.out _ _ H;obtain⟨v,u,rfl,H1,H2,H3⟩:=H;have HZ:=Lib.hid HF;clear H1 H2 H3 HF HC HE;go_wp2;go_ret2;exact HZ.out
theorem xd (c:Cd)(a b:Nat)(w:World)(ak:Option Addr)(nk ck:Nat):Calls Tryd.prog 60 #[wdV 22 a b,.slice ak nk ck] w (ai w (ah c 22 a b).1 (ah c 22 a b).2):=by
 have HC:=fun wx=>bg 1 (by omega) wx;go_enter Tryd.func60,Tryd.ntmps60;go_wp2_with fail;refine(HC _).mono ?_;rintro e w2 ⟨v,rfl,HI,B2⟩;have HZ:Hid (ai w (ah c 22 a b).1 (ah c 22 a b).2 (.returned (.tuple #[v,.slice none 0 0])) w2):=⟨_,_,rfl,HI.mono (by simp),InG.nil _ _,(bG w _).trans (B2.mono (by simp))⟩
 clear HI B2 HC;go_wp2;go_ret2;exact HZ.out
theorem ym (c:Cd)(a b:Nat)(h:a<=1024)(w:World)(ak:Option Addr)(nk ck:Nat):Calls Tryd.prog 60 #[wdV 23 a b,.slice ak nk ck] w (ai w (ah c 23 a b).1 (ah c 23 a b).2):=by
 have HC:=fun wx=>bg a h wx;go_enter Tryd.func60,Tryd.ntmps60;go_wp2_with fail;refine(HC _).mono ?_;rintro e w2 ⟨v,rfl,HI,B2⟩;have HZ:Hid (ai w (ah c 23 a b).1 (ah c 23 a b).2 (.returned (.tuple #[v,.slice none 0 0])) w2):=⟨_,_,rfl,HI.mono (by simp),InG.nil _ _,(bG w _).trans (B2.mono (by simp))⟩
 clear HI B2 HC;go_wp2;go_ret2;exact HZ.out
theorem wR (c:Cd)(hr:cE c=true)(a b:Nat)(h:a<c.ks.length)(w:World)(ak:Option Addr)(ck:Nat)(hC:Lsv w ak (isV c.ks))(hl:c.ks.length<=256):Calls Tryd.prog 60 #[wdV 18 a b,.slice ak c.ks.length ck] w (ai w (ah c 18 a b).1 (ah c 18 a b).2):=by
 obtain⟨w1,hw1⟩:∃w1,w1=w.alloc (bxW 18 a b):=⟨_,rfl⟩
 have B1:Below w.heap.size w w1:=by rw[hw1];exact bG _ _
 obtain⟨g,hg⟩:∃g,g=w.heap.size:=⟨_,rfl⟩
 have hs1:w1.heap.size=g+1:=by rw[hw1,hg];simp
 have hb:w1.heap[g]?=some (bxW 18 a b):=by rw[hw1,hg];exact h1G _ _
 have c0:w1.cell? ⟨g,0,none⟩=some (.int .i64 18):=by rw[cell_of_row _ _ _ _ _ _ hb];rfl
 have c1:w1.cell? ⟨g,1,none⟩=some (.int .i64 (a:Nat)):=by rw[cell_of_row _ _ _ _ _ _ hb];rfl
 obtain⟨kb,off,rfl,hkl,hkc⟩:=(hC.below B1).at (kh h);rw[mX hr h] at hkc;have hZ:∀ w2:World,(∀ x y:Obj,True)->Below w.heap.size w w2->w2.heap[g+1]?=some (.cells #[.int .i64 (kdC c a:Nat)] 3 (0,0))->w2.heap[g+2]?=some (.cells #[.int .i64 (kdC c a:Nat)] 3 (0,0))->ai w (ah c 18 a b).1 (ah c 18 a b).2 (.returned (.tuple #[.slice (some ⟨g+1,0,none⟩) 1 1,.slice (some ⟨g+2,0,none⟩) 1 1])) w2:=fun w2 _ B h1 h2=>⟨_,_,rfl,InG.one h1 (by omega),InG.one h2 (by omega),B⟩;have hZ2:∀ w2:World,(∀ x y:Obj,True)->Below w.heap.size w w2->w2.heap[g+1]?=some (.cells #[.int .i64 (kdC c a:Nat)] 3 (0,0))->w2.heap[g+2]?=some (.cells #[.int .i64 (kdC c a:Nat)] 3 (0,0))->ai w (ah c 18 a b).1 (ah c 18 a b).2 (.returned (.tuple #[.slice (some ⟨g+2,0,none⟩) 1 1,.slice (some ⟨g+1,0,none⟩) 1 1])) w2:=fun w2 _ B h1 h2=>⟨_,_,rfl,InG.one h2 (by omega),InG.one h1 (by omega),B⟩;have B3:Below w.heap.size w ((w1.alloc (.cells #[.int .i64 (kdC c a:Nat)] 3)).alloc (.cells #[.int .i64 (kdC c a:Nat)] 3)).drew:=(bG2 _ (bG2 _ B1)).drew;have E1:((w1.alloc (.cells #[.int .i64 (kdC c a:Nat)] 3)).alloc (.cells #[.int .i64 (kdC c a:Nat)] 3)).drew.heap[g+1]?=some (.cells #[.int .i64 (kdC c a:Nat)] 3 (0,0)):=by
  rw[<-hs1];exact h2G w1 _ _
 have E2:((w1.alloc (.cells #[.int .i64 (kdC c a:Nat)] 3)).alloc (.cells #[.int .i64 (kdC c a:Nat)] 3)).drew.heap[g+2]?=some (.cells #[.int .i64 (kdC c a:Nat)] 3 (0,0)):=by
  rw[show g+2=w1.heap.size+1 by omega];exact hA2 w1 _ _
 have HZ:=Lib.hid (hZ _ (fun _ _=>trivial) B3 E1 E2);have HZ2:=Lib.hid (hZ2 _ (fun _ _=>trivial) B3 E1 E2);have haI:(a:Int)<(c.ks.length:Int):=by omega
 generalize kdC c a=kd at *;have HG:=Lib.hid hg;have HS:=Lib.hid hs1;have A1:=bG w1 (.cells #[.int .i64 (kd:Nat)] 3);have c1a:(w1.alloc (.cells #[.int .i64 (kd:Nat)] 3)).cell? ⟨g,1,none⟩=some (.int .i64 (a:Nat)):=(A1.cell (p:=⟨g,1,none⟩) (by show g<w1.heap.size;omega)).trans c1;have hka:(w1.alloc (.cells #[.int .i64 (kd:Nat)] 3)).cell? ⟨kb,off+a,none⟩=some (.int .i64 (kd:Nat)):=(A1.cell (p:=⟨kb,off+a,none⟩) hkl).trans hkc;clear A1 hZ hZ2 B3 E1 E2 hg hs1 hb hC B1;go_enter Tryd.func60,Tryd.ntmps60;go_upto_region 1 with fail;have hw2:w1=w.alloc (.cells #[.int .i64 18,.int .i64 (a:Nat),.int .i64 (b:Nat)] 84):=hw1;rw[<-hw2,<-HG.out];clear hw1 hw2;go_upto_region 28 with fail;go_region
 all_goals
  rw[HS.out];go_wp2;go_ret2
  first|exact HZ.out|exact HZ2.out
theorem pd (c:Cd)(hr:cE c=true)(o a b:Nat)(W:WdR c o a b)(w:World)(ak:Option Addr)(ck:Nat)(hC:Lsv w ak (isV c.ks)):Calls Tryd.prog 60 #[wdV o a b,.slice ak c.ks.length ck] w (ai w (ah c o a b).1 (ah c o a b).2):=by
 have hl:=(et hr).2.2.2.2;have h16:=W.c16;have h18:=W.c17;have h23:=W.c23;have ho:=W.ol;clear W
 match o,ho,h16,h18,h23 with
 | 0,_,_,_,_=>exact yy c a b w ak _ ck
 | 1,_,_,_,_=>exact yP c a b w ak _ ck
 | 2,_,_,_,_=>exact yC c a b w ak _ ck
 | 3,_,_,_,_=>exact yv c a b w ak _ ck
 | 4,_,_,_,_=>exact yp c a b w ak _ ck
 | 5,_,_,_,_=>exact za c a b w ak _ ck
 | 6,_,_,_,_=>exact yW c a b w ak _ ck
 | 7,_,_,_,_=>exact yo c a b w ak _ ck
 | 8,_,_,_,_=>exact yS c a b w ak _ ck
 | 9,_,_,_,_=>exact yN c a b w ak _ ck
 | 10,_,_,_,_=>exact vE c a b w ak _ ck
 | 11,_,_,_,_=>exact vX c a b w ak _ ck
 | 12,_,_,_,_=>exact xh c a b w ak _ ck
 | 13,_,_,_,_=>exact xA c a b w ak _ ck
 | 14,_,_,_,_=>exact xr c a b w ak _ ck
 | 15,_,_,_,_=>exact vR c a b w ak _ ck
 | 16,_,h,_,_=>exact xX c a b (h rfl) w ak _ ck
 | 17,_,_,_,_=>exact xR c a b w ak _ ck
 | 18,_,_,h,_=>exact wR c hr a b (h (Or.inr (Or.inl rfl))) w ak ck hC hl
 | 19,_,_,_,_=>exact ye c a b w ak _ ck
 | 20,_,_,_,_=>exact vH c a b w ak _ ck
 | 21,_,_,_,_=>exact wT c a b w ak _ ck
 | 22,_,_,_,_=>exact xd c a b w ak _ ck
 | 23,_,_,_,h=>exact ym c a b (h rfl) w ak _ ck
 | 24,_,_,_,_=>exact vA c a b w ak _ ck
 | 25,_,_,_,_=>exact xD c a b w ak _ ck
 | 26,_,_,_,_=>exact xN c a b w ak _ ck
 | 27,_,_,_,_=>exact vM c a b w ak _ ck
 | n+28,h,_,_,_=>omega
theorem uM (a b r:Nat)(w:World):Calls Tryd.prog 59 #[wdV 0 a b,.int .i64 (r:Nat)] w fun e w'=>e=.returned (.bool (aG 0 a r))/\Below w.heap.size w w':=by
 go_enter Tryd.func59,Tryd.ntmps59;go_wp2;go_ret;exact⟨aB (by simp[aG]<;>omega),bG _ _⟩
theorem tm (a b:Nat)(w:World):Calls Tryd.prog 64 #[wdV 0 a b] w fun e w'=>e=.returned (.int .i64 (0))/\Below w.heap.size w w':=by
 go_enter Tryd.func64,Tryd.ntmps64;go_wp2;go_ret;exact⟨rfl,bG _ _⟩
theorem sk (a b:Nat)(w:World):Calls Tryd.prog 41 #[wdV 0 a b] w fun e w'=>e=.returned (.tuple #[.int .i64 ((ax 0 a b).getD 0:Nat),.bool (ax 0 a b).isSome])/\Below w.heap.size w w':=by
 go_enter Tryd.func41,Tryd.ntmps41;go_wp2;go_ret2;exact⟨rfl,bG _ _⟩
theorem wP (a b r:Nat)(w:World):Calls Tryd.prog 59 #[wdV 1 a b,.int .i64 (r:Nat)] w fun e w'=>e=.returned (.bool (aG 1 a r))/\Below w.heap.size w w':=by
 go_enter Tryd.func59,Tryd.ntmps59;go_wp2;go_ret;exact⟨aB (by simp[aG]<;>omega),bG _ _⟩
theorem tX (a b:Nat)(w:World):Calls Tryd.prog 64 #[wdV 1 a b] w fun e w'=>e=.returned (.int .i64 (0))/\Below w.heap.size w w':=by
 go_enter Tryd.func64,Tryd.ntmps64;go_wp2;go_ret;exact⟨rfl,bG _ _⟩
theorem ta (a b:Nat)(w:World):Calls Tryd.prog 41 #[wdV 1 a b] w fun e w'=>e=.returned (.tuple #[.int .i64 ((ax 1 a b).getD 0:Nat),.bool (ax 1 a b).isSome])/\Below w.heap.size w w':=by
 go_enter Tryd.func41,Tryd.ntmps41;go_wp2;go_ret2;exact⟨rfl,bG _ _⟩
theorem uY (a b r:Nat)(w:World):Calls Tryd.prog 59 #[wdV 2 a b,.int .i64 (r:Nat)] w fun e w'=>e=.returned (.bool (aG 2 a r))/\Below w.heap.size w w':=by
 go_enter Tryd.func59,Tryd.ntmps59;go_wp2;go_ret;exact⟨aB (by simp[aG]<;>omega),bG _ _⟩
theorem sA (a b:Nat)(w:World):Calls Tryd.prog 64 #[wdV 2 a b] w fun e w'=>e=.returned (.int .i64 (0))/\Below w.heap.size w w':=by
 go_enter Tryd.func64,Tryd.ntmps64;go_wp2;go_ret;exact⟨rfl,bG _ _⟩
theorem s9 (a b:Nat)(w:World):Calls Tryd.prog 41 #[wdV 2 a b] w fun e w'=>e=.returned (.tuple #[.int .i64 ((ax 2 a b).getD 0:Nat),.bool (ax 2 a b).isSome])/\Below w.heap.size w w':=by
 go_enter Tryd.func41,Tryd.ntmps41;go_wp2;go_ret2;exact⟨rfl,bG _ _⟩
theorem vB (a b r:Nat)(w:World):Calls Tryd.prog 59 #[wdV 3 a b,.int .i64 (r:Nat)] w fun e w'=>e=.returned (.bool (aG 3 a r))/\Below w.heap.size w w':=by
 go_enter Tryd.func59,Tryd.ntmps59;go_wp2;go_ret;exact⟨aB (by simp[aG]<;>omega),bG _ _⟩
theorem uh (a b:Nat)(w:World):Calls Tryd.prog 64 #[wdV 3 a b] w fun e w'=>e=.returned (.int .i64 (0))/\Below w.heap.size w w':=by
 go_enter Tryd.func64,Tryd.ntmps64;go_wp2;go_ret;exact⟨rfl,bG _ _⟩
theorem ts (a b:Nat)(w:World):Calls Tryd.prog 41 #[wdV 3 a b] w fun e w'=>e=.returned (.tuple #[.int .i64 ((ax 3 a b).getD 0:Nat),.bool (ax 3 a b).isSome])/\Below w.heap.size w w':=by
 go_enter Tryd.func41,Tryd.ntmps41;go_wp2;go_ret2;exact⟨rfl,bG _ _⟩
theorem xY (a b r:Nat)(w:World):Calls Tryd.prog 59 #[wdV 4 a b,.int .i64 (r:Nat)] w fun e w'=>e=.returned (.bool (aG 4 a r))/\Below w.heap.size w w':=by
 go_enter Tryd.func59,Tryd.ntmps59;go_wp2;go_ret;exact⟨aB (by simp[aG]<;>omega),bG _ _⟩
theorem sd (a b:Nat)(w:World):Calls Tryd.prog 64 #[wdV 4 a b] w fun e w'=>e=.returned (.int .i64 (0))/\Below w.heap.size w w':=by
 go_enter Tryd.func64,Tryd.ntmps64;go_wp2;go_ret;exact⟨rfl,bG _ _⟩
theorem sw (a b:Nat)(w:World):Calls Tryd.prog 41 #[wdV 4 a b] w fun e w'=>e=.returned (.tuple #[.int .i64 ((ax 4 a b).getD 0:Nat),.bool (ax 4 a b).isSome])/\Below w.heap.size w w':=by
 go_enter Tryd.func41,Tryd.ntmps41;go_wp2;go_ret2;exact⟨rfl,bG _ _⟩
theorem vm (a b r:Nat)(w:World):Calls Tryd.prog 59 #[wdV 5 a b,.int .i64 (r:Nat)] w fun e w'=>e=.returned (.bool (aG 5 a r))/\Below w.heap.size w w':=by
 go_enter Tryd.func59,Tryd.ntmps59;go_wp2;go_ret;exact⟨aB (by simp[aG]<;>omega),bG _ _⟩
theorem s7 (a b:Nat)(w:World):Calls Tryd.prog 64 #[wdV 5 a b] w fun e w'=>e=.returned (.int .i64 (0))/\Below w.heap.size w w':=by
 go_enter Tryd.func64,Tryd.ntmps64;go_wp2;go_ret;exact⟨rfl,bG _ _⟩
theorem uk (a b:Nat)(w:World):Calls Tryd.prog 41 #[wdV 5 a b] w fun e w'=>e=.returned (.tuple #[.int .i64 ((ax 5 a b).getD 0:Nat),.bool (ax 5 a b).isSome])/\Below w.heap.size w w':=by
 go_enter Tryd.func41,Tryd.ntmps41;go_wp2;go_ret2;exact⟨rfl,bG _ _⟩
theorem xU (a b r:Nat)(w:World):Calls Tryd.prog 59 #[wdV 6 a b,.int .i64 (r:Nat)] w fun e w'=>e=.returned (.bool (aG 6 a r))/\Below w.heap.size w w':=by
 go_enter Tryd.func59,Tryd.ntmps59;go_wp2;go_ret;exact⟨aB (by simp[aG]<;>omega),bG _ _⟩
theorem uw (a b:Nat)(w:World):Calls Tryd.prog 64 #[wdV 6 a b] w fun e w'=>e=.returned (.int .i64 (0))/\Below w.heap.size w w':=by
 go_enter Tryd.func64,Tryd.ntmps64;go_wp2;go_ret;exact⟨rfl,bG _ _⟩
theorem tM (a b:Nat)(w:World):Calls Tryd.prog 41 #[wdV 6 a b] w fun e w'=>e=.returned (.tuple #[.int .i64 ((ax 6 a b).getD 0:Nat),.bool (ax 6 a b).isSome])/\Below w.heap.size w w':=by
 go_enter Tryd.func41,Tryd.ntmps41;go_wp2;go_ret2;exact⟨rfl,bG _ _⟩
theorem wL (a b r:Nat)(w:World):Calls Tryd.prog 59 #[wdV 7 a b,.int .i64 (r:Nat)] w fun e w'=>e=.returned (.bool (aG 7 a r))/\Below w.heap.size w w':=by
 go_enter Tryd.func59,Tryd.ntmps59;go_wp2;go_ret;exact⟨aB (by simp[aG]<;>omega),bG _ _⟩
theorem sU (a b:Nat)(w:World):Calls Tryd.prog 64 #[wdV 7 a b] w fun e w'=>e=.returned (.int .i64 (0))/\Below w.heap.size w w':=by
 go_enter Tryd.func64,Tryd.ntmps64;go_wp2;go_ret;exact⟨rfl,bG _ _⟩
theorem ua (a b:Nat)(w:World):Calls Tryd.prog 41 #[wdV 7 a b] w fun e w'=>e=.returned (.tuple #[.int .i64 ((ax 7 a b).getD 0:Nat),.bool (ax 7 a b).isSome])/\Below w.heap.size w w':=by
 go_enter Tryd.func41,Tryd.ntmps41;go_wp2;go_ret2;exact⟨rfl,bG _ _⟩
theorem vW (a b r:Nat)(w:World):Calls Tryd.prog 59 #[wdV 8 a b,.int .i64 (r:Nat)] w fun e w'=>e=.returned (.bool (aG 8 a r))/\Below w.heap.size w w':=by
 go_enter Tryd.func59,Tryd.ntmps59;go_wp2;go_ret;exact⟨aB (by simp[aG]<;>omega),bG _ _⟩
theorem tP (a b:Nat)(w:World):Calls Tryd.prog 64 #[wdV 8 a b] w fun e w'=>e=.returned (.int .i64 (0))/\Below w.heap.size w w':=by
 go_enter Tryd.func64,Tryd.ntmps64;go_wp2;go_ret;exact⟨rfl,bG _ _⟩
theorem tQ (a b:Nat)(w:World):Calls Tryd.prog 41 #[wdV 8 a b] w fun e w'=>e=.returned (.tuple #[.int .i64 ((ax 8 a b).getD 0:Nat),.bool (ax 8 a b).isSome])/\Below w.heap.size w w':=by
 go_enter Tryd.func41,Tryd.ntmps41;go_wp2;go_ret2;exact⟨rfl,bG _ _⟩
theorem xP (a b r:Nat)(w:World):Calls Tryd.prog 59 #[wdV 9 a b,.int .i64 (r:Nat)] w fun e w'=>e=.returned (.bool (aG 9 a r))/\Below w.heap.size w w':=by
 go_enter Tryd.func59,Tryd.ntmps59;go_wp2;go_ret;exact⟨aB (by simp[aG]<;>omega),bG _ _⟩
theorem sK (a b:Nat)(w:World):Calls Tryd.prog 64 #[wdV 9 a b] w fun e w'=>e=.returned (.int .i64 (0))/\Below w.heap.size w w':=by
 go_enter Tryd.func64,Tryd.ntmps64;go_wp2;go_ret;exact⟨rfl,bG _ _⟩
theorem sL (a b:Nat)(w:World):Calls Tryd.prog 41 #[wdV 9 a b] w fun e w'=>e=.returned (.tuple #[.int .i64 ((ax 9 a b).getD 0:Nat),.bool (ax 9 a b).isSome])/\Below w.heap.size w w':=by
 go_enter Tryd.func41,Tryd.ntmps41;go_wp2;go_ret2;exact⟨rfl,bG _ _⟩
theorem sP (a b r:Nat)(w:World):Calls Tryd.prog 59 #[wdV 10 a b,.int .i64 (r:Nat)] w fun e w'=>e=.returned (.bool (aG 10 a r))/\Below w.heap.size w w':=by
 go_enter Tryd.func59,Tryd.ntmps59;go_wp2;go_ret;exact⟨aB (by simp[aG]<;>omega),bG _ _⟩
theorem ry (a b:Nat)(w:World):Calls Tryd.prog 64 #[wdV 10 a b] w fun e w'=>e=.returned (.int .i64 (0))/\Below w.heap.size w w':=by
 go_enter Tryd.func64,Tryd.ntmps64;go_wp2;go_ret;exact⟨rfl,bG _ _⟩
theorem p7 (a b:Nat)(w:World):Calls Tryd.prog 41 #[wdV 10 a b] w fun e w'=>e=.returned (.tuple #[.int .i64 ((ax 10 a b).getD 0:Nat),.bool (ax 10 a b).isSome])/\Below w.heap.size w w':=by
 go_enter Tryd.func41,Tryd.ntmps41;go_wp2;go_ret2;exact⟨rfl,bG _ _⟩
theorem tT (a b r:Nat)(w:World):Calls Tryd.prog 59 #[wdV 11 a b,.int .i64 (r:Nat)] w fun e w'=>e=.returned (.bool (aG 11 a r))/\Below w.heap.size w w':=by
 go_enter Tryd.func59,Tryd.ntmps59;go_wp2;go_ret;exact⟨aB (by simp[aG]<;>omega),bG _ _⟩
theorem qH (a b:Nat)(w:World):Calls Tryd.prog 64 #[wdV 11 a b] w fun e w'=>e=.returned (.int .i64 (0))/\Below w.heap.size w w':=by
 go_enter Tryd.func64,Tryd.ntmps64;go_wp2;go_ret;exact⟨rfl,bG _ _⟩
theorem qG (a b:Nat)(w:World):Calls Tryd.prog 41 #[wdV 11 a b] w fun e w'=>e=.returned (.tuple #[.int .i64 ((ax 11 a b).getD 0:Nat),.bool (ax 11 a b).isSome])/\Below w.heap.size w w':=by
 go_enter Tryd.func41,Tryd.ntmps41;go_wp2;go_ret2;exact⟨rfl,bG _ _⟩
theorem ub (a b r:Nat)(w:World):Calls Tryd.prog 59 #[wdV 12 a b,.int .i64 (r:Nat)] w fun e w'=>e=.returned (.bool (aG 12 a r))/\Below w.heap.size w w':=by
 go_enter Tryd.func59,Tryd.ntmps59;go_wp2;go_ret;exact⟨aB (by simp[aG]<;>omega),bG _ _⟩
theorem py (a b:Nat)(w:World):Calls Tryd.prog 64 #[wdV 12 a b] w fun e w'=>e=.returned (.int .i64 (0))/\Below w.heap.size w w':=by
 go_enter Tryd.func64,Tryd.ntmps64;go_wp2;go_ret;exact⟨rfl,bG _ _⟩
theorem pV (a b:Nat)(w:World):Calls Tryd.prog 41 #[wdV 12 a b] w fun e w'=>e=.returned (.tuple #[.int .i64 ((ax 12 a b).getD 0:Nat),.bool (ax 12 a b).isSome])/\Below w.heap.size w w':=by
 go_enter Tryd.func41,Tryd.ntmps41;go_wp2;go_ret2;exact⟨rfl,bG _ _⟩
theorem sV (a b r:Nat)(w:World):Calls Tryd.prog 59 #[wdV 13 a b,.int .i64 (r:Nat)] w fun e w'=>e=.returned (.bool (aG 13 a r))/\Below w.heap.size w w':=by
 go_enter Tryd.func59,Tryd.ntmps59;go_wp2;go_ret;exact⟨aB (by simp[aG]<;>omega),bG _ _⟩
theorem rn (a b:Nat)(w:World):Calls Tryd.prog 64 #[wdV 13 a b] w fun e w'=>e=.returned (.int .i64 (0))/\Below w.heap.size w w':=by
 go_enter Tryd.func64,Tryd.ntmps64;go_wp2;go_ret;exact⟨rfl,bG _ _⟩
theorem ph (a b:Nat)(w:World):Calls Tryd.prog 41 #[wdV 13 a b] w fun e w'=>e=.returned (.tuple #[.int .i64 ((ax 13 a b).getD 0:Nat),.bool (ax 13 a b).isSome])/\Below w.heap.size w w':=by
 go_enter Tryd.func41,Tryd.ntmps41;go_wp2;go_ret2;exact⟨rfl,bG _ _⟩
theorem ui (a b r:Nat)(w:World):Calls Tryd.prog 59 #[wdV 14 a b,.int .i64 (r:Nat)] w fun e w'=>e=.returned (.bool (aG 14 a r))/\Below w.heap.size w w':=by
 go_enter Tryd.func59,Tryd.ntmps59;go_wp2;go_ret;exact⟨aB (by simp[aG]<;>omega),bG _ _⟩
theorem ru (a b:Nat)(w:World):Calls Tryd.prog 64 #[wdV 14 a b] w fun e w'=>e=.returned (.int .i64 (0))/\Below w.heap.size w w':=by
 go_enter Tryd.func64,Tryd.ntmps64;go_wp2;go_ret;exact⟨rfl,bG _ _⟩
theorem rK (a b:Nat)(w:World):Calls Tryd.prog 41 #[wdV 14 a b] w fun e w'=>e=.returned (.tuple #[.int .i64 ((ax 14 a b).getD 0:Nat),.bool (ax 14 a b).isSome])/\Below w.heap.size w w':=by
 go_enter Tryd.func41,Tryd.ntmps41;go_wp2;go_ret2;exact⟨rfl,bG _ _⟩
theorem ud (a b r:Nat)(w:World):Calls Tryd.prog 59 #[wdV 15 a b,.int .i64 (r:Nat)] w fun e w'=>e=.returned (.bool (aG 15 a r))/\Below w.heap.size w w':=by
 go_enter Tryd.func59,Tryd.ntmps59;go_wp2;go_ret;exact⟨aB (by simp[aG]<;>omega),bG _ _⟩
theorem rH (a b:Nat)(w:World):Calls Tryd.prog 64 #[wdV 15 a b] w fun e w'=>e=.returned (.int .i64 (0))/\Below w.heap.size w w':=by
 go_enter Tryd.func64,Tryd.ntmps64;go_wp2;go_ret;exact⟨rfl,bG _ _⟩
theorem qY (a b:Nat)(w:World):Calls Tryd.prog 41 #[wdV 15 a b] w fun e w'=>e=.returned (.tuple #[.int .i64 ((ax 15 a b).getD 0:Nat),.bool (ax 15 a b).isSome])/\Below w.heap.size w w':=by
 go_enter Tryd.func41,Tryd.ntmps41;go_wp2;go_ret2;exact⟨rfl,bG _ _⟩
theorem tn (a b r:Nat)(w:World):Calls Tryd.prog 59 #[wdV 16 a b,.int .i64 (r:Nat)] w fun e w'=>e=.returned (.bool (aG 16 a r))/\Below w.heap.size w w':=by
 go_enter Tryd.func59,Tryd.ntmps59;go_wp2;go_ret;exact⟨aB (by simp[aG]<;>omega),bG _ _⟩
theorem pJ (a b:Nat)(w:World):Calls Tryd.prog 64 #[wdV 16 a b] w fun e w'=>e=.returned (.int .i64 (0))/\Below w.heap.size w w':=by
 go_enter Tryd.func64,Tryd.ntmps64;go_wp2;go_ret;exact⟨rfl,bG _ _⟩
theorem qR (a b:Nat)(w:World):Calls Tryd.prog 41 #[wdV 16 a b] w fun e w'=>e=.returned (.tuple #[.int .i64 ((ax 16 a b).getD 0:Nat),.bool (ax 16 a b).isSome])/\Below w.heap.size w w':=by
 go_enter Tryd.func41,Tryd.ntmps41;go_wp2;go_ret2;exact⟨rfl,bG _ _⟩
theorem tI (a b r:Nat)(w:World):Calls Tryd.prog 59 #[wdV 17 a b,.int .i64 (r:Nat)] w fun e w'=>e=.returned (.bool (aG 17 a r))/\Below w.heap.size w w':=by
 go_enter Tryd.func59,Tryd.ntmps59;go_wp2;go_ret;exact⟨aB (by simp[aG]<;>omega),bG _ _⟩
theorem pA (a b:Nat)(w:World):Calls Tryd.prog 64 #[wdV 17 a b] w fun e w'=>e=.returned (.int .i64 (0))/\Below w.heap.size w w':=by
 go_enter Tryd.func64,Tryd.ntmps64;go_wp2;go_ret;exact⟨rfl,bG _ _⟩
theorem pt (a b:Nat)(w:World):Calls Tryd.prog 41 #[wdV 17 a b] w fun e w'=>e=.returned (.tuple #[.int .i64 ((ax 17 a b).getD 0:Nat),.bool (ax 17 a b).isSome])/\Below w.heap.size w w':=by
 go_enter Tryd.func41,Tryd.ntmps41;go_wp2;go_ret2;exact⟨rfl,bG _ _⟩
theorem se (a b r:Nat)(w:World):Calls Tryd.prog 59 #[wdV 18 a b,.int .i64 (r:Nat)] w fun e w'=>e=.returned (.bool (aG 18 a r))/\Below w.heap.size w w':=by
 go_enter Tryd.func59,Tryd.ntmps59;go_wp2;go_ret;exact⟨aB (by simp[aG]<;>omega),bG _ _⟩
theorem oK (a b:Nat)(w:World):Calls Tryd.prog 64 #[wdV 18 a b] w fun e w'=>e=.returned (.int .i64 (0))/\Below w.heap.size w w':=by
 go_enter Tryd.func64,Tryd.ntmps64;go_wp2;go_ret;exact⟨rfl,bG _ _⟩
theorem pY (a b:Nat)(w:World):Calls Tryd.prog 41 #[wdV 18 a b] w fun e w'=>e=.returned (.tuple #[.int .i64 ((ax 18 a b).getD 0:Nat),.bool (ax 18 a b).isSome])/\Below w.heap.size w w':=by
 go_enter Tryd.func41,Tryd.ntmps41;go_wp2;go_ret2;exact⟨rfl,bG _ _⟩
theorem tC (a b r:Nat)(w:World):Calls Tryd.prog 59 #[wdV 19 a b,.int .i64 (r:Nat)] w fun e w'=>e=.returned (.bool (aG 19 a r))/\Below w.heap.size w w':=by
 go_enter Tryd.func59,Tryd.ntmps59;go_wp2;go_ret;exact⟨aB (by simp[aG]<;>omega),bG _ _⟩
theorem oM (a b:Nat)(w:World):Calls Tryd.prog 64 #[wdV 19 a b] w fun e w'=>e=.returned (.int .i64 (0))/\Below w.heap.size w w':=by
 go_enter Tryd.func64,Tryd.ntmps64;go_wp2;go_ret;exact⟨rfl,bG _ _⟩
theorem rM (a b:Nat)(w:World):Calls Tryd.prog 41 #[wdV 19 a b] w fun e w'=>e=.returned (.tuple #[.int .i64 ((ax 19 a b).getD 0:Nat),.bool (ax 19 a b).isSome])/\Below w.heap.size w w':=by
 go_enter Tryd.func41,Tryd.ntmps41;go_wp2;go_ret2;exact⟨rfl,bG _ _⟩
theorem ut (a b r:Nat)(w:World):Calls Tryd.prog 59 #[wdV 20 a b,.int .i64 (r:Nat)] w fun e w'=>e=.returned (.bool (aG 20 a r))/\Below w.heap.size w w':=by
 go_enter Tryd.func59,Tryd.ntmps59;go_wp2;go_ret;exact⟨aB (by simp[aG]<;>omega),bG _ _⟩
theorem pz (a b:Nat)(w:World):Calls Tryd.prog 64 #[wdV 20 a b] w fun e w'=>e=.returned (.int .i64 (1))/\Below w.heap.size w w':=by
 go_enter Tryd.func64,Tryd.ntmps64;go_wp2;go_ret;exact⟨rfl,bG _ _⟩
theorem pn (a b:Nat)(w:World):Calls Tryd.prog 41 #[wdV 20 a b] w fun e w'=>e=.returned (.tuple #[.int .i64 ((ax 20 a b).getD 0:Nat),.bool (ax 20 a b).isSome])/\Below w.heap.size w w':=by
 go_enter Tryd.func41,Tryd.ntmps41;go_wp2;go_ret2;exact⟨rfl,bG _ _⟩
theorem tk (a b r:Nat)(w:World):Calls Tryd.prog 59 #[wdV 21 a b,.int .i64 (r:Nat)] w fun e w'=>e=.returned (.bool (aG 21 a r))/\Below w.heap.size w w':=by
 go_enter Tryd.func59,Tryd.ntmps59;go_wp2;go_ret;exact⟨aB (by simp[aG]<;>omega),bG _ _⟩
theorem rv (a b:Nat)(w:World):Calls Tryd.prog 64 #[wdV 21 a b] w fun e w'=>e=.returned (.int .i64 (1))/\Below w.heap.size w w':=by
 go_enter Tryd.func64,Tryd.ntmps64;go_wp2;go_ret;exact⟨rfl,bG _ _⟩
theorem pi (a b:Nat)(w:World):Calls Tryd.prog 41 #[wdV 21 a b] w fun e w'=>e=.returned (.tuple #[.int .i64 ((ax 21 a b).getD 0:Nat),.bool (ax 21 a b).isSome])/\Below w.heap.size w w':=by
 go_enter Tryd.func41,Tryd.ntmps41;go_wp2;go_ret2;exact⟨rfl,bG _ _⟩
theorem sj (a b r:Nat)(w:World):Calls Tryd.prog 59 #[wdV 22 a b,.int .i64 (r:Nat)] w fun e w'=>e=.returned (.bool (aG 22 a r))/\Below w.heap.size w w':=by
 go_enter Tryd.func59,Tryd.ntmps59;go_wp2;go_ret;exact⟨aB (by simp[aG]<;>omega),bG _ _⟩
theorem pE (a b:Nat)(w:World):Calls Tryd.prog 64 #[wdV 22 a b] w fun e w'=>e=.returned (.int .i64 (1))/\Below w.heap.size w w':=by
 go_enter Tryd.func64,Tryd.ntmps64;go_wp2;go_ret;exact⟨rfl,bG _ _⟩
theorem pU (a b:Nat)(w:World):Calls Tryd.prog 41 #[wdV 22 a b] w fun e w'=>e=.returned (.tuple #[.int .i64 ((ax 22 a b).getD 0:Nat),.bool (ax 22 a b).isSome])/\Below w.heap.size w w':=by
 go_enter Tryd.func41,Tryd.ntmps41;go_wp2;go_ret2;exact⟨rfl,bG _ _⟩
theorem tA (a b r:Nat)(w:World):Calls Tryd.prog 59 #[wdV 23 a b,.int .i64 (r:Nat)] w fun e w'=>e=.returned (.bool (aG 23 a r))/\Below w.heap.size w w':=by
 go_enter Tryd.func59,Tryd.ntmps59;go_wp2;go_ret;exact⟨aB (by simp[aG]<;>omega),bG _ _⟩
theorem qQ (a b:Nat)(w:World):Calls Tryd.prog 64 #[wdV 23 a b] w fun e w'=>e=.returned (.int .i64 (1))/\Below w.heap.size w w':=by
 go_enter Tryd.func64,Tryd.ntmps64;go_wp2;go_ret;exact⟨rfl,bG _ _⟩
theorem qP (a b:Nat)(w:World):Calls Tryd.prog 41 #[wdV 23 a b] w fun e w'=>e=.returned (.tuple #[.int .i64 ((ax 23 a b).getD 0:Nat),.bool (ax 23 a b).isSome])/\Below w.heap.size w w':=by
 go_enter Tryd.func41,Tryd.ntmps41;go_wp2;go_ret2;exact⟨rfl,bG _ _⟩
theorem uB (a b r:Nat)(w:World):Calls Tryd.prog 59 #[wdV 24 a b,.int .i64 (r:Nat)] w fun e w'=>e=.returned (.bool (aG 24 a r))/\Below w.heap.size w w':=by
 go_enter Tryd.func59,Tryd.ntmps59;go_wp2;go_ret;exact⟨aB (by simp[aG]<;>omega),bG _ _⟩
theorem rQ (a b:Nat)(w:World):Calls Tryd.prog 64 #[wdV 24 a b] w fun e w'=>e=.returned (.int .i64 (0))/\Below w.heap.size w w':=by
 go_enter Tryd.func64,Tryd.ntmps64;go_wp2;go_ret;exact⟨rfl,bG _ _⟩
theorem oW (a b:Nat)(w:World):Calls Tryd.prog 41 #[wdV 24 a b] w fun e w'=>e=.returned (.tuple #[.int .i64 ((ax 24 a b).getD 0:Nat),.bool (ax 24 a b).isSome])/\Below w.heap.size w w':=by
 go_enter Tryd.func41,Tryd.ntmps41;go_wp2;go_ret2;exact⟨rfl,bG _ _⟩
theorem tg (a b r:Nat)(w:World):Calls Tryd.prog 59 #[wdV 25 a b,.int .i64 (r:Nat)] w fun e w'=>e=.returned (.bool (aG 25 a r))/\Below w.heap.size w w':=by
 go_enter Tryd.func59,Tryd.ntmps59;go_wp2;go_ret;exact⟨aB (by simp[aG]<;>omega),bG _ _⟩
theorem pv (a b:Nat)(w:World):Calls Tryd.prog 64 #[wdV 25 a b] w fun e w'=>e=.returned (.int .i64 (-1))/\Below w.heap.size w w':=by
 go_enter Tryd.func64,Tryd.ntmps64;go_wp2;go_ret;exact⟨rfl,bG _ _⟩
theorem rS (a b:Nat)(w:World):Calls Tryd.prog 41 #[wdV 25 a b] w fun e w'=>e=.returned (.tuple #[.int .i64 ((ax 25 a b).getD 0:Nat),.bool (ax 25 a b).isSome])/\Below w.heap.size w w':=by
 go_enter Tryd.func41,Tryd.ntmps41;go_wp2;go_ret2;exact⟨rfl,bG _ _⟩
theorem tc (a b r:Nat)(w:World):Calls Tryd.prog 59 #[wdV 26 a b,.int .i64 (r:Nat)] w fun e w'=>e=.returned (.bool (aG 26 a r))/\Below w.heap.size w w':=by
 go_enter Tryd.func59,Tryd.ntmps59;go_wp2;go_ret;exact⟨aB (by simp[aG]<;>omega),bG _ _⟩
theorem qz (a b:Nat)(w:World):Calls Tryd.prog 64 #[wdV 26 a b] w fun e w'=>e=.returned (.int .i64 (0))/\Below w.heap.size w w':=by
 go_enter Tryd.func64,Tryd.ntmps64;go_wp2;go_ret;exact⟨rfl,bG _ _⟩
theorem oH (a b:Nat)(w:World):Calls Tryd.prog 41 #[wdV 26 a b] w fun e w'=>e=.returned (.tuple #[.int .i64 ((ax 26 a b).getD 0:Nat),.bool (ax 26 a b).isSome])/\Below w.heap.size w w':=by
 go_enter Tryd.func41,Tryd.ntmps41;go_wp2;go_ret2;exact⟨rfl,bG _ _⟩
theorem sB (a b r:Nat)(w:World):Calls Tryd.prog 59 #[wdV 27 a b,.int .i64 (r:Nat)] w fun e w'=>e=.returned (.bool (aG 27 a r))/\Below w.heap.size w w':=by
 go_enter Tryd.func59,Tryd.ntmps59;go_wp2;go_ret;exact⟨aB (by simp[aG]<;>omega),bG _ _⟩
theorem rI (a b:Nat)(w:World):Calls Tryd.prog 64 #[wdV 27 a b] w fun e w'=>e=.returned (.int .i64 (0))/\Below w.heap.size w w':=by
 go_enter Tryd.func64,Tryd.ntmps64;go_wp2;go_ret;exact⟨rfl,bG _ _⟩
theorem qn (a b:Nat)(w:World):Calls Tryd.prog 41 #[wdV 27 a b] w fun e w'=>e=.returned (.tuple #[.int .i64 ((ax 27 a b).getD 0:Nat),.bool (ax 27 a b).isSome])/\Below w.heap.size w w':=by
 go_enter Tryd.func41,Tryd.ntmps41;go_wp2;go_ret2;exact⟨rfl,bG _ _⟩
theorem uQ (o a b r:Nat)(ho:o<28)(w:World):Calls Tryd.prog 59 #[wdV o a b,.int .i64 (r:Nat)] w fun e w'=>e=.returned (.bool (aG o a r))/\Below w.heap.size w w':=by
 match o,ho with
 | 0,_=>exact uM a b r w
 | 1,_=>exact wP a b r w
 | 2,_=>exact uY a b r w
 | 3,_=>exact vB a b r w
 | 4,_=>exact xY a b r w
 | 5,_=>exact vm a b r w
 | 6,_=>exact xU a b r w
 | 7,_=>exact wL a b r w
 | 8,_=>exact vW a b r w
 | 9,_=>exact xP a b r w
 | 10,_=>exact sP a b r w
 | 11,_=>exact tT a b r w
 | 12,_=>exact ub a b r w
 | 13,_=>exact sV a b r w
 | 14,_=>exact ui a b r w
 | 15,_=>exact ud a b r w
 | 16,_=>exact tn a b r w
 | 17,_=>exact tI a b r w
 | 18,_=>exact se a b r w
 | 19,_=>exact tC a b r w
 | 20,_=>exact ut a b r w
 | 21,_=>exact tk a b r w
 | 22,_=>exact sj a b r w
 | 23,_=>exact tA a b r w
 | 24,_=>exact uB a b r w
 | 25,_=>exact tg a b r w
 | 26,_=>exact tc a b r w
 | 27,_=>exact sB a b r w
 | n+28,h=>omega
def pR (o:Nat):Int:=if 20<=o/\o<=23 then 1 else if o=25 then -1 else 0
theorem r5 (o a b:Nat)(ho:o<28)(w:World):Calls Tryd.prog 64 #[wdV o a b] w fun e w'=>e=.returned (.int .i64 (pR o))/\Below w.heap.size w w':=by
 match o,ho with
 | 0,_=>exact tm a b w
 | 1,_=>exact tX a b w
 | 2,_=>exact sA a b w
 | 3,_=>exact uh a b w
 | 4,_=>exact sd a b w
 | 5,_=>exact s7 a b w
 | 6,_=>exact uw a b w
 | 7,_=>exact sU a b w
 | 8,_=>exact tP a b w
 | 9,_=>exact sK a b w
 | 10,_=>exact ry a b w
 | 11,_=>exact qH a b w
 | 12,_=>exact py a b w
 | 13,_=>exact rn a b w
 | 14,_=>exact ru a b w
 | 15,_=>exact rH a b w
 | 16,_=>exact pJ a b w
 | 17,_=>exact pA a b w
 | 18,_=>exact oK a b w
 | 19,_=>exact oM a b w
 | 20,_=>exact pz a b w
 | 21,_=>exact rv a b w
 | 22,_=>exact pE a b w
 | 23,_=>exact qQ a b w
 | 24,_=>exact rQ a b w
 | 25,_=>exact pv a b w
 | 26,_=>exact qz a b w
 | 27,_=>exact rI a b w
 | n+28,h=>omega
theorem tx (o a b:Nat)(ho:o<28)(w:World):Calls Tryd.prog 41 #[wdV o a b] w fun e w'=>e=.returned (.tuple #[.int .i64 ((ax o a b).getD 0:Nat),.bool (ax o a b).isSome])/\Below w.heap.size w w':=by
 match o,ho with
 | 0,_=>exact sk a b w
 | 1,_=>exact ta a b w
 | 2,_=>exact s9 a b w
 | 3,_=>exact ts a b w
 | 4,_=>exact sw a b w
 | 5,_=>exact uk a b w
 | 6,_=>exact tM a b w
 | 7,_=>exact ua a b w
 | 8,_=>exact tQ a b w
 | 9,_=>exact sL a b w
 | 10,_=>exact p7 a b w
 | 11,_=>exact qG a b w
 | 12,_=>exact pV a b w
 | 13,_=>exact ph a b w
 | 14,_=>exact rK a b w
 | 15,_=>exact qY a b w
 | 16,_=>exact qR a b w
 | 17,_=>exact pt a b w
 | 18,_=>exact pY a b w
 | 19,_=>exact rM a b w
 | 20,_=>exact pn a b w
 | 21,_=>exact pi a b w
 | 22,_=>exact pU a b w
 | 23,_=>exact qP a b w
 | 24,_=>exact oW a b w
 | 25,_=>exact rS a b w
 | 26,_=>exact oH a b w
 | 27,_=>exact qn a b w
 | n+28,h=>omega
theorem tw {o a r:Nat}(h:aG o a r=true):((r:Nat):Int)+pR o=((dN o r:Nat):Int):=by
 unfold aG at h;unfold pR dN;by_cases h1:20<=o/\o<=23
 ·rw[if_pos h1,if_pos h1];omega
 ·rw[if_neg h1,if_neg h1];by_cases h2:o=25
  ·subst h2;simp at h;rw[if_pos rfl,if_pos rfl];omega
  ·rw[if_neg h2,if_neg h2];omega
theorem oe (c:Cd)(k:Nat)(hk:k<c.ws.length)(ho:c.Ok)(w:World)(hT:fS w):Calls Tryd.prog 37 #[.int .u64 (c.ws.getD k 0)] w fun e w'=>e=.returned (wdV (opN c k) (aN c k) (bN c k))/\Below w.heap.size w w':=by
 have hu:=ho.ws _ (List.getElem_mem hk);have e:c.ws.getD k 0=c.ws[k]:=by simp[List.getD_eq_getElem?_getD,List.getElem?_eq_getElem hk]
 have HP:=fun wx hx=>iv (c.ws.getD k 0) wx hx (by rw[e];exact hu.1) (by rw[e];exact hu.2);have h1:((opN c k:Nat):Int)=c.ws.getD k 0 / 72057594037927936:=by rw[opN,opW,e];omega
 have h2:((aN c k:Nat):Int)=c.ws.getD k 0 / 268435456 % 268435456:=by rw[aN,aW,e];omega
 have h3:((bN c k:Nat):Int)=c.ws.getD k 0 % 268435456:=by rw[bN,bW,e];omega
 rw[<-h1,<-h2,<-h3] at HP;clear h1 h2 h3 e hu;generalize opN c k=o at *;generalize aN c k=a at *;generalize bN c k=b at *;generalize c.ws.getD k 0=u at *;obtain⟨g,hg⟩:∃g,g=w.heap.size:=⟨_,rfl⟩
 obtain⟨w1,hw1⟩:∃w1,w1=w.alloc (.cells #[.int .i64 0,.int .i64 0,.int .i64 0] 84):=⟨_,rfl⟩
 have B1:Below w.heap.size w w1:=by rw[hw1];exact bG _ _
 have h1:w1.heap[g]?=some (.cells #[.int .i64 0,.int .i64 0,.int .i64 0] 84 (0,0)):=by rw[hw1,hg];exact h1G _ _
 have hl:g<w1.heap.size:=lt_of_block h1;have HG:=Lib.hid hg;have T1:=hT.below B1;clear hT hg;go_enter Tryd.func37,Tryd.ntmps37;go_wp2_with fail;rw[<-hw1,<-HG.out];clear hw1;refine(HP _ T1).mono ?_;rintro e w2 ⟨rfl,B2⟩;have h2:=(B2.block g hl).trans h1;have BB:=B1.trans (B2.mono B1.size);clear HP T1 h1 B1 B2;have c0:w2.cell? ⟨g,0,none⟩=some (.int .i64 0):=by rw[cell_of_row _ _ _ _ _ _ h2];rfl
 have c1:w2.cell? ⟨g,1,none⟩=some (.int .i64 0):=by rw[cell_of_row _ _ _ _ _ _ h2];rfl
 have c2:w2.cell? ⟨g,2,none⟩=some (.int .i64 0):=by rw[cell_of_row _ _ _ _ _ _ h2];rfl
 have f0:=frozen_of_row w2 g 0 _ _ h2;have f1:=frozen_of_row w2 g 1 _ _ h2;have f2:=frozen_of_row w2 g 2 _ _ h2;have BE:Below w.heap.size w (((w2.setCell ⟨g,0,none⟩ (.int .i64 (o:Nat))).setCell ⟨g,1,none⟩ (.int .i64 (a:Nat))).setCell ⟨g,2,none⟩ (.int .i64 (b:Nat))):=((BB.setCell (p:=⟨g,0,none⟩) (by show _<=g;rw[HG.out];exact Nat.le_refl _) _).setCell (p:=⟨g,1,none⟩) (by show _<=g;rw[HG.out];exact Nat.le_refl _) _).setCell (p:=⟨g,2,none⟩) (by show _<=g;rw[HG.out];exact Nat.le_refl _) _;have hE:(((w2.setCell ⟨g,0,none⟩ (.int .i64 (o:Nat))).setCell ⟨g,1,none⟩ (.int .i64 (a:Nat))).setCell ⟨g,2,none⟩ (.int .i64 (b:Nat))).heap[g]?=some (.cells #[.int .i64 (o:Nat),.int .i64 (a:Nat),.int .i64 (b:Nat)] 84 (0,0)) :=
  heap_setCell_same _ _ 2 _ _ _ (heap_setCell_same _ _ 1 _ _ _ (heap_setCell_same _ _ 0 _ _ _ h2))
 have u0:(((w2.setCell ⟨g,0,none⟩ (.int .i64 (o:Nat))).setCell ⟨g,1,none⟩ (.int .i64 (a:Nat))).setCell ⟨g,2,none⟩ (.int .i64 (b:Nat))).cell? ⟨g,0,none⟩=some (.int .i64 (o:Nat)):=by rw[cell_of_row _ _ _ _ _ _ hE];rfl
 have u1:(((w2.setCell ⟨g,0,none⟩ (.int .i64 (o:Nat))).setCell ⟨g,1,none⟩ (.int .i64 (a:Nat))).setCell ⟨g,2,none⟩ (.int .i64 (b:Nat))).cell? ⟨g,1,none⟩=some (.int .i64 (a:Nat)):=by rw[cell_of_row _ _ _ _ _ _ hE];rfl
 have u2:(((w2.setCell ⟨g,0,none⟩ (.int .i64 (o:Nat))).setCell ⟨g,1,none⟩ (.int .i64 (a:Nat))).setCell ⟨g,2,none⟩ (.int .i64 (b:Nat))).cell? ⟨g,2,none⟩=some (.int .i64 (b:Nat)):=by rw[cell_of_row _ _ _ _ _ _ hE];rfl
 have HBE:=Lib.hid BE;clear BE hE h2 BB;go_wp2;exact bodyPost_ret (v:=wdV o a b) (by simp[results,Tryd.results37,go_sem,u0,u1,u2]) rfl ⟨rfl,HBE.out⟩
open Go.RowKit
def cY (o k:Nat)(s:StG):Nat ⊕ StG :=
 if s.1=[] then .inl 201 else if s.1.getLastD 0=k then .inr (s.1.dropLast,s.2) else .inl (if o=18 then 203 else 201)
def bT (o:Nat):List Nat->StG->Nat ⊕ StG
 | [],s=>.inr s
 | k::t,s=>match cY o k s with
  | .inl n=>.inl n
  | .inr u=>bT o t u
theorem f6 (o:Nat)(y:List Nat):∀ (x:List Nat) (s:StG),bT o (x++y) s=match bT o x s with
  | .inl n=>.inl n
  | .inr u=>bT o y u
 | [],s=>rfl
 | k::t,s=>by
  simp only[List.cons_append,bT];cases cY o k s with
  | inl n=>rfl
  | inr u=>exact f6 o y t u
theorem qw (o k:Nat)(r:Nat):cY o k ([],r)=.inl 201:=rfl
theorem oF (o k x:Nat)(l:List Nat)(r:Nat):cY o k (l++[x],r)=if x=k then .inr (l,r) else .inl (if o=18 then 203 else 201):=by
 unfold cY;rw[if_neg (by simp)];simp
theorem iX (o:Nat):∀ (rs:List Nat) (s:StG),(o=18->rs.length<=1)->bT o rs s =
  if s.1.drop (s.1.length-rs.length)=rs.reverse then .inr (s.1.take (s.1.length-rs.length),s.2) else .inl (if o=18/\s.1≠[] then 203 else 201)
 | [],s,_=>by simp[bT]
 | k::t,(l0,r),h=>by
  rw[bT];rcases List.eq_nil_or_concat l0 with rfl|⟨l,x,hlk⟩
  ·rw[qw,if_neg (by simp)];simp
  ·rw[List.concat_eq_append] at hlk;subst hlk;rw[oF];have e1:(l++[x]).length-(k::t).length=l.length-t.length:=by simp
   have e2:(l++[x]).drop (l.length-t.length)=l.drop (l.length-t.length)++[x]:=List.drop_append_of_le_length (by omega);have e3:(l++[x]).take (l.length-t.length)=l.take (l.length-t.length):=List.take_append_of_le_length (by omega)
   dsimp only
   rw[e1,e2,e3,List.reverse_cons];by_cases hx:x=k
   ·subst hx;rw[if_pos rfl]
    dsimp only
    rw[iX o t (l,r) (fun e=>by have:=h e;simp at this;simp[this])]
    dsimp only
    by_cases hd:l.drop (l.length-t.length)=t.reverse
    ·rw[if_pos hd,if_pos (by rw[hd])]
    ·rw[if_neg hd,if_neg (fun e=>hd (List.append_cancel_right e))];by_cases ho:o=18
     ·exfalso
      have:=h ho
      simp at this;subst this;simp at hd
     ·rw[if_neg (fun e=>ho e.1),if_neg (fun e=>ho e.1)]
   ·rw[if_neg hx,if_neg (c:=l.drop (l.length-t.length)++[x]=t.reverse++[k]) (fun e=>hx (by have:=List.append_inj_right' e rfl;simpa using this))]
    dsimp only
    by_cases ho:o=18
    ·rw[if_pos ho,if_pos ⟨ho,by simp⟩]
    ·rw[if_neg ho,if_neg (fun e=>ho e.1)]
theorem zc (c:Cd)(o a b:Nat)(h:o=18):(ah c o a b).1.length<=1:=by
 subst h;simp[ah]
theorem lP (c:Cd)(o a b:Nat)(s:StG):bE c o a b s=if aG o a s.2=true then
  (match bT o (ah c o a b).1.reverse s with
  | .inl n=>.inl n
  | .inr t=>if t.1.length+(ah c o a b).2.length<=1024 then .inr (t.1++(ah c o a b).2,dN o t.2) else .inl 201)
  else .inl 201:=by
 unfold bE;rw[iX o _ s (fun e=>by rw[List.length_reverse];exact zc c o a b e)];rw[List.reverse_reverse,List.length_reverse];by_cases hf:aG o a s.2=true
 ·rw[if_pos hf,if_pos hf];by_cases hd:s.1.drop (s.1.length-(ah c o a b).1.length)=(ah c o a b).1
  ·rw[if_pos hd,if_pos hd]
   dsimp only
   have e:(s.1.take (s.1.length-(ah c o a b).1.length)).length=s.1.length-(ah c o a b).1.length:=by rw[List.length_take];omega
   rw[e]
  ·rw[if_neg hd,if_neg hd]
 ·rw[if_neg hf,if_neg hf]
theorem sN {o k:Nat}{s t:StG}(S:bD s)(h:cY o k s=.inr t):bD t/\t.2=s.2:=by
 unfold cY at h;split at h
 ·cases h
 ·split at h
  ·cases h;exact⟨⟨by simp only[List.length_dropLast];have:=S.len;omega,fun k hk=>S.kd k ((List.dropLast_sublist s.1).subset hk),S.rd⟩,rfl⟩
  ·cases h
theorem fD {o:Nat}:∀ {x:List Nat}{s t:StG},bD s->bT o x s=.inr t->bD t/\t.2=s.2
 | [],s,t,S,h=>by cases h;exact⟨S,rfl⟩
 | k::x,s,t,S,h=>by
  rw[bT] at h;cases ht:cY o k s with
  | inl n=>rw[ht] at h;cases h
  | inr u =>
   rw[ht] at h;have h1:=sN S ht;have h2:=fD h1.1 h;exact⟨h2.1,h2.2.trans h1.2⟩
theorem px (a:Nat):(aF a).1.length<=1024:=by
 unfold aF;by_cases h1:a=1\/a=2
 ·rw[if_pos h1];decide
 ·rw[if_neg h1];by_cases h2:a=3
  ·rw[if_pos h2];decide
  ·rw[if_neg h2];by_cases h3:a=10
   ·rw[if_pos h3];decide
   ·rw[if_neg h3];decide
theorem tR {c:Cd}{o a b:Nat}(W:WdR c o a b):(ah c o a b).1.length<=1024:=by
 have h23:=W.c23;have ho:=W.ol;clear W
 match o,ho,h23 with
 | 0,_,_=>simp[ah]
 | 1,_,_=>simp[ah]
 | 2,_,_=>simp[ah]
 | 3,_,_=>simp[ah]
 | 4,_,_=>simp[ah]
 | 5,_,_=>simp[ah]
 | 6,_,_=>simp[ah]
 | 7,_,_=>simp[ah]
 | 8,_,_=>simp[ah]
 | 9,_,_=>simp[ah]
 | 10,_,_=>simp[ah]
 | 11,_,_=>simp[ah]
 | 12,_,_=>simp[ah]
 | 13,_,_=>simp[ah]
 | 14,_,_=>simp[ah]
 | 15,_,_=>simp[ah]
 | 16,_,_=>simp[ah];exact px a
 | 17,_,_=>simp[ah]
 | 18,_,_=>simp[ah]
 | 19,_,_=>simp[ah]
 | 20,_,_=>simp[ah]
 | 21,_,_=>simp[ah]
 | 22,_,_=>simp[ah]
 | 23,_,h=>simp[ah];exact h rfl
 | 24,_,_=>simp[ah]
 | 25,_,_=>simp[ah]
 | 26,_,_=>simp[ah]
 | 27,_,_=>simp[ah]
 | n+28,h,_=>omega
theorem n6 (a:Nat):(aF a).2.length<=3:=by
 unfold aF;by_cases h1:a=1\/a=2
 ·rw[if_pos h1];decide
 ·rw[if_neg h1];by_cases h2:a=3
  ·rw[if_pos h2];decide
  ·rw[if_neg h2];by_cases h3:a=10
   ·rw[if_pos h3];decide
   ·rw[if_neg h3];decide
theorem pN {c:Cd}{o a b:Nat}(W:WdR c o a b):(ah c o a b).2.length<=3:=by
 have ho:=W.ol;clear W
 match o,ho with
 | 0,_=>simp[ah]
 | 1,_=>simp[ah]
 | 2,_=>simp[ah]
 | 3,_=>simp[ah]
 | 4,_=>simp[ah]
 | 5,_=>simp[ah]
 | 6,_=>simp[ah]
 | 7,_=>simp[ah]
 | 8,_=>simp[ah]
 | 9,_=>simp[ah]
 | 10,_=>simp[ah]
 | 11,_=>simp[ah]
 | 12,_=>simp[ah]
 | 13,_=>simp[ah]
 | 14,_=>simp[ah]
 | 15,_=>simp[ah]
 | 16,_=>simp[ah];exact n6 a
 | 17,_=>simp[ah]
 | 18,_=>simp[ah]
 | 19,_=>simp[ah]
 | 20,_=>simp[ah]
 | 21,_=>simp[ah]
 | 22,_=>simp[ah]
 | 23,_=>simp[ah]
 | 24,_=>simp[ah]
 | 25,_=>simp[ah]
 | 26,_=>simp[ah]
 | 27,_=>simp[ah]
 | n+28,h=>omega
theorem rB (a:Nat):∀ k ∈ (aF a).1,1<=k/\k<=3:=by
 intro k hk;unfold aF at hk;by_cases h1:a=1\/a=2
 ·rw[if_pos h1] at hk;simp at hk;omega
 ·rw[if_neg h1] at hk;by_cases h2:a=3
  ·rw[if_pos h2] at hk;simp at hk;omega
  ·rw[if_neg h2] at hk;by_cases h3:a=10
   ·rw[if_pos h3] at hk;simp at hk;omega
   ·rw[if_neg h3] at hk;simp at hk;omega
theorem sC {c:Cd}(h:cE c=true){o a b:Nat}(W:WdR c o a b):∀ k ∈ (ah c o a b).1,1<=k/\k<=3:=by
 intro k hk;have h11:=W.c11;have h18:=fun e:o=18=>js h (W.c17 (Or.inr (Or.inl e)));have h16:=rB a;have ho:=W.ol;clear W
 match o,ho with
 | 0,_ | 1,_ | 2,_ | 3,_ | 4,_ | 5,_ | 6,_ | 7,_ | 8,_ | 9,_ | 10,_ | 11,_ | 12,_ | 13,_ | 14,_ | 15,_ | 16,_ | 17,_ | 18,_ | 19,_ | 20,_ | 21,_ | 22,_ | 23,_ | 24,_ | 25,_ | 26,_ | 27,_ =>
  simp[ah] at hk h11 h18
  all_goals first|omega|exact h16 _ hk|(subst hk;exact h18)
end Go.Proofs.YtejnhibajmncaaaDoor

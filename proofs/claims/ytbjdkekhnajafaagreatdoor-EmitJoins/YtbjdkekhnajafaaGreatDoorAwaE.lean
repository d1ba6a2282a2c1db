import Derived.Test.YtbjdkekhnajafaaGreatDoorEmP
set_option maxRecDepth 100000
set_option maxHeartbeats 8000000
namespace Go.Proofs.YtbjdkekhnajafaaGreatDoor
open Go.ChangeShapes Go.WideShapes Go.ChangeAt Go.RowKit
set_option linter.unusedVariables false
set_option linter.unusedSimpArgs false
theorem repeat1_c (w:World)(b off c n:Nat)(hn:n<=100000)(hb:b<w.heap.size)(hc:w.cell? ⟨b,off,none⟩=some (.int .i64 1)) :
  Calls Tryz.prog 85 #[.slice (some ⟨b,off,none⟩) 1 c,.int .i64 (n:Nat)] w fun x w'=>∃g,x=.returned (.slice (some ⟨g,0,none⟩) n n)/\w.heap.size<=g/\w'.heap[g]?=some (.cells (List.replicate n (Value.int .i64 1)).toArray 3 (0,0))/\Below w.heap.size w w':=by
 obtain⟨ii,hii,hzi0,hzi1,hzi2⟩:=info_parts infoInt3;have mk:∀ w:World,(Instr.makeSlice 35 (.int .i64 (n:Nat)) (.int .i64 (n:Nat))).run Tryz.prog w=.ok (.slice (some ⟨w.heap.size,0,none⟩) n n) (w.alloc (.cells (madeCells (Value.int .i64 0).cells (n*1)) 3)):=fun w=>by
  have:=run_make (P:=Tryz.prog) w 35 3 ii _ Tryz.underlying35 hii hzi0 .i64 .i64 n n (by omega) (Int.le_refl _) (by rw[hzi2];omega) (by omega)
  rw[hzi1] at this;simpa only[Int.toNat_natCast] using this
 obtain⟨X,hX,hXl⟩:∃X:List Value,madeCells (Value.int .i64 0).cells (n*1)=X.toArray/\X.length=n:=⟨(madeCells (Value.int .i64 0).cells (n*1)).toList,by simp,by simp[madeCells,Value.cells]⟩
 rw[hX] at mk;have B0:Below w.heap.size w (w.alloc (.cells X.toArray 3)):=(Below.refl _ w).alloc (Nat.le_refl _) _;have E0:(w.alloc (.cells X.toArray 3)).heap[w.heap.size]?=some (.cells X.toArray 3 (0,0)):=heap_alloc_new w _;have c0:=(B0.cell (p:=⟨b,off,none⟩) hb).trans hc;have m1:=fun w=>mul_c n hn w;clear hX hc;go_enter Tryz.func85,Tryz.ntmps85;go_wp2_with fail;refine(m1 _).mono ?_;rintro z w1 ⟨rfl,rfl⟩;go_upto_region 7 with fail;generalize w1.alloc (.cells X.toArray 3)=w0 at *;obtain⟨g,hg⟩:∃g,g=w1.heap.size:=⟨_,rfl⟩
 rw[<-hg] at E0 ⊢;have HG:Hid (g=w1.heap.size):=hg;have hgs:(Tryz.prog.info? 3).map (·.size)=some 1:=by rw[hii];simp[hzi1]
 obtain⟨cs,hcs⟩:∃cs,cs=List.replicate (min 1 n) (Value.int .i64 1):=⟨_,rfl⟩
 have hcl:cs.length=min 1 n:=by rw[hcs];simp
 have hcv:∀ j v,cs[j]?=some v->j=0/\v=Value.int .i64 1:=by
  intro j v hv;rw[hcs,List.getElem?_replicate] at hv;split at hv
  ·injection hv with hv
   exact⟨by omega,hv.symm⟩
  ·cases hv
 have hca:∀ j,j<cs.length->cs[j]?=some (Value.int .i64 1):=by
  intro j hj;rw[hcs,List.getElem?_replicate];rw[hcl] at hj;rw[if_pos hj]
 clear hcs hg;obtain⟨w2,hr2,hg2,hb2⟩:=run_splice (P:=Tryz.prog) (w:=w0) 35 35 3 3 Tryz.underlying35 hgs (some ⟨g,0,none⟩) (some ⟨b,off,none⟩) n n 1 c g 0 X 3 E0 cs (by rw[hcl]) (fun _=>⟨rfl,_,rfl,fun j v hv=>by obtain⟨rfl,rfl⟩:=hcv j v hv;exact c0⟩) (by omega) (fun v hv=>by obtain⟨j,hj,h2⟩:=List.mem_iff_getElem.1 hv;rw[(hcv j v (by rw[List.getElem?_eq_getElem hj,h2])).2];rfl);have hlen2:(splice X 0 cs).length=n:=by rw[length_splice _ _ _ (by omega)];exact hXl
 have hat2:Hid (∀ j,j<0+cs.length->(splice X 0 cs)[j]?=some (Value.int .i64 1)):=lay_at (fun j hj=>absurd hj (Nat.not_lt_zero _)) hca (by omega);generalize splice X 0 cs=Y at *;have hgl:Hid (g=w1.heap.size):=HG;have B2:Below w1.heap.size w1 w2:=B0.trans (by rw[<-HG.out];exact hb2);have hk1:Hid (min 1 n<=n/\(0<n->0<min 1 n)):=⟨by omega,by omega⟩
 rw[hcl,Nat.zero_add] at hat2;have hgi:goInt cs.length=.int .i64 (min 1 n:Nat):=by rw[hcl];rfl
 rw[hgi] at hr2;generalize min 1 n=k1 at *;have h2:=lt_of_block hg2;clear E0 c0 hca hcv B0 hb2 hgi;go_wp2;go_loopw [8] (fun v wr=>∃(k:Nat) (Y:List Value),k<=n/\v=.int .i64 (k:Nat)/\(0<n->0<k)/\Y.length=n/\Hid (∀ j,j<k->Y[j]?=some (Value.int .i64 1))/\wr.heap[g]?=some (.cells Y.toArray 3 (0,0))/\Below w1.heap.size w1 wr) (fun v _=>n-(intOf v).toNat)
 case atStart=>exact⟨k1,Y,hk1.out.1,rfl,hk1.out.2,hlen2,hat2,hg2,B2⟩
 case round =>
  clear hk1 hlen2 hat2 hg2 B2 hr2 hcl h2;obtain⟨k,Y,hk,rfl,hk0,hyl,hat,E1,B1⟩:=hrel;by_cases hlt:k<n
  ·have hkI:(k:Int)<(n:Int):=by omega
   have bdT:Below wr.heap.size wr wr.drew:=⟨rfl,rfl,rfl,Nat.le_refl _,fun _ _=>rfl⟩
   have Ed:wr.drew.heap[g]?=some (.cells Y.toArray 3 (0,0)):=E1;obtain⟨ds,hds⟩:∃ds,ds=List.replicate (min k (n-k)) (Value.int .i64 1):=⟨_,rfl⟩
   have hdl:ds.length=min k (n-k):=by rw[hds];simp
   have hda:∀ j,j<ds.length->ds[j]?=some (Value.int .i64 1):=by
    intro j hj;rw[hds,List.getElem?_replicate];rw[hdl] at hj;rw[if_pos hj]
   have hdv:∀ j v,ds[j]?=some v->j<k/\v=Value.int .i64 1:=by
    intro j v hv;rw[hds,List.getElem?_replicate] at hv;split at hv
    ·injection hv with hv
     exact⟨by omega,hv.symm⟩
    ·cases hv
   clear hds;obtain⟨w3,hr3,hg3,hb3⟩:=run_splice (P:=Tryz.prog) (w:=wr.drew) 35 35 3 3 Tryz.underlying35 hgs (some ⟨g,k,none⟩) (some ⟨g,0,none⟩) (n-k) (n-k) k n g k Y 3 Ed ds (by rw[hdl]) (fun _=>⟨rfl,_,rfl,fun j v hv=>by
    obtain⟨hj,rfl⟩:=hdv j v hv;have ea:(Addr.add ⟨g,0,none⟩ j)=⟨g,j,none⟩:=by simp[Addr.add];exact fun h=>h.symm
    rw[ea,cell_of_row _ _ _ _ _ _ Ed];simpa using hat.out j hj⟩) (by omega) (fun v hv=>by obtain⟨j,hj,h2⟩:=List.mem_iff_getElem.1 hv;rw[(hdv j v (by rw[List.getElem?_eq_getElem hj,h2])).2];rfl)
   have hlen3:(splice Y k ds).length=n:=by rw[length_splice _ _ _ (by omega)];exact hyl
   have hat3:Hid (∀ j,j<k+ds.length->(splice Y k ds)[j]?=some (Value.int .i64 1)):=lay_at hat.out hda (by omega);generalize splice Y k ds=Y3 at *;have B3:Below w1.heap.size w1 w3:=(B1.trans (bdT.mono B1.size)).trans (by rw[<-HG.out];exact hb3);rw[hdl] at hat3;have hgi:goInt ds.length=.int .i64 (min k (n-k):Nat):=by rw[hdl];rfl
   rw[hgi] at hr3;have hpos:0<min k (n-k):=by have:=hk0 (by omega);omega
   have hle:k+min k (n-k)<=n:=by omega
   generalize min k (n-k)=d at *;clear hat hda hdv hdl hgi E1 hyl Ed;go_wp2_with fail;go_region;go_wp2;go_roundw
   case rel=>exact⟨k+d,Y3,hle,by simp,fun _=>by omega,hlen3,hat3,hg3,B3⟩
   case measure=>simp[intOf];omega
  ·have hkI:¬(k:Int)<(n:Int):=by omega
   have HR:Hid (∃g',Ending.returned (.slice (some ⟨g,0,none⟩) n n)=Ending.returned (.slice (some ⟨g',0,none⟩) n n)/\w1.heap.size<=g'/\wr.heap[g']?=some (.cells (List.replicate n (Value.int .i64 1)).toArray 3 (0,0))/\Below w1.heap.size w1 wr):=by
    have hY:Y=List.replicate n (Value.int .i64 1):=by
     apply List.ext_getElem?;intro j;rw[List.getElem?_replicate];by_cases hj:j<n
     ·rw[if_pos hj];exact hat.out j (by omega)
     ·rw[if_neg hj];exact List.getElem?_eq_none (by omega)
    exact⟨g,rfl,by rw[HG.out];exact Nat.le_refl _,by rw[<-hY];exact E1,B1⟩
   clear hat E1 hyl B1;go_wp2;go_ret;exact HR.out
theorem keepP_num {cells:List Int}{n:Int}{ks:Fs}{ar:Nat}{s s':Rg}(h:keepP cells n ks ar s=some s'):s'.1=s.1:=by
 unfold keepP at h;split at h
 ·cases h
 ·split at h
  ·cases h
  ·split at h
   ·injection h with h;subst h;rfl
   ·split at h
    ·injection h with h;subst h;rfl
    ·cases h
theorem spot_le {pk:Int}{i ar wi:Nat}(h:ar<=wi):(spotP pk i ar wi).1<=(spotP pk i ar wi).2:=by
 unfold spotP;split
 ·simp only;split<;>omega
 ·exact h
theorem rg_node {cells:List Int}{e:Ex}{ar wi:Nat}{s s':Rg}{k:Int}(hx:rgE cells e ar wi s=some (s',k))(ha:ar<=wi)(hn:-9223372036854775808<=e.n/\e.n<=9223372036854775807):okN cells.length e.k e.n e.nm e.kids.len:=by
 have hd:=docF_of hx;obtain⟨hg,-⟩:=rgE_inv hx;unfold gdE at hg;simp only[not_or] at hg;obtain⟨g1,g2,g3,g4⟩:=hg;refine⟨hd,fun h5=>?_,fun h26=>?_,hn⟩
 ·rw[h5] at g4;simp[nuP] at g4;omega
 ·rw[h26] at g4;simp[nuP] at g4;omega
theorem rg_ok (cells:List Int):∀ (f:Fs) (pk:Int) (i ar wi:Nat) (s s':Rg) (kd:List Int),ar<=wi->rgF cells f pk i ar wi s=some (s',kd)->f.rng->okF cells.length f/\s'.1=s.1+f.size/\(s.1<=4096->s'.1<=4096)
 | ⟨none⟩,pk,i,ar,wi,s,s',kd,ha,h,hr=>by
  simp only[rgF] at h;injection h with h
  injection h with h1 h2
  subst h1;exact⟨trivial,rfl,id⟩
 | ⟨some ⟨k,n,nm,a,ks,r⟩⟩,pk,i,ar,wi,s,s',kd,ha,h,hr=>by
  have h0:rgF cells ⟨some ⟨k,n,nm,a,ks,r⟩⟩ pk i ar wi s=_:=rg_ex cells ⟨k,n,nm,a,ks⟩ r pk i ar wi s;rw[h0] at h;cases hx:rgE cells ⟨k,n,nm,a,ks⟩ (spotP pk i ar wi).1 (spotP pk i ar wi).2 s with
  | none=>rw[hx] at h;cases h
  | some z =>
   obtain⟨s2,k2⟩:=z;rw[hx] at h;simp only at h;cases hq:rgF cells r pk (i+1) ar wi s2 with
   | none=>rw[hq] at h;cases h
   | some z =>
    obtain⟨s3,rest⟩:=z;rw[hq] at h;injection h with h
    injection h with h1 h2
    subst h1;have hsp:=spot_le (pk:=pk) (i:=i) ha;have hnd:=rg_node hx hsp ⟨hr.1,hr.2.1⟩;obtain⟨hg,s1,kd1,hk,hl,hf1,hf2,hk2,h6⟩:=rgE_inv hx;simp only at hk hnd h6;obtain⟨a1,a2,a3⟩:=rg_ok cells ks k 0 _ _ _ _ _ hsp hk hr.2.2.1;obtain⟨b1,b2,b3⟩:=rg_ok cells r pk (i+1) ar wi _ _ _ ha hq hr.2.2.2;have hs2:s2.1=s1.1:=by
     split at h6
     ·exact keepP_num h6
     ·injection h6 with h6;rw[h6]
    have hsz:(⟨some ⟨k,n,nm,a,ks,r⟩⟩:Fs).size=ks.size+r.size+1:=rfl;unfold gdE at hg;simp only[not_or] at hg;refine⟨⟨hnd,a1,b1⟩,?_,fun hs=>?_⟩
    ·rw[hsz,b2,hs2,a2];simp only;omega
    ·exact b3 (by rw[hs2];exact a3 (by simp only;omega))
theorem kindP_ok {cells:List Int}{e:Ex}(h:kindP cells e≠0)(hn:-9223372036854775808<=e.n/\e.n<=9223372036854775807)(hr:e.kids.rng):okE cells.length e/\e.kids.size+1<=4096/\cells.length<=256/\∀ c,c ∈ cells->0<=c/\c<=4:=by
 obtain⟨h1,h2,s,hx,-⟩:=kindP_inv h;have hnd:=rg_node hx (Nat.le_refl 0) hn;obtain⟨hg,s1,kd1,hk,-,-,-,-,-⟩:=rgE_inv hx;obtain⟨a1,a2,a3⟩:=rg_ok cells e.kids e.k 0 0 0 _ _ _ (Nat.le_refl 0) hk hr;have h4:=a3 (by simp);rw[a2] at h4;simp only at h4;exact⟨⟨hnd,a1⟩,by omega,h1,h2⟩
structure EmTab (w:World):Prop where
 tab:Tab w
 bar:∀ k:Nat,k<25->w.cell? ⟨0,k,none⟩=some (.int .i64 ([0,0,0,0,0,0,4,5,6,7,8,9,10,0,0,0,0,0,0,0,0,0,20,0,22].getD k 0))
 lt:0<w.heap.size
theorem EmTab.below {w w':World}(h:EmTab w)(b:Below w.heap.size w w'):EmTab w':=⟨h.tab.below b,fun k hk=>(b.cell (p:=⟨0,k,none⟩) h.lt).trans (h.bar k hk),Nat.lt_of_lt_of_le h.lt b.size⟩
abbrev o00:Nat->Nat:=fun _=>0
theorem newWriter_c (cv:Value)(cells:List Int)(w:World)(hcl:cells.length<=256)(hc:InA w cv cells) :
  Calls Tryz.prog 45 #[cv] w fun e w'=>∃rb o',e=.returned (pt0 rb)/\EmW w' o' rb cv (em0 cells)/\Below w.heap.size w w'/\∀ k,k<w.heap.size->o' k=0:=by
 obtain⟨ao,cap,rfl,-⟩:=hc;obtain⟨w1,hw1⟩:∃w1,w1=w.alloc (.cells #[.int .i64 1] 3):=⟨_,rfl⟩
 obtain⟨g,hg⟩:∃g,g=w.heap.size:=⟨_,rfl⟩
 have B1:Below g w w1:=by rw[hw1,hg];exact b1 _ _
 have C1:w1.cell? ⟨g,0,none⟩=some (.int .i64 1):=cell1e (by rw[hw1,hg];exact heap_alloc_new _ _);have L1:g<w1.heap.size:=by rw[hw1,hg];simp
 have HR:=repeat1_c w1 g 0 1 cells.length (by omega) L1 C1;have HG:=Lib.hid hg;clear hg;go_enter Tryz.func45,Tryz.ntmps45;go_wp2_with fail;rw[<-hw1,<-HG.out];clear hw1;refine HR.mono ?_;rintro e w2 ⟨gk,rfl,hgk,K2,B2⟩;clear HR;obtain⟨r,hr⟩:∃r,r=w2.heap.size:=⟨_,rfl⟩
 obtain⟨w5,hw5⟩:∃w5,w5=((w2.alloc (.map #[] 0)).alloc (.map #[] 0)).alloc (.cells #[.slice none 0 0,.slice none 0 0,.slice none 0 0,.slice (some ⟨gk,0,none⟩) cells.length cells.length,.map (some r),.map (some (r+1)),.slice ao cells.length cap,.int .i64 0] 95):=⟨_,rfl⟩
 obtain⟨z1,z2,z3,z4,z5⟩:=al3 w2 (.map #[] 0) (.map #[] 0) (.cells #[.slice none 0 0,.slice none 0 0,.slice none 0 0,.slice (some ⟨gk,0,none⟩) cells.length cells.length,.map (some r),.map (some (r+1)),.slice ao cells.length cap,.int .i64 0] 95);rw[<-hw5,<-hr] at z1 z2 z3 z4 z5;have hgr:gk<r:=by rw[hr];exact lt_of_block K2
 have hgw:g<gk:=by omega
 have HF:Hid (∃rb o',Ending.returned (.pointer (some ⟨r+2,0,none⟩))=.returned (pt0 rb)/\EmW w5 o' rb (.slice ao cells.length cap) (em0 cells)/\Below w.heap.size w w5/\∀ k,k<w.heap.size->o' k=0):=by
  obtain⟨o',ho'⟩:∃o':Nat->Nat,o'=fun k=>if k=r+2 then 1 else if k=gk then 5 else if k=r then 6 else if k=r+1 then 7 else 0:=⟨_,rfl⟩
  have l1:o' (r+2)=1:=by rw[ho'];simp
  have l5:o' gk=5:=by rw[ho'];show (if gk=r+2 then 1 else if gk=gk then 5 else _)=5;rw[if_neg (by omega),if_pos rfl]
  have l6:o' r=6:=by rw[ho'];show (if r=r+2 then 1 else if r=gk then 5 else if r=r then 6 else _)=6;rw[if_neg (by omega),if_neg (by omega),if_pos rfl]
  have l7:o' (r+1)=7:=by rw[ho'];show (if r+1=r+2 then 1 else if r+1=gk then 5 else if r+1=r then 6 else if r+1=r+1 then 7 else 0)=7;rw[if_neg (by omega),if_neg (by omega),if_neg (by omega),if_pos rfl]
  have B25:Below r w2 w5:=z5;refine⟨r+2,o',rfl,⟨fun x hx=>by simp[em0] at hx,fun x hx=>by simp[em0] at hx,fun x hx=>by simp[em0] at hx,_,_,_,_,r,r+1,⟨z3,l1⟩,Row.nil _ _ _ _ _,Row.nil _ _ _ _ _,Row.nil _ _ _ _ _,?_,?_,?_⟩,?_,fun k hk=>?_⟩
  ·have hK:w5.heap[gk]?=_:=(B25.block gk hgr).trans K2;have e1:(em0 cells).ks.length=cells.length:=by simp[em0]
   have e2:eiV (em0 cells).ks=List.replicate cells.length (Value.int .i64 1):=by simp[eiV,em0]
   rw[e1,e2];refine⟨⟨by simp,.inr ⟨gk,cells.length,_,rfl,Nat.zero_le _,hK,Nat.le_refl _,by unfold maxLen;omega,by simp,by simp⟩⟩,fun k hk=>?_⟩;simp[Value.ownBlock] at hk;rw[<-hk];exact l5
  ·obtain⟨D,q1,q2,q3,q4⟩:=MpC.made w2 o00 6;rw[<-hr] at q1;exact⟨D,own_stepE q1 (Step.ofBelow (I:=fun _=>False) (w:=w2.alloc (.map #[] 0)) (w':=w5) o00 (by rw[hw5];exact((Below.refl _ _).alloc (Nat.le_refl _) _).alloc (by simp) _)) id,q2,l6,q4⟩
  ·obtain⟨D,q1,q2,q3,q4⟩:=MpS.made (w2.alloc (.map #[] 0)) o00 7;have e:(w2.alloc (.map #[] 0)).heap.size=r+1:=by rw[hr];simp
   rw[e] at q1;exact⟨D,own_stepE q1 (Step.ofBelow (I:=fun _=>False) (w':=w5) o00 (by rw[hw5];exact b1 _ _)) id,q2,l7,q4⟩
  ·rw[<-HG.out];exact(B1.trans (B2.mono (Nat.le_of_lt L1))).trans (B25.mono (by omega))
  ·rw[<-HG.out] at hk;rw[ho'];show (if k=r+2 then 1 else if k=gk then 5 else if k=r then 6 else if k=r+1 then 7 else 0)=0;rw[if_neg (by omega),if_neg (by omega),if_neg (by omega),if_neg (by omega)]
 have hmm:=@run_makeMap Tryz.prog;have HR:=Lib.hid hr;clear z1 z2 z3 z4 z5 K2 B2 B1 C1 hr;rw[HR.out] at hw5 HF;go_wp2;rw[<-hw5];clear hw5;go_ret;exact HF.out
abbrev nil4e:Array Value:=#[.slice none 0 0,.slice none 0 0,.slice none 0 0,.slice none 0 0]
structure EmC (w:World)(o:Nat->Nat)(s:Em)(vw vc vn vk:Value):Prop where
 ok:∀ x ∈ s.ws,x.ok
 ci:∀ n ∈ s.cs,-9223372036854775808<=n/\n<=9223372036854775807
 ni:∀ x ∈ s.ns,x.length<=maxLen
 ws:Row w o 2 54 1 vw s.ws.length (woV s.ws)
 cs:Row w o 3 3 1 vc s.cs.length (eiV s.cs)
 ns:Row w o 4 9 1 vn s.ns.length (esV s.ns)
 ks:Row w o 5 3 1 vk s.ks.length (eiV s.ks)
def EmOut (w:World)(e:Ex)(cells:List Int)(z:Ending)(w':World):Prop :=
 Below w.heap.size w w'/\((kindP cells e=0/\z=.returned (.tuple #[.agg nil4e,.int .i64 140])) \/
  (kindP cells e≠0/\(32768<(emA cells e).ws.length\/1024<(emA cells e).dp)/\z=.returned (.tuple #[.agg nil4e,.int .i64 190])) \/
  (kindP cells e≠0/\(emA cells e).ws.length<=32768/\(emA cells e).dp<=1024/\(emA cells e).mes<=100000000/\∃vw vc vn vk o',z=.returned (.tuple #[.agg #[vw,vc,vn,vk],.int .i64 0])/\(∀ k,k<w.heap.size->o' k=0)/\EmC w' o' (emA cells e) vw vc vn vk))
theorem emx_of {w w':World}{o':Nat->Nat}{cv:Value}{cells:List Int}(h:EmTab w)(hc:InA w cv cells)(B:Below w.heap.size w w')(ho:∀ k,k<w.heap.size->o' k=0):EmX w' o' cv cells:=by
 have h':=h.below B;obtain⟨ao,cap,hv,hx⟩:=hc;refine⟨h'.tab,ho _ h.tab.2.2.2.2.2.2,h'.bar,⟨ho _ h.lt,h'.lt⟩,ao,cap,hv,?_⟩;rcases hx with hx|⟨b,off,h1,h2,h3,h4⟩
 ·exact .inl hx
 ·exact .inr ⟨b,off,h1,ho b h3,Nat.lt_of_lt_of_le h3 B.size,fun j x hj=>(B.cell (p:=⟨b,off+j,none⟩) h3).trans (h4 j x hj)⟩
theorem cells5e {w:World}{b:Nat}{x0 x1 x2 x3 x4:Value}{t:TypeId}(h:w.heap[b]?=some (.cells #[x0,x1,x2,x3,x4] t)):w.cell? ⟨b,0,none⟩=some x0/\w.cell? ⟨b,1,none⟩=some x1/\w.cell? ⟨b,2,none⟩=some x2/\w.cell? ⟨b,3,none⟩=some x3/\w.cell? ⟨b,4,none⟩=some x4:=by
 refine⟨?_,?_,?_,?_,?_⟩<;>simp[World.cell?,h]
theorem set4e {w:World}{b:Nat}{x0 x1 x2 x3:Value}{t:TypeId}(y0 y1 y2 y3:Value)(h:w.heap[b]?=some (.cells #[x0,x1,x2,x3] t)):((((w.setCell ⟨b,0,none⟩ y0).setCell ⟨b,1,none⟩ y1).setCell ⟨b,2,none⟩ y2).setCell ⟨b,3,none⟩ y3).heap[b]?=some (.cells #[y0,y1,y2,y3] t) :=
 heap_setCell_same _ b 3 _ _ _ (heap_setCell_same _ b 2 _ _ _ (heap_setCell_same _ b 1 _ _ _ (heap_setCell_same w b 0 _ _ _ h)))
theorem emit_c (e:Ex)(ao:Option Addr)(cap:Nat)(cv:Value)(cells:List Int)(w:World)(hf:FitN e)(hn:-9223372036854775808<=e.n/\e.n<=9223372036854775807)(hr:e.kids.rng)(hW:Wd w)(hT:EmTab w)(hc:InA w cv cells)(hcl:cells.length<=1000000000)(S:SnA w e.kids ao) :
  Calls Tryz.prog 18 #[plV e ao cap cv] w (EmOut w e cells):=by
 obtain⟨g,hg⟩:∃g,g=w.heap.size:=⟨_,rfl⟩
 obtain⟨w1,hw1⟩:∃w1,w1=(w.alloc (.cells #[.int .i64 e.k,.int .i64 e.n,stv e.nm,.slice ao e.kids.len cap,cv] 37)).alloc (.cells nil4e 42):=⟨_,rfl⟩
 obtain⟨z1,z2,z3,z4⟩:=al2 w (.cells #[.int .i64 e.k,.int .i64 e.n,stv e.nm,.slice ao e.kids.len cap,cv] 37) (.cells nil4e 42);rw[<-hw1,<-hg] at z1 z2 z3 z4;have B1:Below w.heap.size w w1:=by rw[<-hg];exact z4
 have HC:=rightp_c e ao cap cv cells w1 hf (hW.below B1) (hc.below B1) hcl (SnA.below S B1);have hcv:=hc;obtain⟨ac,cc,rfl,-⟩:=hcv;rw[plV_out] at HC ⊢;have HG:=Lib.hid hg;clear hg;obtain⟨c0,c1,c2,c3,c4⟩:=cells5e z1;by_cases hk:kindP cells e=0
 ·rw[decide_eq_false (by simp[hk])] at HC;have HK:=Lib.hid hk;clear hk;go_enter Tryz.func18,Tryz.ntmps18;go_upto_region 1 with fail;rw[<-hw1,<-HG.out];clear hw1;go_upto_region 2 with (first|(go_at_call 44;refine HC.mono ?_;rintro z w2 ⟨rfl,B2⟩))
  have GZ:=(B2.block (g+1) (by omega)).trans z2;obtain⟨⟨d0,d1,d2,d3⟩,df⟩:=cells4e GZ;have df0:=df 0;have df1:=df 1;have df2:=df 2;have df3:=df 3;have BZ:Below g w w2:=z4.trans (B2.mono (by omega));have ZE:=set4e (.slice none 0 0) (.slice none 0 0) (.slice none 0 0) (.slice none 0 0) GZ;have hle:g<=g+1:=by omega
  have BE:=(((BZ.setCell (p:=⟨g+1,0,none⟩) hle (.slice none 0 0)).setCell (p:=⟨g+1,1,none⟩) hle (.slice none 0 0)).setCell (p:=⟨g+1,2,none⟩) hle (.slice none 0 0)).setCell (p:=⟨g+1,3,none⟩) hle (.slice none 0 0);obtain⟨⟨m0,m1,m2,m3⟩,-⟩:=cells4e ZE;have HBE:=Lib.hid BE;clear ZE BE GZ BZ HC z1 z2 z3 z4 B1 B2 c0 c1 c2 c3 c4;go_wp2;exact bodyPost_ret (v:=.tuple #[.agg nil4e,.int .i64 140]) (by simp[results,Tryz.results18,go_sem,m0,m1,m2,m3]) rfl ⟨by rw[<-HG.out];exact HBE.out,.inl ⟨HK.out,rfl⟩⟩
 ·rw[decide_eq_true hk] at HC;obtain⟨hok,hsz,hnc,hcb⟩:=kindP_ok hk hn hr;have HK:=Lib.hid hk;clear hk;go_enter Tryz.func18,Tryz.ntmps18;go_upto_region 1 with fail;rw[<-hw1,<-HG.out];clear hw1;go_upto_region 3 with (first|(go_at_call 44;refine HC.mono ?_;rintro z w2 ⟨rfl,B2⟩))
  have B12:Below w.heap.size w w2:=B1.trans (B2.mono B1.size);have y1:=(B2.block g (by omega)).trans z1;have y2:=(B2.block (g+1) (by omega)).trans z2;have L2:g+2<=w2.heap.size:=by rw[<-z3];exact B2.size
  have HN:=newWriter_c _ cells w2 hnc (hc.below B12);clear c0 c1 c2 c3 c4 HC;obtain⟨c0,c1,c2,c3,c4⟩:=cells5e y1;go_upto_region 4 with (first|(go_at_call 45;refine HN.mono ?_;rintro z w3 ⟨rb,o3,rfl,E3,B3,ho3⟩))
  have X3:=emx_of (hT.below B12) (hc.below B12) B3 ho3;have SN3:SnO w3 o3 e.kids ao:=(SnA.below S B12).mono (fun k _ hl=>B3.block k hl) B3.size (fun k _ hl=>ho3 k hl);have b3p:Blk w3 o3 0 g (.cells #[.int .i64 e.k,.int .i64 e.n,stv e.nm,.slice ao e.kids.len cap,.slice ac cells.length cc] 37):=⟨(B3.block g (by omega)).trans y1,ho3 g (by omega)⟩
  have b3r:Blk w3 o3 0 (g+1) (.cells nil4e 42):=⟨(B3.block (g+1) (by omega)).trans y2,ho3 (g+1) (by omega)⟩
  have hm0:(em0 cells).mes=0:=rfl;have hk0:(em0 cells).ks.length=cells.length:=by simp[em0]
  have HP:=part_all cells.length (e.kids.size+1) e ao cap 0 0 w3 o3 rb _ cells (em0 cells) (by omega) hok rfl hnc SN3 hk0 (by rw[hm0];omega) (by omega) (by omega) (by show 0<=_;omega) X3 E3;rw[exN_out] at HP;have BW:Below g w w3:=(by rw[<-HG.out] at B12;exact B12.trans (B3.mono (by omega)))
  clear c0 c1 c2 c3 c4 HN;obtain⟨c0,c1,c2,c3,c4⟩:=cells5e b3p.1;go_upto_region 5 with (first|(go_at_call 46;refine HP.mono ?_;rintro z w4 ⟨rfl,⟨o4,E4,S4⟩,g4⟩))
  have X4:=X3.step S4 not0;have HL:=lay_c 0 0 0 w4 o4 rb _ cells (emE cells e 0 0 (em0 cells)) (by omega) (by omega) (by omega) (by have:=g4.mes;rw[hm0] at this;omega) X4 E4;go_upto_region 6 with (first|(go_at_call 47;refine HL.mono ?_;rintro z w5 ⟨rfl,o5,E5,S5⟩))
  have heq:(emE cells e 0 0 (em0 cells)).lay 0 0 0=emA cells e:=rfl;rw[heq] at E5;have hmes:(emA cells e).mes<=100000000:=by
   rw[<-heq,Em.mes_lay]
   have:=g4.mes
   rw[hm0] at this;omega
  have HMES:=Lib.hid hmes;have S35:=S4.trans S5;have b5r:=b3r.step S35 not0;have ho5:∀ k,k<w.heap.size->o5 k=0:=fun k hk2=>by
   have hg:=HG.out;have hb:=BW.size;rw[S35.lab k (by have:=B3.size;omega)];exact ho3 k (by omega)
  have B5:Below g w w5:=BW.trans ⟨S35.os,S35.tape,S35.output,S35.size,fun k hk2=>S35.block k (by have:=B3.size;omega) (by rw[ho3 k (by omega)];exact not0)⟩;obtain⟨h1,h2,h3,vw,vc,vn,vk,mc,mn,q0,q1,q2,q3,q4,q5,q6⟩:=E5;obtain⟨⟨t0,t1,t2,t3,t4,t5,t6,t7⟩,-⟩:=cells8 q0.1;obtain⟨⟨d0,d1,d2,d3⟩,df⟩:=cells4e b5r.1;have df0:=df 0;have df1:=df 1;have df2:=df 2;have df3:=df 3;have hle:g<=g+1:=by omega
  obtain⟨aw,cw,rfl⟩:=q1.form;obtain⟨ac2,cc2,rfl⟩:=q2.form;obtain⟨an,cn,rfl⟩:=q3.form;obtain⟨ak,ck,rfl⟩:=q4.form;by_cases hA:32768<(emA cells e).ws.length
  ·have hAI:(32768:Int)<((emA cells e).ws.length:Int):=by omega
   have ZE:=set4e (.slice none 0 0) (.slice none 0 0) (.slice none 0 0) (.slice none 0 0) b5r.1;have BE:=(((B5.setCell (p:=⟨g+1,0,none⟩) hle (.slice none 0 0)).setCell (p:=⟨g+1,1,none⟩) hle (.slice none 0 0)).setCell (p:=⟨g+1,2,none⟩) hle (.slice none 0 0)).setCell (p:=⟨g+1,3,none⟩) hle (.slice none 0 0);obtain⟨⟨m0,m1,m2,m3⟩,-⟩:=cells4e ZE;have HBE:=Lib.hid BE;have HA:=Lib.hid hA;clear ZE BE B5 b3r b3p b5r q1 q2 q3 q4 q5 q6 X3 X4 S35 SN3 E3 E4 BW HP HL B3 B12 y1 y2 B1 B2 z1 z2 z4 hT hW S hc;go_wp2;exact bodyPost_ret (v:=.tuple #[.agg nil4e,.int .i64 190]) (by simp[results,Tryz.results18,go_sem,m0,m1,m2,m3]) rfl ⟨by rw[<-HG.out];exact HBE.out,.inr (.inl ⟨HK.out,.inl HA.out,rfl⟩)⟩
  ·have hAI:¬(32768:Int)<((emA cells e).ws.length:Int):=by omega
   by_cases hB:1024<(emA cells e).dp
   ·have hBI:(1024:Int)<((emA cells e).dp:Int):=by omega
    have ZE:=set4e (.slice none 0 0) (.slice none 0 0) (.slice none 0 0) (.slice none 0 0) b5r.1;have BE:=(((B5.setCell (p:=⟨g+1,0,none⟩) hle (.slice none 0 0)).setCell (p:=⟨g+1,1,none⟩) hle (.slice none 0 0)).setCell (p:=⟨g+1,2,none⟩) hle (.slice none 0 0)).setCell (p:=⟨g+1,3,none⟩) hle (.slice none 0 0);obtain⟨⟨m0,m1,m2,m3⟩,-⟩:=cells4e ZE;have HBE:=Lib.hid BE;have HA:=Lib.hid hB;clear ZE BE B5 b3r b3p b5r q1 q2 q3 q4 q5 q6 X3 X4 S35 SN3 E3 E4 BW HP HL B3 B12 y1 y2 B1 B2 z1 z2 z4 hT hW S hc;go_wp2;exact bodyPost_ret (v:=.tuple #[.agg nil4e,.int .i64 190]) (by simp[results,Tryz.results18,go_sem,m0,m1,m2,m3]) rfl ⟨by rw[<-HG.out];exact HBE.out,.inr (.inl ⟨HK.out,.inr HA.out,rfl⟩)⟩
   ·have hBI:¬(1024:Int)<((emA cells e).dp:Int):=by omega
    have ZE:=set4e (.slice aw (emA cells e).ws.length cw) (.slice ac2 (emA cells e).cs.length cc2) (.slice an (emA cells e).ns.length cn) (.slice ak (emA cells e).ks.length ck) b5r.1;have BE:=(((B5.setCell (p:=⟨g+1,0,none⟩) hle (.slice aw (emA cells e).ws.length cw)).setCell (p:=⟨g+1,1,none⟩) hle (.slice ac2 (emA cells e).cs.length cc2)).setCell (p:=⟨g+1,2,none⟩) hle (.slice an (emA cells e).ns.length cn)).setCell (p:=⟨g+1,3,none⟩) hle (.slice ak (emA cells e).ks.length ck);have SE:Step (fun k=>k=0) w5 o5 ((((w5.setCell ⟨g+1,0,none⟩ (.slice aw (emA cells e).ws.length cw)).setCell ⟨g+1,1,none⟩ (.slice ac2 (emA cells e).cs.length cc2)).setCell ⟨g+1,2,none⟩ (.slice an (emA cells e).ns.length cn)).setCell ⟨g+1,3,none⟩ (.slice ak (emA cells e).ks.length ck)) o5:=((((Step.refl _ w5 o5).setCell ⟨g+1,0,none⟩ _ b5r.2).setCell ⟨g+1,1,none⟩ _ b5r.2).setCell ⟨g+1,2,none⟩ _ b5r.2).setCell ⟨g+1,3,none⟩ _ b5r.2;obtain⟨⟨m0,m1,m2,m3⟩,-⟩:=cells4e ZE;have HBE:=Lib.hid BE;have HA:=Lib.hid (show (emA cells e).ws.length<=32768/\(emA cells e).dp<=1024 by omega);have HCE:=Lib.hid (show EmC _ o5 (emA cells e) _ _ _ _ from ⟨h1,h2,h3,q1.step SE (by decide),q2.step SE (by decide),q3.step SE (by decide),q4.step SE (by decide)⟩);have HO5:=Lib.hid ho5;clear ZE BE SE B5 b3r b3p b5r q1 q2 q3 q4 q5 q6 X3 X4 S35 SN3 E3 E4 BW HP HL B3 B12 y1 y2 B1 B2 z1 z2 z4 hT hW S hc ho5 hA hB;go_wp2;exact bodyPost_ret (v:=.tuple #[.agg #[.slice aw (emA cells e).ws.length cw,.slice ac2 (emA cells e).cs.length cc2,.slice an (emA cells e).ns.length cn,.slice ak (emA cells e).ks.length ck],.int .i64 0]) (by simp[results,Tryz.results18,go_sem,m0,m1,m2,m3]) rfl ⟨by rw[<-HG.out];exact HBE.out,.inr (.inr ⟨HK.out,HA.out.1,HA.out.2,HMES.out,_,_,_,_,o5,rfl,HO5.out,HCE.out⟩)⟩
def awE:List UInt8:=[99,111,117,110,116,32,118,32,105,110,32,102,101,119,58,32,118,32,61,32,64,49]
def rngB:Fs->Bool
 | ⟨none⟩=>true
 | ⟨some ⟨_,n,_,_,ks,r⟩⟩=>decide (-9223372036854775808<=n)&&(decide (n<=9223372036854775807)&&(rngB ks&&rngB r))
theorem rngB_of:∀ {f:Fs},rngB f=true->f.rng
 | ⟨none⟩,_=>trivial
 | ⟨some ⟨k,n,nm,a,ks,r⟩⟩,h=>by
  simp only[rngB,Bool.and_eq_true,decide_eq_true_eq] at h;exact⟨h.1,h.2.1,rngB_of h.2.2.1,rngB_of h.2.2.2⟩
def awEb (l:List UInt8):Bool:=match parseA l with
 | ⟨some (.inr (x,_))⟩=>decide ((typA x).2.1=0)&&(decide (kindP [] (ofE x [])≠0)&&(rngB (one (ofE x []))&&(decide ((emA [] (ofE x [])).ws.length=11)&&(decide ((emA [] (ofE x [])).dp<=1024)&&(decide ((emA [] (ofE x [])).cs=[0,1])&&decide ((emA [] (ofE x [])).ns=[[102,101,119]]))))))
 | _=>false
theorem aw_e:awEb awE=true:=by kernel_rfl
theorem awEb_some {l:List UInt8}(h:awEb l=true):∃x t,parseA l=.ok x t/\(typA x).2.1=0/\kindP [] (ofE x [])≠0/\(one (ofE x [])).rng/\(emA [] (ofE x [])).ws.length=11/\(emA [] (ofE x [])).dp<=1024/\(emA [] (ofE x [])).cs=[0,1]/\(emA [] (ofE x [])).ns=[[102,101,119]]:=by
 unfold awEb at h;cases hp:parseA l using Rs.on with
 | out=>rw[hp] at h;cases h
 | bad e a=>rw[hp] at h;cases h
 | ok x t =>
  rw[hp] at h;simp only[Rs.ok,Bool.and_eq_true,decide_eq_true_eq] at h;exact⟨x,t,rfl,h.1,h.2.1,rngB_of h.2.2.1,h.2.2.2.1,h.2.2.2.2.1,h.2.2.2.2.2.1,h.2.2.2.2.2.2⟩
theorem PostOf.okE {w w':World}{e:Ex}{x:Ending}(h:PostOf w e x w')(ht:(typA e).2.1=0):∃ay cy,x=.returned (.tuple #[plV (ofE e []) ay cy (.slice none 0 0),.int .i64 0])/\SlN w' (Nw w.heap.size) (ofE e []).kids ay/\Below w.heap.size w w':=by
 unfold PostOf at h;rw[if_pos ht] at h;exact h
theorem EmOut.yes {w w':World}{e:Ex}{cells:List Int}{z:Ending}(h:EmOut w e cells z w')(hk:kindP cells e≠0)(h1:(emA cells e).ws.length<=32768)(h2:(emA cells e).dp<=1024):Below w.heap.size w w'/\∃vw vc vn vk o',z=.returned (.tuple #[.agg #[vw,vc,vn,vk],.int .i64 0])/\(∀ k,k<w.heap.size->o' k=0)/\EmC w' o' (emA cells e) vw vc vn vk:=by
 obtain⟨B,h|h|h⟩:=h
 ·exact absurd h.1 hk
 ·rcases h.2.1 with h3|h3<;>omega
 ·exact⟨B,h.2.2.2.2⟩
theorem awakee_r (w:World)(hW:Wd w)(hT:EmTab w):Calls Tryz.prog 15 #[] w fun e w'=>e=.returned (.bool true)/\Below w.heap.size w w':=by
 obtain⟨x,t,hx,ht,hk,hrg,hw11,hdp,hcs,hns⟩:=awEb_some aw_e;have hok:=parse_okT hx;have c1:=parse_q ⟨awE.toArray⟩ w (by decide);have e1:(ByteArray.mk awE.toArray).data.toList=awE:=by simp
 rw[e1,hx] at c1;have hfp:FitN (ofE x []):=⟨ofE_nm x [] hok.fit.nm,Nat.le_trans (ofE_len x []) hok.fit.len,ofE_short x [] hok.fit.sh⟩
 clear e1 hx;go_enter Tryz.func15,Tryz.ntmps15;go_wp2_with fail;refine c1.mono ?_;rintro e w1 ⟨aox,capx,rfl,S1,b1⟩;clear c1;have b2:Below w1.heap.size w1 (w1.alloc (.cells #[.int .i64 x.k,.int .i64 x.n,stv x.nm,.slice aox x.kids.len capx,.int .i64 x.a] 25)):=(Below.refl _ w1).alloc (Nat.le_refl _) _;have X2:(w1.alloc (.cells #[.int .i64 x.k,.int .i64 x.n,stv x.nm,.slice aox x.kids.len capx,.int .i64 x.a] 25)).heap[w1.heap.size]?=some (.cells #[.int .i64 x.k,.int .i64 x.n,stv x.nm,.slice aox x.kids.len capx,.int .i64 x.a] 25 (0,0)):=heap_alloc_new w1 _;have B2:=b1.trans (b2.mono b1.size);have S2:SlT (w1.alloc (.cells #[.int .i64 x.k,.int .i64 x.n,stv x.nm,.slice aox x.kids.len capx,.int .i64 x.a] 25)) x.kids aox:=SlT.below (Sl.all S1) b2;rw[exV_out];go_upto_region 2 with fail;generalize w1.alloc (.cells #[.int .i64 x.k,.int .i64 x.n,stv x.nm,.slice aox x.kids.len capx,.int .i64 x.a] 25)=w2 at *;generalize w1.heap.size=bx at *;have c3:=of14_c x aox capx w2 hok.fit (by have:=hok.size;omega) S2;rw[exV_out] at c3;obtain⟨p0,p1,p2,p3,p4,pf⟩:=box5 X2;go_wp2_with fail;refine c3.mono ?_;intro e w3 h3;have h3:=h3.okE ht;clear c3;generalize ofE x []=p at *;obtain⟨ap,cp,rfl,S3,b3⟩:=h3;have B3:=B2.trans (b3.mono B2.size);clear p0 p1 p2 p3 p4 pf b1 b2 b3 B2 S2 X2 S1 hok ht;have b4:Below w3.heap.size w3 (w3.alloc (.cells #[.int .i64 p.k,.int .i64 p.n,stv p.nm,.slice ap p.kids.len cp,.slice none 0 0] 37)):=(Below.refl _ w3).alloc (Nat.le_refl _) _;have X4:(w3.alloc (.cells #[.int .i64 p.k,.int .i64 p.n,stv p.nm,.slice ap p.kids.len cp,.slice none 0 0] 37)).heap[w3.heap.size]?=some (.cells #[.int .i64 p.k,.int .i64 p.n,stv p.nm,.slice ap p.kids.len cp,.slice none 0 0] 37 (0,0)):=heap_alloc_new w3 _;have B4:=B3.trans (b4.mono B3.size);have S4:=SnA.below S3.all b4;rw[plV_out];go_upto_region 3 with fail;generalize w3.alloc (.cells #[.int .i64 p.k,.int .i64 p.n,stv p.nm,.slice ap p.kids.len cp,.slice none 0 0] 37)=w4 at *;generalize w3.heap.size=bp at *;have c5:=emit_c p ap cp (.slice none 0 0) [] w4 hfp ⟨hrg.1,hrg.2.1⟩ hrg.2.2.1 (hW.below B4) (hT.below B4) ⟨none,0,rfl,.inl rfl⟩ (by simp) S4;rw[plV_out] at c5;obtain⟨p0,p1,p2,p3,p4,pf⟩:=box5 X4;go_wp2_with fail;refine c5.mono ?_;intro e w5 h5;obtain⟨B5',vw,vc,vn,vk,o5,rfl,-,C5⟩:=h5.yes hk (by omega) hdp;clear c5 h5;have B5:=B4.trans (B5'.mono B4.size);obtain⟨aw,cw,rfl⟩:=C5.ws.form;obtain⟨ak,ck,rfl⟩:=C5.ks.form;have Rc:=C5.cs;have Rn:=C5.ns;rw[hcs] at Rc;rw[hns] at Rn;rw[hw11];obtain⟨gc,cc,rfl,-,-,-,hlc,hcc,-⟩:=Rc.pos (by decide);obtain⟨gn,cn,rfl,-,-,-,hln,hcn,-⟩:=Rn.pos (by decide);have d1:w5.cell? ⟨gc,1,none⟩=some (.int .i64 1):=hcc 1 (by decide);have d2:w5.cell? ⟨gn,0,none⟩=some (.string ⟨#[102,101,119]⟩):=hcn 0 (by decide);generalize (emA [] p).ks.length=lk at *;obtain⟨w6,hw6⟩:∃w6,w6=w5.alloc (.cells #[.slice aw 11 cw,.slice (some ⟨gc,0,none⟩) 2 cc,.slice (some ⟨gn,0,none⟩) 1 cn,.slice ak lk ck] 42):=⟨_,rfl⟩
 have b6:Below w5.heap.size w5 w6:=by rw[hw6];exact b1 _ _
 have X6:w6.heap[w5.heap.size]?=some (.cells #[.slice aw 11 cw,.slice (some ⟨gc,0,none⟩) 2 cc,.slice (some ⟨gn,0,none⟩) 1 cn,.slice ak lk ck] 42):=by rw[hw6];exact heap_alloc_new w5 _
 have B6:=B5.trans (b6.mono B5.size);have d1':=(b6.cell (p:=⟨gc,1,none⟩) hlc).trans d1;have d2':=(b6.cell (p:=⟨gn,0,none⟩) hln).trans d2;obtain⟨⟨m0,m1,m2,m3⟩,-⟩:=cells4e X6;clear d1 d2 b6 B5 hcc hcn Rc Rn C5 p0 p1 p2 p3 p4 pf X4 X6 B5' B4 S4 hcs hns hw11 hdp hk;go_upto_region 4 with fail;rw[<-hw6];clear hw6;generalize w5.heap.size=bq at *;go_wp2;go_ret;exact⟨rfl,B6⟩
end Go.Proofs.YtbjdkekhnajafaaGreatDoor

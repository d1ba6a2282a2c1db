import Derived.Test.YtjjhcbmhdkobkaaDoorRdaC
set_option maxRecDepth 100000
set_option maxHeartbeats 8000000
namespace Go.Proofs.YtjjhcbmhdkobkaaDoor
open Go.ChangeShapes Go.WideShapes Go.ChangeAt Go.RowKit
set_option linter.unusedVariables false
set_option linter.unusedSimpArgs false
theorem rdN_each {α:Type}{one:List UInt8->Option (α × List UInt8)}{Q:α->Prop}(hq:∀ l x r,one l=some (x,r)->Q x)(n:Nat):∀ l xs r,rdN one n l=some (xs,r)->∀ x ∈ xs,Q x:=by
 induction n with
 | zero=>intro l xs r h;simp[rdN] at h;obtain⟨rfl,rfl⟩:=h;simp
 | succ n ih =>
  intro l xs r h;rw[rdN] at h;cases h1:one l with
  | none=>rw[h1] at h;cases h
  | some x =>
   obtain⟨x,l1⟩:=x;rw[h1] at h;simp only[Option.bind_some] at h;cases h2:rdN one n l1 with
   | none=>rw[h2] at h;cases h
   | some y =>
    obtain⟨y,l2⟩:=y;rw[h2] at h;simp only[Option.bind_some,Option.some.injEq,Prod.mk.injEq] at h;obtain⟨rfl,rfl⟩:=h;intro z hz;rcases List.mem_cons.1 hz with rfl|hz
    ·exact hq _ _ _ h1
    ·exact ih _ _ _ h2 z hz
theorem rdL_each {α:Type}{one:List UInt8->Option (α × List UInt8)}{Q:α->Prop}(hq:∀ l x r,one l=some (x,r)->Q x){most:Nat}{l r:List UInt8}{xs:List α}(h:rdL most one l=some (xs,r)):∀ x ∈ xs,Q x:=by
 unfold rdL at h;cases hc:cntR most l with
 | none=>rw[hc] at h;cases h
 | some x=>rw[hc] at h;exact rdN_each hq _ _ _ _ h
theorem rdC_ok {mn mk:Nat}(hn:mn<=1000000)(hk:mk<=1000000){l r:List UInt8}{c:Cd}(h:rdC mn mk l=some (c,r)):c.Ok:=by
 unfold rdC at h;cases h0:takR 3 l with
 | none=>rw[h0] at h;cases h
 | some m =>
  obtain⟨m,l0⟩:=m;rw[h0] at h;simp only[Option.bind_some] at h;split at h
  ·cases h1:rdL 32768 wrdR l0 with
   | none=>rw[h1] at h;cases h
   | some a =>
    obtain⟨a,l1⟩:=a;rw[h1] at h;simp only[Option.bind_some] at h;cases h2:rdL 32768 conR l1 with
    | none=>rw[h2] at h;cases h
    | some b =>
     obtain⟨b,l2⟩:=b;rw[h2] at h;simp only[Option.bind_some] at h;cases h3:rdL 2000 (namR mn) l2 with
     | none=>rw[h3] at h;cases h
     | some n =>
      obtain⟨n,l3⟩:=n;rw[h3] at h;simp only[Option.bind_some] at h;cases h4:rdL 256 (kndR mk) l3 with
      | none=>rw[h4] at h;cases h
      | some d =>
       obtain⟨d,l4⟩:=d;rw[h4] at h;simp only[Option.map_some,Option.some.injEq,Prod.mk.injEq] at h;obtain⟨rfl,rfl⟩:=h;refine⟨rdL_each (Q:=fun u=>0<=u/\u<18446744073709551616) (fun l x r h=>?_) h1,rdL_each (Q:=fun u=>-9223372036854775808<=u/\u<=9223372036854775807) (fun l x r h=>?_) h2,rdL_each (Q:=fun u=>-9223372036854775808<=u/\u<=9223372036854775807) (fun l x r h=>?_) h4,rdL_each (Q:=fun s=>s.size<=maxLen) (fun l x r h=>?_) h3⟩
       ·unfold wrdR at h;cases hh:numR l with
        | none=>rw[hh] at h;cases h
        | some y=>rw[hh] at h;cases h;have:=(numR_back hh).2;first|omega|(dsimp only;omega)
       ·unfold conR at h;cases hh:numR l with
        | none=>rw[hh] at h;cases h
        | some y=>rw[hh] at h;cases h;have:=(numR_back hh).2;exact zgb_bd _ (by omega) (by omega)
       ·unfold kndR at h;cases hh:cntR mk l with
        | none=>rw[hh] at h;cases h
        | some y=>rw[hh] at h;cases h;have:=(cntR_back hh).2;first|omega|(dsimp only;omega)
       ·unfold namR at h;cases hh:cntR mn l with
        | none=>rw[hh] at h;cases h
        | some y =>
         rw[hh] at h;simp only[Option.bind_some,takR] at h;split at h
         ·have:=(cntR_back hh).2
          simp only[Option.map_some,Option.some.injEq,Prod.mk.injEq] at h;obtain⟨rfl,-⟩:=h;show (List.take y.1 y.2).toArray.size<=maxLen;unfold maxLen;simp;omega
         ·cases h
  ·cases h
theorem Row.lsv {w:World}{o:Nat->Nat}{i:Nat}{e:TypeId}{ao:Option Addr}{n cap:Nat}{xs:List Value}(h:Row w o i e 1 (.slice ao n cap) n xs):Lsv w ao xs:=by
 by_cases hn:0<n
 ·obtain⟨g,c,hv,-,-,-,hlt,hc,-⟩:=h.pos hn;simp only[Value.slice.injEq,true_and] at hv;refine .inr ⟨g,0,hv.1,hlt,fun j x hx=>?_⟩;have hl:=h.len;have hj:j<n*1:=by have:=(List.getElem?_eq_some_iff.1 hx).1;omega
  rw[Nat.zero_add,hc j hj];exact hx
 ·have hl:=h.len;exact .inl (List.eq_nil_of_length_eq_zero (by omega))
theorem CdR.cdw {w:World}{o:Nat->Nat}{p:Pl}{c:Cd}(h:CdR w o p c)(ho:c.Ok):CdW w p c:=by
 have h1:=h.lw;have h2:=h.lc;have h3:=h.ln;have h4:=h.lk;exact⟨ho,h.ws.lsv,h.cs.lsv,h.ns.lsv,h.ks.lsv,by omega,by omega,by omega,by omega⟩
theorem CdR.step {I:Nat->Prop}{w w':World}{o o':Nat->Nat}{p:Pl}{c:Cd}(h:CdR w o p c)(s:Step I w o w' o')(h3:¬I 3)(h4:¬I 4)(h5:¬I 5)(h6:¬I 6):CdR w' o' p c :=
 ⟨h.ws.step s h3,h.cs.step s h4,h.ns.step s h5,h.ks.step s h6,h.lw,h.lc,h.ln,h.lk⟩
def DecOut (s:List UInt8)(w:World)(z:Ending)(w':World):Prop :=
 Below w.heap.size w w'/\((∃p c,z=.returned (.tuple #[cdV p c,.int .i64 0])/\IsE s c/\∃o',(∀ k,k<w.heap.size->o' k=0)/\CdR w' o' p c)\/(z=.returned (.tuple #[.agg nil4,.int .i64 180])/\∀ c,¬IsE s c))
theorem bytes_cells (w:World)(s:ByteArray)(n:Nat)(t:TypeId)(fr:Nat × Nat):∀ j u,(byL s.data.toList)[j]?=some u->(w.alloc (.cells (bytesRow s n) t fr)).cell? ⟨w.heap.size,0+j,none⟩=some u:=by
 intro j u hj;have hl:j<s.data.toList.length:=by have:=(List.getElem?_eq_some_iff.1 hj).1;simpa [byL] using this
 have hh:=heap_alloc_new w (.cells (bytesRow s n) t fr);unfold World.cell?;rw[hh];simp only[Nat.zero_add];rw[bytesRow_at s n j (by simpa using hl)];simp[byL] at hj;obtain⟨x,hx,rfl⟩:=hj
 have:s.data[j]?=some x:=by simpa using hx
 rw[Array.getElem?_eq_some_iff] at this;obtain⟨h1,h2⟩:=this;rw[h2];rfl
theorem decode_c (s:ByteArray)(w:World)(hF:Fx w)(hs:s.size<=9223372036854775807) :
  Calls Tryd.prog 20 #[.string s] w (DecOut s.data.toList w):=by
 obtain⟨w1,hw1⟩:∃w1,w1=w.alloc (.cells nil4 26):=⟨_,rfl⟩
 obtain⟨g1,hg1⟩:∃g1,g1=w.heap.size:=⟨_,rfl⟩
 have B1:Below w.heap.size w w1:=by rw[hw1];exact b1 _ _
 have z1:w1.heap.size=g1+1:=by rw[hw1,hg1];simp
 have G1:w1.heap[g1]?=some (.cells nil4 26):=by rw[hw1,hg1];exact heap_alloc_new _ _
 have kc:=run_bytes_of_string (P:=Tryd.prog) w1 9 44 5 s Tryd.underlying9 Tryd.underlying44 Tryd.underlying5;have hcp1:=grownCap_ge w1 s.size 0 5;have hcp2:=grownCap_le_maxLen w1 s.size 0 5 (by unfold maxLen;omega);generalize grownCap w1 s.size 0 5=cap at *;rw[z1] at kc;obtain⟨w2,hw2⟩:∃w2,w2=w1.drew.alloc (.cells (bytesRow s cap) 5 ((bytesRow s cap).size,(bytesRow s cap).size+1)):=⟨_,rfl⟩
 rw[<-hw2] at kc;have B2:Below w1.heap.size w1 w2:=by rw[hw2];exact(Below.refl _ w1).drew.alloc (Nat.le_refl _) _
 have z2:w2.heap.size=g1+2:=by
  rw[hw2];show (w1.heap.push _).size=_;simp[z1]
 have c2:∀ j u,(byL s.data.toList)[j]?=some u->w2.cell? ⟨g1+1,0+j,none⟩=some u:=by
  have:=bytes_cells w1.drew s cap 5 ((bytesRow s cap).size,(bytesRow s cap).size+1)
  rw[<-hw2] at this;have e:w1.drew.heap.size=g1+1:=z1;rw[e] at this;exact this
 obtain⟨w3,hw3⟩:∃w3,w3=w2.alloc (.cells #[.slice (some ⟨g1+1,0,none⟩) s.size cap,.bool false] 66):=⟨_,rfl⟩
 have B3:Below w2.heap.size w2 w3:=by rw[hw3];exact b1 _ _
 have z3:w3.heap.size=g1+3:=by rw[hw3];simp[z2]
 obtain⟨o3,ho3⟩:∃o3:Nat->Nat,o3=fun k=>if k=g1+2 then 2 else 0:=⟨_,rfl⟩
 have hln:s.data.toList.length=s.size:=Array.length_toList;have D3:RdW w3 o3 (g1+2) (g1+1) (some s.data.toList):=by
  refine⟨by rw[ho3];simp,by omega,by omega,0,cap,by omega,by unfold maxLen at hcp2;omega,⟨?_,by rw[ho3];simp⟩,fun j u hj=>(B3.cell (p:=⟨g1+1,0+j,none⟩) (by rw[z2];show g1+1<g1+2;omega)).trans (c2 j u hj)⟩;rw[hw3,hln,<-z2];exact heap_alloc_new _ _
 have hol:∀ k,k<g1+2->o3 k=0:=fun k hk=>by rw[ho3];simp;omega
 have G3:w3.heap[g1]?=some (.cells nil4 26):=(B3.block g1 (by omega)).trans ((B2.block g1 (by omega)).trans G1);have BB3:Below g1 w w3:=by
  rw[hg1];exact B1.trans ((B2.trans (B3.mono B2.size)).mono B1.size)
 have HC:=code_c w3 o3 (g1+2) (g1+1) (by omega) _ D3;have HG1:=Lib.hid hg1;clear hg1 c2 B1 B2 B3 G1 ho3 D3 hcp1 hcp2;go_enter Tryd.func20,Tryd.ntmps20;go_wp2_with fail;rw[<-hw1];clear hw1;rw[kc,<-HG1.out];clear kc hw2;go_wp2_with fail;try rw[z2]
 rw[<-hw3];clear hw3;refine HC.mono ?_;rintro e w4 ⟨p,c,rfl,o4,st4,C4,D4,S4,E4⟩;have BB4:Below (g1+2) w3 w4:=⟨S4.os,S4.tape,S4.output,S4.size,fun k hk=>S4.block k (by omega) (by rw[hol k hk];decide)⟩
 have G4:w4.heap[g1]?=some (.cells nil4 26):=(BB4.block g1 (by omega)).trans G3;have L4:∀ k,k<g1->o4 k=0:=fun k hk=>by rw[S4.lab k (by omega)];exact hol k (by omega)
 have hO4:o4 g1=0:=by rw[S4.lab g1 (by omega)];exact hol g1 (by omega)
 have HO4:=Lib.hid hO4;clear hO4;have sz4:=S4.size;have D4b:=D4.blk;have D4l:=D4.lt;clear HC S4;obtain⟨w5,hw5⟩:∃w5,w5=w4.alloc (.cells (cdA p c) 26):=⟨_,rfl⟩
 obtain⟨g5,hg5⟩:∃g5,g5=w4.heap.size:=⟨_,rfl⟩
 have B5:Below w4.heap.size w4 w5:=by rw[hw5];exact b1 _ _
 have K5:bx4 p c w5 g5:=by rw[hw5,hg5];exact bx4_new p c w4
 have L5:g5<w5.heap.size:=by rw[hw5,hg5];simp
 have C5:=C4.step (Step.ofBelow (I:=fun _=>False) o4 B5) (fun h=>h) (fun h=>h) (fun h=>h) (fun h=>h);have D5:=D4.step (Step.ofBelow (I:=fun _=>False) o4 B5) (fun h=>h) (fun h=>h);have G5:=(B5.block g1 (by omega)).trans G4;have BB5:Below g1 w w5:=(BB3.trans (BB4.mono (by omega))).trans (B5.mono (by omega));have F5:Fx w5:=hF.below (by rw[<-HG1.out];exact BB5);clear hF;have HG5:=Lib.hid hg5;have hgn:g5≠g1:=by omega
 have hg15:g1<w5.heap.size:=by omega
 have hg25:g1+2<w5.heap.size:=by omega
 clear C4 D4 G4 BB3 BB4 G3 B5 hg5;go_upto_region 3 with fail;rw[<-hw5,<-HG5.out];clear hw5;obtain⟨k0,k1,k2,k3⟩:=K5;obtain⟨⟨c0,c1,c2,c3⟩,gf⟩:=cells4 G5;have gf0:=gf 0;have gf1:=gf 1;have gf2:=gf 2;have gf3:=gf 3;cases st4 with
 | none =>
  obtain⟨d0,d1,-,-⟩:=cells2r (show Blk w5 o4 2 (g1+2) (.cells #[.slice none 0 0,.bool true] 66) from D5).1;have hno:∀ d,¬IsE s.data.toList d:=fun d hd=>by
   have:=hd.read (mn:=12) (mk:=3) (by omega) (by omega) (by omega) (by omega)
   simp only[Option.bind_some] at E4;rw[this] at E4;cases E4
  have HN:=Lib.hid hno;clear hno E4;have GZ:=G5;have BZ:=BB5;have ZE:=set4c (.slice none 0 0) (.slice none 0 0) (.slice none 0 0) (.slice none 0 0) GZ;have BE:=(((BZ.setCell (p:=⟨g1,0,none⟩) (Nat.le_refl _) (.slice none 0 0)).setCell (p:=⟨g1,1,none⟩) (Nat.le_refl _) (.slice none 0 0)).setCell (p:=⟨g1,2,none⟩) (Nat.le_refl _) (.slice none 0 0)).setCell (p:=⟨g1,3,none⟩) (Nat.le_refl _) (.slice none 0 0);obtain⟨⟨u0,u1,u2,u3⟩,-⟩:=cells4 ZE;have HBE:=Lib.hid BE;clear ZE BE;go_wp2;exact bodyPost_ret (v:=.tuple #[.agg nil4,.int .i64 180]) (by simp[results,Tryd.results20,go_sem,u0,u1,u2,u3]) rfl ⟨by rw[<-HG1.out];exact HBE.out,.inr ⟨rfl,HN.out⟩⟩
 | some r =>
  obtain⟨-,-,hrl,off,cap2,hrc,hrm,hrb,-⟩:=D5;obtain⟨d0,d1,-,-⟩:=cells2r hrb.1;have hrd:rdC 12 3 s.data.toList=some (c,r):=by simpa using E4
  have ho:=rdC_ok (by omega) (by omega) hrd;have hbk:=rdC_back (by omega) (by omega) hrd;have HBK:=Lib.hid hbk;clear hbk;have CW:=C5.cdw ho;have RC:=right_c p c w5 F5 CW;have hun:∀ d,IsE s.data.toList d->d=c:=fun d hd=>by
   have:=hd.read (mn:=12) (mk:=3) (by omega) (by omega) (by omega) (by omega)
   rw[hrd] at this;simp only[Option.some.injEq,Prod.mk.injEq] at this;exact this.1.symm
  clear E4 hrd D4b;cases hr:rgtB c
  ·have hno:∀ d,¬IsE s.data.toList d:=fun d hd=>by
    have:=hun d hd
    subst this;rw[hd.2.1] at hr;cases hr
   have HN:=Lib.hid hno;rw[hr] at RC;clear hno hun;go_wp2_with (go_at_call 11;refine RC.mono ?_;rintro e w6 ⟨rfl,B6⟩;have GZ:=(B6.block g1 (by omega)).trans G5;obtain⟨⟨c0,c1,c2,c3⟩,gz⟩:=cells4 GZ;have gz0:=gz 0;have gz1:=gz 1;have gz2:=gz 2;have gz3:=gz 3);have BZ:=BB5.trans (B6.mono (Nat.le_of_lt hg15));have ZE:=set4c (.slice none 0 0) (.slice none 0 0) (.slice none 0 0) (.slice none 0 0) GZ;have BE:=(((BZ.setCell (p:=⟨g1,0,none⟩) (Nat.le_refl _) (.slice none 0 0)).setCell (p:=⟨g1,1,none⟩) (Nat.le_refl _) (.slice none 0 0)).setCell (p:=⟨g1,2,none⟩) (Nat.le_refl _) (.slice none 0 0)).setCell (p:=⟨g1,3,none⟩) (Nat.le_refl _) (.slice none 0 0);obtain⟨⟨u0,u1,u2,u3⟩,-⟩:=cells4 ZE;have HBE:=Lib.hid BE;clear ZE BE;exact bodyPost_ret (v:=.tuple #[.agg nil4,.int .i64 180]) (by simp[results,Tryd.results20,go_sem,u0,u1,u2,u3]) rfl ⟨by rw[<-HG1.out];exact HBE.out,.inr ⟨rfl,HN.out⟩⟩
  ·rw[hr] at RC;have hbl:=body_len ho hr;have SD:=fun w3=>sealed_c ⟨(bodB c).toArray⟩ w3 (by rw[size_mk];omega);have e1:(⟨(bodB c).toArray⟩:ByteArray).data.toList=bodB c:=by simp
   rw[e1] at SD;have hsz:s.size=(bodB c).length+r.length:=by rw[<-hln,HBK.out,List.length_append]
   obtain⟨k,hk⟩:∃k,k=(bodB c).length:=⟨_,rfl⟩
   have hex:s.extract 0 k=⟨(bodB c).toArray⟩:=by
    apply ByteArray.ext;apply Array.ext';rw[ByteArray.data_extract,Array.toList_extract,HBK.out,hk];simp
   have HEX:=Lib.hid hex;rw[<-hk] at hsz;have hsI:(s.size:Int)-(r.length:Int)=(k:Int):=by omega
   have HK:=Lib.hid hk;have HUN:=Lib.hid hun;clear hex hk hun e1;rw[<-HEX.out] at SD;have HIE:Hid (encB c=sldB (bodB c)):=rfl;generalize sldB (bodB c)=zl at *;by_cases hz:(⟨zl.toArray⟩:ByteArray)=s
   ·have hIs:IsE s.data.toList c:=⟨ho,hr,by rw[HIE.out,<-hz]⟩
    have HIs:=Lib.hid hIs;rw[hz] at SD;clear hIs hz;go_wp2_with (first|(go_at_call 11;refine RC.mono ?_;rintro e w6 ⟨rfl,B6⟩;have d02:=(B6.cell (p:=⟨g1+2,0,none⟩) hg25).trans d0)|(go_at_call 26;refine(SD _).mono ?_;rintro e w7 ⟨rfl,B7⟩;have GZ:=((B6.trans (B7.mono B6.size)).block g1 hg15).trans G5;obtain⟨⟨c0,c1,c2,c3⟩,gz⟩:=cells4 GZ;have gz0:=gz 0;have gz1:=gz 1;have gz2:=gz 2;have gz3:=gz 3;obtain⟨q0,q1,q2,q3⟩:=bx4_below ⟨k0,k1,k2,k3⟩ L5 (B6.trans (B7.mono B6.size))));have B8:=B6.trans (B7.mono B6.size);have BZ:=BB5.trans (B8.mono (Nat.le_of_lt hg15));have ZE:=set4c (.slice p.aw c.ws.length p.cw) (.slice p.ac c.cs.length p.cc) (.slice p.an c.ns.length p.cn) (.slice p.ak c.ks.length p.ck) GZ;have BE:=(((BZ.setCell (p:=⟨g1,0,none⟩) (Nat.le_refl _) (.slice p.aw c.ws.length p.cw)).setCell (p:=⟨g1,1,none⟩) (Nat.le_refl _) (.slice p.ac c.cs.length p.cc)).setCell (p:=⟨g1,2,none⟩) (Nat.le_refl _) (.slice p.an c.ns.length p.cn)).setCell (p:=⟨g1,3,none⟩) (Nat.le_refl _) (.slice p.ak c.ks.length p.ck);obtain⟨⟨u0,u1,u2,u3⟩,-⟩:=cells4 ZE;have o4g:o4 g1=0:=HO4.out;have CE:CdR ((((w7.setCell ⟨g1,0,none⟩ (.slice p.aw c.ws.length p.cw)).setCell ⟨g1,1,none⟩ (.slice p.ac c.cs.length p.cc)).setCell ⟨g1,2,none⟩ (.slice p.an c.ns.length p.cn)).setCell ⟨g1,3,none⟩ (.slice p.ak c.ks.length p.ck)) o4 p c:=((C5.step (Step.ofBelow (I:=fun _=>False) o4 B8) (fun h=>h) (fun h=>h) (fun h=>h) (fun h=>h)).step (((((Step.refl (fun k=>k=0) w7 o4).setCell ⟨g1,0,none⟩ _ o4g).setCell ⟨g1,1,none⟩ _ o4g).setCell ⟨g1,2,none⟩ _ o4g).setCell ⟨g1,3,none⟩ _ o4g) (by decide) (by decide) (by decide) (by decide))
    have HBE:=Lib.hid BE;have HCE:=Lib.hid CE;clear ZE BE CE;exact bodyPost_ret (v:=.tuple #[cdV p c,.int .i64 0]) (by simp[results,Tryd.results20,go_sem,u0,u1,u2,u3]) rfl ⟨by rw[<-HG1.out];exact HBE.out,.inl ⟨p,c,rfl,HIs.out,o4,fun k hk=>L4 k (by rw[HG1.out];exact hk),HCE.out⟩⟩
   ·have hno:∀ d,¬IsE s.data.toList d:=fun d hd=>by
     have:=HUN.out d hd
     subst this;apply hz;have h3:=hd.2.2;rw[HIE.out] at h3;rw[h3]
    have HN:=Lib.hid hno;have hze:(zl==s.toList)=false:=by
     have h4:=str_ne hz;have h5:(⟨zl.toArray⟩:ByteArray).toList=zl:=by rw[ByteArray.toList_eq]
     rw[h5] at h4;exact h4
    have HZ:=Lib.hid hze;clear hno hze;go_wp2_with (first|(go_at_call 11;refine RC.mono ?_;rintro e w6 ⟨rfl,B6⟩;have d02:=(B6.cell (p:=⟨g1+2,0,none⟩) hg25).trans d0)|(go_at_call 26;refine(SD _).mono ?_;rintro e w7 ⟨rfl,B7⟩;have GZ:=((B6.trans (B7.mono B6.size)).block g1 hg15).trans G5;obtain⟨⟨c0,c1,c2,c3⟩,gz⟩:=cells4 GZ;have gz0:=gz 0;have gz1:=gz 1;have gz2:=gz 2;have gz3:=gz 3;obtain⟨q0,q1,q2,q3⟩:=bx4_below ⟨k0,k1,k2,k3⟩ L5 (B6.trans (B7.mono B6.size))))
    all_goals first
    | (exfalso;rename_i hx;rw[HZ.out] at hx;cases hx;done)
    | (
     have B8:=B6.trans (B7.mono B6.size);have BZ:=BB5.trans (B8.mono (Nat.le_of_lt hg15));have ZE:=set4c (.slice none 0 0) (.slice none 0 0) (.slice none 0 0) (.slice none 0 0) GZ;have BE:=(((BZ.setCell (p:=⟨g1,0,none⟩) (Nat.le_refl _) (.slice none 0 0)).setCell (p:=⟨g1,1,none⟩) (Nat.le_refl _) (.slice none 0 0)).setCell (p:=⟨g1,2,none⟩) (Nat.le_refl _) (.slice none 0 0)).setCell (p:=⟨g1,3,none⟩) (Nat.le_refl _) (.slice none 0 0);obtain⟨⟨u0,u1,u2,u3⟩,-⟩:=cells4 ZE;have HBE:=Lib.hid BE;clear ZE BE;exact bodyPost_ret (v:=.tuple #[.agg nil4,.int .i64 180]) (by simp[results,Tryd.results20,go_sem,u0,u1,u2,u3]) rfl ⟨by rw[<-HG1.out];exact HBE.out,.inr ⟨rfl,HN.out⟩⟩)
theorem bd_drewN {g:Nat}{w w':World}(h:Below g w w')(n:Nat):Below g w (w'.drewN n):=by
 induction n with
 | zero=>exact h
 | succ n ih=>exact ih.drew
theorem same_yes (p q:Pl)(c:Cd)(w:World)(hp:CdW w p c)(hq:CdW w q c) :
  Calls Tryd.prog 21 #[cdV p c,cdV q c] w fun e w'=>e=.returned (.bool true)/\Below w.heap.size w w':=by
 obtain⟨g,hg⟩:∃g,g=w.heap.size:=⟨_,rfl⟩
 obtain⟨w2,hw2⟩:∃w2,w2=(w.alloc (.cells (cdA p c) 26)).alloc (.cells (cdA q c) 26):=⟨_,rfl⟩
 have B1:Below g w w2:=by rw[hw2,hg];exact((Below.refl _ w).alloc (Nat.le_refl _) _).alloc (by simp) _
 have z2:w2.heap.size=g+2:=by rw[hw2,hg];simp
 have KP:bx4 p c w2 g:=by
  rw[hw2,hg];exact bx4_below (bx4_new p c w) (by simp) (b1 _ _)
 have KQ:bx4 q c w2 (g+1):=by
  have:=bx4_new q c (w.alloc (.cells (cdA p c) 26))
  rw[hw2,hg];simpa using this
 have P2:CdW w2 p c:=hp.below (by rw[<-hg];exact B1);have Q2:CdW w2 q c:=hq.below (by rw[<-hg];exact B1);have HG:=Lib.hid hg;have l1:=P2.lw;have l2:=P2.lc;have l3:=P2.ln;have l4:=P2.lk;clear hp hq hg;have K:∀ {wr:World},Below w2.heap.size w2 wr->bx4 p c wr g/\bx4 q c wr (g+1)/\CdW wr p c/\CdW wr q c:=fun {wr} B=>⟨bx4_below KP (by omega) B,bx4_below KQ (by omega) B,P2.below B,Q2.below B⟩;have Bz:Below w2.heap.size w2 w2:=Below.refl _ _;obtain⟨a0,a1,a2,a3⟩:=KP;obtain⟨e0,e1,e2,e3⟩:=KQ;clear P2 Q2;go_enter Tryd.func21,Tryd.ntmps21;go_wp2_with fail;rw[<-hw2,<-HG.out];clear hw2;go_wp2_with fail;go_loopw [5] (fun v wr=>∃k:Nat,v=.int .i64 (k:Nat)/\k<=c.ws.length/\Below w2.heap.size w2 wr) (fun v _=>c.ws.length-(intOf v).toNat)
 case atStart=>exact⟨0,by go_num,by omega,Bz⟩
 case round =>
  obtain⟨k,rfl,hk,BR0⟩:=hrel;clear a0 a1 a2 a3 e0 e1 e2 e3;obtain⟨⟨a0,a1,a2,a3⟩,⟨e0,e1,e2,e3⟩,PR,QR⟩:=K BR0;by_cases hlt:k<c.ws.length
  ·have hkI:(k:Int)<(c.ws.length:Int):=by omega
   obtain⟨b1,o1,h1,l1,x1⟩:=PR.ws.at (wsV_at hlt);obtain⟨b2,o2,h2,l2,x2⟩:=QR.ws.at (wsV_at hlt);generalize c.ws[k]=u at x1 x2;rw[h1] at a0;rw[h2] at e0;go_wp2_with fail
   go_quiet (fail)
   go_wp2;go_roundw
   case rel=>(try ((repeat apply Exists.intro);refine⟨?_,rfl⟩));exact⟨k+1,by go_num,by omega,bd_drewN BR0 _⟩
   case measure=>simp[intOf];omega
  ·have hkI:¬(k:Int)<(c.ws.length:Int):=by omega
   clear PR QR;go_wp2_with fail;go_loopw [6] (fun v wr=>∃k:Nat,v=.int .i64 (k:Nat)/\k<=c.cs.length/\Below w2.heap.size w2 wr) (fun v _=>c.cs.length-(intOf v).toNat)
   case atStart=>exact⟨0,by go_num,by omega,BR0⟩
   case round =>
    obtain⟨k,rfl,hk,BR1⟩:=hrel;clear a0 a1 a2 a3 e0 e1 e2 e3;obtain⟨⟨a0,a1,a2,a3⟩,⟨e0,e1,e2,e3⟩,PR,QR⟩:=K BR1;by_cases hlt:k<c.cs.length
    ·have hkI:(k:Int)<(c.cs.length:Int):=by omega
     obtain⟨b1,o1,h1,l1,x1⟩:=PR.cs.at (isV_get hlt);obtain⟨b2,o2,h2,l2,x2⟩:=QR.cs.at (isV_get hlt);generalize c.cs[k]=u at x1 x2;rw[h1] at a1;rw[h2] at e1;go_wp2_with fail
     go_quiet (fail)
     go_wp2;go_roundw
     case rel=>(try ((repeat apply Exists.intro);refine⟨?_,rfl⟩));exact⟨k+1,by go_num,by omega,bd_drewN BR1 _⟩
     case measure=>simp[intOf];omega
    ·have hkI:¬(k:Int)<(c.cs.length:Int):=by omega
     clear PR QR;go_wp2_with fail;go_loopw [7] (fun v wr=>∃k:Nat,v=.int .i64 (k:Nat)/\k<=c.ns.length/\Below w2.heap.size w2 wr) (fun v _=>c.ns.length-(intOf v).toNat)
     case atStart=>exact⟨0,by go_num,by omega,BR1⟩
     case round =>
      obtain⟨k,rfl,hk,BR2⟩:=hrel;clear a0 a1 a2 a3 e0 e1 e2 e3;obtain⟨⟨a0,a1,a2,a3⟩,⟨e0,e1,e2,e3⟩,PR,QR⟩:=K BR2;by_cases hlt:k<c.ns.length
      ·have hkI:(k:Int)<(c.ns.length:Int):=by omega
       obtain⟨b1,o1,h1,l1,x1⟩:=PR.ns.at (nsV_at hlt);obtain⟨b2,o2,h2,l2,x2⟩:=QR.ns.at (nsV_at hlt);generalize c.ns[k]=u at x1 x2;rw[h1] at a2;rw[h2] at e2;go_wp2_with fail
       go_quiet (fail)
       go_wp2;go_roundw
       case rel=>(try ((repeat apply Exists.intro);refine⟨?_,rfl⟩));exact⟨k+1,by go_num,by omega,bd_drewN BR2 _⟩
       case measure=>simp[intOf];omega
      ·have hkI:¬(k:Int)<(c.ns.length:Int):=by omega
       clear PR QR;go_wp2_with fail;go_loopw [8] (fun v wr=>∃k:Nat,v=.int .i64 (k:Nat)/\k<=c.ks.length/\Below w2.heap.size w2 wr) (fun v _=>c.ks.length-(intOf v).toNat)
       case atStart=>exact⟨0,by go_num,by omega,BR2⟩
       case round =>
        obtain⟨k,rfl,hk,BR3⟩:=hrel;clear a0 a1 a2 a3 e0 e1 e2 e3;obtain⟨⟨a0,a1,a2,a3⟩,⟨e0,e1,e2,e3⟩,PR,QR⟩:=K BR3;by_cases hlt:k<c.ks.length
        ·have hkI:(k:Int)<(c.ks.length:Int):=by omega
         obtain⟨b1,o1,h1,l1,x1⟩:=PR.ks.at (isV_get hlt);obtain⟨b2,o2,h2,l2,x2⟩:=QR.ks.at (isV_get hlt);generalize c.ks[k]=u at x1 x2;rw[h1] at a3;rw[h2] at e3;go_wp2_with fail
         go_quiet (fail)
         go_wp2;go_roundw
         case rel=>(try ((repeat apply Exists.intro);refine⟨?_,rfl⟩));exact⟨k+1,by go_num,by omega,bd_drewN BR3 _⟩
         case measure=>simp[intOf];omega
        ·have hkI:¬(k:Int)<(c.ks.length:Int):=by omega
         go_wp2;go_ret;exact⟨rfl,by rw[<-HG.out];exact B1.trans (BR3.mono (by omega))⟩
theorem rzig_any (n:Int)(w:World)(h1:-9223372036854775808<=n)(h2:n<=9223372036854775807) :
  Calls Tryd.prog 51 #[.int .i64 n] w fun e w'=>e=.returned (.int .u64 (zg n))/\w'=w:=by
 by_cases h:0<=n
 ·go_enter Tryd.func51,Tryd.ntmps51;go_wp2;go_ret;exact⟨ret_int (by unfold zg;rw[if_pos h]),rfl⟩
 ·have h':n<0:=by omega
  have e:2 * -(n+1)+1=zg n:=by unfold zg;rw[if_neg h];omega
  have E:Hid (2 * -(n+1)+1=zg n):=e;clear h e;go_enter Tryd.func51,Tryd.ntmps51;go_wp2;go_ret;exact⟨ret_int E.out,rfl⟩
theorem rmix_any (h n:Int)(w:World)(g1:0<=h)(g2:h<18446744073709551616)(h1:-9223372036854775808<=n)(h2:n<=9223372036854775807) :
  Calls Tryd.prog 52 #[.int .u64 h,.int .i64 n] w fun e w'=>e=.returned (.int .u64 (mx h (zg n)))/\w'=w:=by
 have b:=zg_bd n h1 h2;go_enter Tryd.func52,Tryd.ntmps52;go_wp2_with (go_at_call 51;refine(rzig_any _ _ h1 h2).mono ?_;rintro e w' ⟨rfl,rfl⟩);go_ret;exact⟨ret_int (mx_eq_ref h (zg n) g1 g2 b.1 b.2),rfl⟩
theorem rzag_any (u:Int)(w:World)(h1:0<=u)(h2:u<18446744073709551616) :
  Calls Tryd.prog 37 #[.int .u64 u] w fun e w'=>e=.returned (.int .i64 (zgb u))/\w'=w:=by
 by_cases h:u % 2=0
 ·go_enter Tryd.func37,Tryd.ntmps37;go_wp2;go_ret;exact⟨ret_int (by unfold zgb;rw[if_pos h]),rfl⟩
 ·go_enter Tryd.func37,Tryd.ntmps37;go_wp2;go_ret;exact⟨ret_int (by unfold zgb;rw[if_neg h]),rfl⟩
theorem rword_yes (o a b:Int)(w:World)(h1:0<=o)(h2:o<=255)(h3:0<=a)(h4:a<=268435455)(h5:0<=b)(h6:b<=268435455) :
  Calls Tryd.prog 34 #[.int .i64 o,.int .i64 a,.int .i64 b] w fun e w' =>
   e=.returned (.tuple #[.int .u64 ((o*268435456+a)*268435456+b),.int .i64 0])/\w'=w:=by
 go_enter Tryd.func34,Tryd.ntmps34;go_wp2;go_ret2;exact⟨rfl,rfl⟩
theorem ret_high {k l m:IntKind}{a b c d:Int}(h:a=b):Ending.returned (.tuple #[.int k a,.int l c,.int m d])=.returned (.tuple #[.int k b,.int l c,.int m d]):=by rw[h]
theorem rparts_any (u:Int)(w:World)(h1:0<=u)(h2:u<18446744073709551616) :
  Calls Tryd.prog 56 #[.int .u64 u] w fun e w' =>
   e=.returned (.tuple #[.int .i64 (u / 72057594037927936),.int .i64 (u / 268435456 % 268435456),.int .i64 (u % 268435456)])/\w'=w:=by
 go_enter Tryd.func56,Tryd.ntmps56;go_wp2;go_ret3;exact⟨ret_high (by omega),rfl⟩
def pk (c n:Int):Int:=(if c<0 then -(c+1) else c) % n
theorem pk_bd (c n:Int)(h:0<n):0<=pk c n/\pk c n<n:=⟨Int.emod_nonneg _ (by omega),Int.emod_lt_of_pos _ h⟩
theorem pick_c (c n:Int)(w:World)(h1:-9223372036854775808<=c)(h2:c<=9223372036854775807)(h3:0<n)(h4:n<=9223372036854775807) :
  Calls Tryd.prog 23 #[.int .i64 c,.int .i64 n] w fun e w'=>e=.returned (.int .i64 (pk c n))/\w'=w:=by
 by_cases h0:c<0
 ·have e:pk c n=(-(c+1)) % n:=by simp[pk,h0]
  have E:Hid ((-(c+1)).tmod n=pk c n):=by
   show _=_;rw[e,Int.tmod_eq_emod_of_nonneg (by omega)]
  have E2:Hid (-((c+1).tmod n)=pk c n):=by
   show _=_;rw[<-Int.neg_tmod];exact E.out
  have bd:=pk_bd c n h3;clear e;have hn0:¬n=0:=by omega
  go_enter Tryd.func23,Tryd.ntmps23;go_wp2;go_ret;exact⟨by first|exact ret_int E2.out|exact ret_int E.out,rfl⟩
 ·have e:pk c n=c % n:=by simp[pk,h0]
  have E:Hid (c.tmod n=pk c n):=by
   show _=_;rw[e,Int.tmod_eq_emod_of_nonneg (by omega)]
  have E2:Hid (c % n=pk c n):=e.symm;have bd:=pk_bd c n h3;clear e;have hn0:¬n=0:=by omega
  go_enter Tryd.func23,Tryd.ntmps23;go_wp2;go_ret;exact⟨by first|exact ret_int E2.out|exact ret_int E.out,rfl⟩
structure Rw where
 o:Int
 a:Int
 b:Int
structure Rw.Ok (r:Rw):Prop where
 o1:-9223372036854775808<=r.o
 o2:r.o<=9223372036854775807
 a1:-9223372036854775808<=r.a
 a2:r.a<=9223372036854775807
 b1:-9223372036854775808<=r.b
 b2:r.b<=9223372036854775807
def wdN (r:Rw):Int:=(pk r.o 28*268435456+pk r.a 12)*268435456+pk r.b 12
theorem wdN_bd (r:Rw):0<=wdN r/\wdN r<18446744073709551616:=by
 have h1:=pk_bd r.o 28 (by omega);have h2:=pk_bd r.a 12 (by omega);have h3:=pk_bd r.b 12 (by omega);unfold wdN;omega
def RawW (w:World)(ao:Option Addr)(l:List Rw):Prop :=
 l=[]\/∃b off,ao=some ⟨b,off,none⟩/\b<w.heap.size/\∀ k (h:k<l.length),w.cell? ⟨b,off+k*3,none⟩=some (.int .i64 (l[k]).o)/\w.cell? ⟨b,off+k*3+1,none⟩=some (.int .i64 (l[k]).a)/\w.cell? ⟨b,off+k*3+2,none⟩=some (.int .i64 (l[k]).b)
theorem RawW.below {w w':World}{ao:Option Addr}{l:List Rw}(h:RawW w ao l)(B:Below w.heap.size w w'):RawW w' ao l:=by
 rcases h with h|⟨b,off,rfl,hlt,hc⟩
 ·exact .inl h
 ·exact .inr ⟨b,off,rfl,Nat.lt_of_lt_of_le hlt B.size,fun k hk=>⟨(B.cell (p:=⟨b,off+k*3,none⟩) hlt).trans (hc k hk).1,(B.cell (p:=⟨b,off+k*3+1,none⟩) hlt).trans (hc k hk).2.1,(B.cell (p:=⟨b,off+k*3+2,none⟩) hlt).trans (hc k hk).2.2⟩⟩
def MkOut (w:World)(l:List Rw)(vc vn vk:Value)(z:Ending)(w':World):Prop :=
 ∃aw cw,z=.returned (.agg #[.slice aw l.length cw,vc,vn,vk])/\Lsv w' aw (wsV (l.map wdN))/\Below w.heap.size w w'
theorem taken_snoc (l:List Rw)(k:Nat)(h:k<l.length):wsV ((l.take (k+1)).map wdN)=wsV ((l.take k).map wdN)++[.int .u64 (wdN l[k])]:=by
 rw[List.take_succ_eq_append_getElem h];simp only[wsV,List.map_append,List.map_cons,List.map_nil]
theorem mk_c (w:World)(ao:Option Addr)(cap:Nat)(l:List Rw)(vc vn vk:Value)(hR:RawW w ao l)(hok:∀ r ∈ l,r.Ok)(hl:l.length<=17592186044416)
  (o1c:∃a n c,vc=.slice a n c) (o2c:∃a n c,vn=.slice a n c) (o3c:∃a n c,vk=.slice a n c) :
  Calls Tryd.prog 18 #[.slice ao l.length cap,vc,vn,vk,.bool true] w (MkOut w l vc vn vk):=by
 obtain⟨x1,y1,z1,rfl⟩:=o1c;obtain⟨x2,y2,z2,rfl⟩:=o2c;obtain⟨x3,y3,z3,rfl⟩:=o3c;obtain⟨ii,hii,hz0,hz1,hz2⟩:=info_parts infoW;obtain⟨g,hg⟩:∃g,g=w.heap.size:=⟨_,rfl⟩
 obtain⟨w2,hw2⟩:∃w2,w2=(w.alloc (.cells nil4 26)).alloc (.cells #[.slice none 0 0,.slice x1 y1 z1,.slice x2 y2 z2,.slice x3 y3 z3] 26):=⟨_,rfl⟩
 have B1:Below g w w2:=by rw[hw2,hg];exact((Below.refl _ w).alloc (Nat.le_refl _) _).alloc (by simp) _
 have sz2:w2.heap.size=g+2:=by rw[hw2,hg];simp
 obtain⟨o,ho⟩:∃o:Nat->Nat,o=fun k=>if k<g then 0 else 9:=⟨_,rfl⟩
 have hol:∀ k,k<g->o k=0:=fun k hk=>by rw[ho];simp[hk]
 have G0:Blk w2 o 9 g (.cells nil4 26):=by
  refine⟨?_,by rw[ho];simp⟩;rw[hw2,hg];exact(Below.heap_alloc _ _ _ (by simp)).trans (heap_alloc_new _ _)
 have G1:Blk w2 o 9 (g+1) (.cells #[.slice none 0 0,.slice x1 y1 z1,.slice x2 y2 z2,.slice x3 y3 z3] 26):=by
  refine⟨?_,by rw[ho];simp⟩
  have:=heap_alloc_new (w.alloc (.cells nil4 26)) (.cells #[.slice none 0 0,.slice x1 y1 z1,.slice x2 y2 z2,.slice x3 y3 z3] 26)
  rw[hw2,hg];simpa using this
 have HG:=Lib.hid hg;have R2:RawW w2 ao l:=hR.below (by rw[<-hg];exact B1);have hlo:∀ b off,l≠[]->ao=some ⟨b,off,none⟩->o b=0:=fun b off hx e=>by
  rcases hR with h|⟨b',off',e',hlt,_⟩
  ·exact absurd h hx
  ·rw[e'] at e;cases e;exact hol _ (by rw[hg];exact hlt)
 clear hg ho hR;go_enter Tryd.func18,Tryd.ntmps18;go_wp2_with fail;rw[<-hw2,<-HG.out];clear hw2;go_loopw [12] (fun v wr=>∃(k:Nat) (o3:Nat->Nat) (av:Option Addr) (cv:Nat),v=.int .i64 (k:Nat)/\k<=l.length/\Blk wr o3 9 (g+1) (.cells #[.slice av k cv,.slice x1 y1 z1,.slice x2 y2 z2,.slice x3 y3 z3] 26)/\Row wr o3 3 33 1 (.slice av k cv) k (wsV ((l.take k).map wdN))/\Blk wr o3 9 g (.cells nil4 26)/\Step (fun k=>k=3\/k=9) w2 o wr o3) (fun v _=>l.length-(intOf v).toNat)
 case atStart=>exact⟨0,o,none,0,by go_num,by omega,G1,Row.nil _ _ _ _ _,G0,Step.refl _ _ _⟩
 case round =>
  obtain⟨k,o3,av,cv,rfl,hk,K3,R3,Z3,S3⟩:=hrel;clear G0 G1;by_cases hlt:k<l.length
  ·have hkI:(k:Int)<(l.length:Int):=by omega
   have hok1:=hok _ (List.getElem_mem hlt);have hne:l≠[]:=fun h=>by subst h;simp at hlt
   have hRr:∃b off,ao=some ⟨b,off,none⟩/\wr.cell? ⟨b,off+k*3,none⟩=some (.int .i64 (l[k]).o)/\wr.cell? ⟨b,off+k*3+1,none⟩=some (.int .i64 (l[k]).a)/\wr.cell? ⟨b,off+k*3+2,none⟩=some (.int .i64 (l[k]).b):=by
    rcases R2 with h|⟨b,off,e,hb,hc⟩
    ·exact absurd h hne
    ·have hl0:=hlo b off hne e;have hbk:∀ q,wr.cell? ⟨b,q,none⟩=w2.cell? ⟨b,q,none⟩:=fun q=>World.cell?_of_block (a:=⟨b,q,none⟩) (S3.block b hb (by rw[hl0];decide));exact⟨b,off,e,(hbk _).trans (hc k hlt).1,(hbk _).trans (hc k hlt).2.1,(hbk _).trans (hc k hlt).2.2⟩
   obtain⟨b,off,hao,q0,q1,q2⟩:=hRr;have HT:=Lib.hid (taken_snoc l k hlt);have hwd:wdN l[k]=(pk (l[k]).o 28*268435456+pk (l[k]).a 12)*268435456+pk (l[k]).b 12:=rfl;generalize l[k]=r at *;obtain⟨ro,ra,rb⟩:=r;simp only at hwd q0 q1 q2;have e1:=hok1.o1;have e2:=hok1.o2;have e3:=hok1.a1;have e4:=hok1.a2;have e5:=hok1.b1;have e6:=hok1.b2;simp only at e1 e2 e3 e4 e5 e6;obtain⟨⟨c0,c1,c2,c3⟩,cf⟩:=cells4 K3.1;have p1:=pk_bd ro 28 (by omega);have p2:=pk_bd ra 12 (by omega);have p3:=pk_bd rb 12 (by omega);have WW:=fun w=>rword_yes (pk ro 28) (pk ra 12) (pk rb 12) w p1.1 (by omega) p2.1 (by omega) p3.1 (by omega);rw[<-hwd] at WW;have PA:=fun w=>pick_c ro 256 w e1 e2 (by omega) (by omega);have PB:=fun w=>pick_c ra 268435456 w e3 e4 (by omega) (by omega);have PC:=fun w=>pick_c rb 268435456 w e5 e6 (by omega) (by omega);have PD:=fun w=>pick_c ro 28 w e1 e2 (by omega) (by omega);have PE:=fun w=>pick_c ra 12 w e3 e4 (by omega) (by omega);have PF:=fun w=>pick_c rb 12 w e5 e6 (by omega) (by omega);clear hwd hok1;generalize wdN ⟨ro,ra,rb⟩=wd at *;generalize pk ro 28=d1 at *;generalize pk ra 12=d2 at *;generalize pk rb 12=d3 at *;generalize pk ro 256=d4 at *;generalize pk ra 268435456=d5 at *;generalize pk rb 268435456=d6 at *;rw[hao];go_wp2_with fail;refine(PA _).mono ?_;rintro e wz ⟨rfl,hz⟩;subst hz;clear PA;go_wp2_with fail;refine(PB _).mono ?_;rintro e wz ⟨rfl,hz⟩;subst hz;clear PB;go_wp2_with fail;refine(PC _).mono ?_;rintro e wz ⟨rfl,hz⟩;subst hz;clear PC;go_wp2_with fail;refine(PD _).mono ?_;rintro e wz ⟨rfl,hz⟩;subst hz;clear PD;go_wp2_with fail;refine(PE _).mono ?_;rintro e wz ⟨rfl,hz⟩;subst hz;clear PE;go_wp2_with fail;refine(PF _).mono ?_;rintro e wz ⟨rfl,hz⟩;subst hz;clear PF;go_wp2_with fail;refine(WW _).mono ?_;rintro e wz ⟨rfl,hz⟩;subst hz;clear WW;go_wp2_with (first|(at_builtin;refine wpList_append_lab rfl _ _ 22 rfl 33 ii (.int .u64 0) 1 8 Tryd.underlying22 hii hz0 hz1 hz2 rfl (by decide) o3 3 _ k (wsV ((l.take k).map wdN)) rfl (R3.step (Step.ofBelow (I:=fun _=>False) o3 (b1 _ _)) (fun h=>h)) ⟨wz.heap.size,0,none⟩ 1 1 [.int .u64 wd] rfl rfl ?c1 ?c2 (by decide) ?c4 ?c5 ?_)|go_in)
   case c1=>exact new_one _ _ _
   case c2=>exact one_one _ rfl
   case c4=>unfold maxLen;omega
   case c5=>omega
   intro g5 cap5 w5 o5 R5 S5;have SA:∀ {I:Nat->Prop},Step I wz o3 (wz.alloc (.cells #[.int .u64 wd] 33)) o3:=fun {I}=>Step.ofBelow o3 (b1 _ _);have KA:=(K3.step (SA (I:=fun _=>False)) (fun h=>h)).step S5 (by decide);have ZA:=(Z3.step (SA (I:=fun _=>False)) (fun h=>h)).step S5 (by decide);obtain⟨⟨f0,f1,f2,f3⟩,ff⟩:=cells4 KA.1;have ff0:=ff 0;have SC:∀ {I:Nat->Prop},I 9->Step I w5 o5 (w5.setCell ⟨g+1,0,none⟩ (.slice (some ⟨g5,0,none⟩) (k+1) cap5)) o5:=fun {I} h9=>(Step.refl I w5 o5).setCell ⟨g+1,0,none⟩ _ (by rw[KA.2];exact h9);have KN:Blk (w5.setCell ⟨g+1,0,none⟩ (.slice (some ⟨g5,0,none⟩) (k+1) cap5)) o5 9 (g+1) (.cells #[.slice (some ⟨g5,0,none⟩) (k+1) cap5,.slice x1 y1 z1,.slice x2 y2 z2,.slice x3 y3 z3] 26):=⟨heap_setCell_same _ _ 0 _ _ _ KA.1,KA.2⟩
   have ZN:Blk (w5.setCell ⟨g+1,0,none⟩ (.slice (some ⟨g5,0,none⟩) (k+1) cap5)) o5 9 g (.cells nil4 26):=⟨(heap_setCell_other _ _ _ _ (by show g≠g+1;omega)).trans ZA.1,ZA.2⟩
   have RN:Row (w5.setCell ⟨g+1,0,none⟩ (.slice (some ⟨g5,0,none⟩) (k+1) cap5)) o5 3 33 1 (.slice (some ⟨g5,0,none⟩) (k+1) cap5) (k+1) (wsV ((l.take (k+1)).map wdN)):=by
    rw[HT.out]
    first|exact R5.step (SC (I:=fun k=>k=9) rfl) (by decide)|(rw[List.map_take];exact R5.step (SC (I:=fun k=>k=9) rfl) (by decide))
   have SN:Step (fun k=>k=3\/k=9) w2 o (w5.setCell ⟨g+1,0,none⟩ (.slice (some ⟨g5,0,none⟩) (k+1) cap5)) o5:=((S3.trans SA).trans (S5.mono (fun k hk=>Or.inl hk))).trans (SC (Or.inr rfl));have HH:Hid (Blk (w5.setCell ⟨g+1,0,none⟩ (.slice (some ⟨g5,0,none⟩) (k+1) cap5)) o5 9 (g+1) (.cells #[.slice (some ⟨g5,0,none⟩) (k+1) cap5,.slice x1 y1 z1,.slice x2 y2 z2,.slice x3 y3 z3] 26)/\Row (w5.setCell ⟨g+1,0,none⟩ (.slice (some ⟨g5,0,none⟩) (k+1) cap5)) o5 3 33 1 (.slice (some ⟨g5,0,none⟩) (k+1) cap5) (k+1) (wsV ((l.take (k+1)).map wdN))/\Blk (w5.setCell ⟨g+1,0,none⟩ (.slice (some ⟨g5,0,none⟩) (k+1) cap5)) o5 9 g (.cells nil4 26)/\Step (fun k=>k=3\/k=9) w2 o (w5.setCell ⟨g+1,0,none⟩ (.slice (some ⟨g5,0,none⟩) (k+1) cap5)) o5):=⟨KN,RN,ZN,SN⟩
   clear KN RN ZN SN SC KA ZA SA R5 S5 K3 R3 Z3 S3 HT ff;go_wp2;go_roundw
   case rel=>(try ((repeat apply Exists.intro);refine⟨?_,rfl⟩));exact⟨k+1,o5,_,_,by go_num,by omega,HH.out.1,HH.out.2.1,HH.out.2.2.1,HH.out.2.2.2⟩
   case measure=>simp[intOf];omega
  ·have hkI:¬(k:Int)<(l.length:Int):=by omega
   obtain rfl:k=l.length:=by omega
   rw[List.take_length] at R3;obtain⟨⟨c0,c1,c2,c3⟩,-⟩:=cells4 K3.1;obtain⟨⟨f0,f1,f2,f3⟩,ff⟩:=cells4 Z3.1;have ff0:=ff 0;have ff1:=ff 1;have ff2:=ff 2;have ff3:=ff 3;have ZE:=set4c (.slice av l.length cv) (.slice x1 y1 z1) (.slice x2 y2 z2) (.slice x3 y3 z3) Z3.1;have h9:∀ {I:Nat->Prop},I 9->I (o3 g):=fun {I} h=>by rw[Z3.2];exact h
   have SE:∀ {I:Nat->Prop},I 9->Step I wr o3 ((((wr.setCell ⟨g,0,none⟩ (.slice av l.length cv)).setCell ⟨g,1,none⟩ (.slice x1 y1 z1)).setCell ⟨g,2,none⟩ (.slice x2 y2 z2)).setCell ⟨g,3,none⟩ (.slice x3 y3 z3)) o3:=fun {I} h=>((((Step.refl I wr o3).setCell ⟨g,0,none⟩ _ (h9 h)).setCell ⟨g,1,none⟩ _ (h9 h)).setCell ⟨g,2,none⟩ _ (h9 h)).setCell ⟨g,3,none⟩ _ (h9 h);have RE:=(R3.step (SE (I:=fun k=>k=9) rfl) (by decide)).lsv;have BE:Below g w ((((wr.setCell ⟨g,0,none⟩ (.slice av l.length cv)).setCell ⟨g,1,none⟩ (.slice x1 y1 z1)).setCell ⟨g,2,none⟩ (.slice x2 y2 z2)).setCell ⟨g,3,none⟩ (.slice x3 y3 z3)):=B1.trans (Below.mono (⟨(S3.trans (SE (Or.inr rfl))).os,(S3.trans (SE (Or.inr rfl))).tape,(S3.trans (SE (Or.inr rfl))).output,(S3.trans (SE (Or.inr rfl))).size,fun k hk=>(S3.trans (SE (Or.inr rfl))).block k (by omega) (by rw[hol k hk];decide)⟩) (Nat.le_refl _));obtain⟨⟨u0,u1,u2,u3⟩,-⟩:=cells4 ZE;have HRE:=Lib.hid RE;have HBE:=Lib.hid BE;clear ZE SE RE BE R3 K3 Z3 S3 R2 ff;go_wp2;exact bodyPost_ret (v:=.agg #[.slice av l.length cv,.slice x1 y1 z1,.slice x2 y2 z2,.slice x3 y3 z3]) (by simp[results,Tryd.results18,go_sem,u0,u1,u2,u3]) rfl ⟨_,_,rfl,HRE.out,by rw[<-HG.out];exact HBE.out⟩
def rw0:List Rw:=[⟨1,0,1⟩,⟨0,0,0⟩]
def cd0:Cd:=⟨rw0.map wdN,[7],[],[]⟩
theorem cd0_right:rgtB cd0=true:=by decide +kernel
theorem cd0_ok:cd0.Ok:=by
 refine⟨fun u hu=>?_,fun u hu=>?_,fun u hu=>?_,fun u hu=>?_⟩
 ·simp only[cd0,List.mem_map] at hu;obtain⟨r,_,rfl⟩:=hu;exact wdN_bd r
 ·simp[cd0] at hu;omega
 ·simp[cd0] at hu
 ·simp[cd0] at hu
def en0:ByteArray:=⟨(encB cd0).toArray⟩
theorem en0_head:en0.extract 0 4=⟨#[73,67,49,2]⟩:=by decide +kernel
theorem en0_size:4<en0.size/\en0.size<=1000:=by decide +kernel
theorem sm0_ne:¬smR cd0=0:=by decide +kernel
theorem en0_is:IsE en0.data.toList cd0:=⟨cd0_ok,cd0_right,by simp[en0]⟩
theorem encR0:encR cd0=.tuple #[.string en0,.int .i64 0]:=by simp[encR,cd0_right,en0]
theorem DecOut.yes {s:List UInt8}{w w':World}{z:Ending}{c:Cd}(h:DecOut s w z w')(hc:IsE s c):Below w.heap.size w w'/\∃p,z=.returned (.tuple #[cdV p c,.int .i64 0])/\CdW w' p c/\∃o',(∀ k,k<w.heap.size->o' k=0)/\CdR w' o' p c:=by
 obtain⟨B,⟨p,d,h1,h2,o',h3,h4⟩|⟨_,h2⟩⟩:=h
 ·have e:=h2.uniq hc;subst e;exact⟨B,p,h1,h4.cdw hc.1,o',h3,h4⟩
 ·exact absurd hc (h2 c)
theorem bdt {g:Nat}{a b c:World}(h:Below g a b)(k:Below b.heap.size b c)(hg:g<=b.heap.size):Below g a c:=h.trans (k.mono hg)
abbrev rawA:Array Value:=#[.int .i64 1,.int .i64 0,.int .i64 1,.int .i64 0,.int .i64 0,.int .i64 0]
theorem awake_c (w:World)(hF:Fx w) :
  Calls Tryd.prog 9 #[] w fun e w'=>e=.returned (.bool true)/\Below w.heap.size w w':=by
 obtain⟨g,hg⟩:∃g,g=w.heap.size:=⟨_,rfl⟩
 obtain⟨w2,hw2⟩:∃w2,w2=(w.alloc (.cells rawA 48)).alloc (.cells #[.int .i64 7] 3):=⟨_,rfl⟩
 have B2:Below g w w2:=by rw[hw2,hg];exact((Below.refl _ w).alloc (Nat.le_refl _) _).alloc (by simp) _
 have sz2:w2.heap.size=g+2:=by rw[hw2,hg];simp
 have R2:RawW w2 (some ⟨g,0,none⟩) rw0:=by
  have hh:w2.heap[g]?=some (.cells rawA 48):=by
   rw[hw2,hg];exact(Below.heap_alloc _ _ _ (by simp)).trans (heap_alloc_new _ _)
  refine .inr ⟨g,0,rfl,by omega,fun k hk=>?_⟩;have hk2:k<2:=hk
  match k,hk2 with
  | 0,_=>refine⟨?_,?_,?_⟩<;>(unfold World.cell?;rw[hh];rfl)
  | 1,_=>refine⟨?_,?_,?_⟩<;>(unfold World.cell?;rw[hh];rfl)
 have L2:Lsv w2 (some ⟨g+1,0,none⟩) (isV [7]):=by
  have hh:w2.heap[g+1]?=some (.cells #[.int .i64 7] 3):=by
   have:=heap_alloc_new (w.alloc (.cells rawA 48)) (.cells #[.int .i64 7] 3)
   rw[hw2,hg];simpa using this
  refine .inr ⟨g+1,0,rfl,by omega,fun j x hx=>?_⟩
  match j,hx with
  | 0,hx=>simp[isV] at hx;subst hx;unfold World.cell?;rw[hh];rfl
 have hok:∀ r ∈ rw0,r.Ok:=by
  intro r hr;simp[rw0] at hr;rcases hr with rfl|rfl<;>exact⟨by decide,by decide,by decide,by decide,by decide,by decide⟩
 have HM:=mk_c w2 (some ⟨g,0,none⟩) 2 rw0 (.slice (some ⟨g+1,0,none⟩) 1 1) (.slice none 0 0) (.slice none 0 0) R2 hok (by decide) ⟨_,_,_,rfl⟩ ⟨_,_,_,rfl⟩ ⟨_,_,_,rfl⟩;have e2:rw0.length=2:=rfl;rw[e2] at HM;have HG:=Lib.hid hg;have F2:Fx w2:=hF.below (by rw[<-hg];exact B2);clear hg R2 hok e2 hF;go_enter Tryd.func9,Tryd.ntmps9;go_wp2_with fail;rw[<-hw2,<-HG.out];clear hw2;refine HM.mono ?_;rintro e w3 ⟨aw,cw,rfl,LW,B3⟩;obtain⟨p,hp⟩:∃p:Pl,p=⟨aw,cw,some ⟨g+1,0,none⟩,1,none,0,none,0⟩:=⟨_,rfl⟩
 have C3:CdW w3 p cd0:=by
  rw[hp];exact⟨cd0_ok,LW,L2.below B3,.inl rfl,.inl rfl,by decide,by decide,by decide,by decide⟩
 have F3:=F2.below B3;have BB3:=bdt B2 B3 (by omega);have z3:=B3.size;have hv:(.agg #[.slice aw rw0.length cw,.slice (some ⟨g+1,0,none⟩) 1 1,.slice none 0 0,.slice none 0 0]:Value)=cdV p cd0:=by rw[hp];rfl
 rw[hv];clear HM LW L2 B3 F2 hv hp;obtain⟨w4,hw4⟩:∃w4,w4=w3.alloc (.cells (cdA p cd0) 26):=⟨_,rfl⟩
 obtain⟨g4,hg4⟩:∃g4,g4=w3.heap.size:=⟨_,rfl⟩
 have B4:Below w3.heap.size w3 w4:=by rw[hw4];exact b1 _ _
 have K4:bx4 p cd0 w4 g4:=by rw[hw4,hg4];exact bx4_new p cd0 w3
 have L4:g4<w4.heap.size:=by rw[hw4,hg4];simp
 have C4:=C3.below B4;have F4:=F3.below B4;have BB4:=bdt BB3 B4 (by omega);have z4:=B4.size;have HG4:=Lib.hid hg4;have HE:=encode_c p cd0 w4 F4 C4;rw[encR0] at HE;clear C3 F3 B4 hg4;go_upto_region 2 with fail;rw[<-hw4,<-HG4.out];clear hw4;obtain⟨k0,k1,k2,k3⟩:=K4;have hz:=en0_size;have hz4:=en0_head;have HD:=fun w F=>decode_c en0 w F (by omega);have HIS:=Lib.hid en0_is;obtain⟨ez,hez⟩:∃ez,ez=en0:=⟨_,rfl⟩
 rw[<-hez] at HE hz hz4 HD HIS;clear hez;go_wp2_with fail;refine HE.mono ?_;rintro e w5 ⟨rfl,B5⟩;have K5:=bx4_below ⟨k0,k1,k2,k3⟩ L4 B5;have C5:=C4.below B5;have F5:=F4.below B5;have BB5:=bdt BB4 B5 (by omega);have z5:=B5.size;have L5:=Nat.lt_of_lt_of_le L4 B5.size;have HD5:=HD w5 F5;clear HE B5 C4 F4 k0 k1 k2 k3 HD;go_wp2_with fail;refine HD5.mono ?_;intro e w6 hD;obtain⟨B6,q,rfl,C6q,-⟩:=hD.yes HIS.out;have K6:=bx4_below K5 L5 B6;have C6:=C5.below B6;have F6:=F5.below B6;have BB6:=bdt BB5 B6 (by omega);have z6:=B6.size;have L6:=Nat.lt_of_lt_of_le L5 B6.size;clear HD5 hD B6 C5 F5 K5;obtain⟨w7,hw7⟩:∃w7,w7=w6.alloc (.cells (cdA q cd0) 26):=⟨_,rfl⟩
 obtain⟨g7,hg7⟩:∃g7,g7=w6.heap.size:=⟨_,rfl⟩
 have B7:Below w6.heap.size w6 w7:=by rw[hw7];exact b1 _ _
 have KQ:bx4 q cd0 w7 g7:=by rw[hw7,hg7];exact bx4_new q cd0 w6
 have L7:g7<w7.heap.size:=by rw[hw7,hg7];simp
 have K7:=bx4_below K6 L6 B7;have C7:=C6.below B7;have C7q:=C6q.below B7;have F7:=F6.below B7;have BB7:=bdt BB6 B7 (by omega);have z7:=B7.size;have L7b:=Nat.lt_of_lt_of_le L6 B7.size;have HG7:=Lib.hid hg7;have HS:=same_yes p q cd0 w7 C7 C7q;clear C6 C6q F6 B7 hg7 K6;go_upto_region 4 with fail;rw[<-hw7,<-HG7.out];clear hw7;obtain⟨k0,k1,k2,k3⟩:=K7;obtain⟨j0,j1,j2,j3⟩:=KQ;go_wp2_with fail;refine HS.mono ?_;rintro e w8 ⟨rfl,B8⟩;have K8:=bx4_below ⟨k0,k1,k2,k3⟩ L7b B8;have C8:=C7.below B8;have F8:=F7.below B8;have BB8:=bdt BB7 B8 (by omega);have z8:=B8.size;have L8:=Nat.lt_of_lt_of_le L7b B8.size;have HR:=right_c p cd0 w8 F8 C8;rw[cd0_right] at HR;clear HS B8 C7 C7q F7 k0 k1 k2 k3 j0 j1 j2 j3;obtain⟨k0,k1,k2,k3⟩:=K8;go_wp2_with fail;refine HR.mono ?_;rintro e w9 ⟨rfl,B9⟩;obtain⟨k0',k1',k2',k3'⟩:=bx4_below ⟨k0,k1,k2,k3⟩ L8 B9;have C9:=C8.below B9;have F9:=F8.below B9;have BB9:=bdt BB8 B9 (by omega);have z9:=B9.size;have HM:=sumc_c p cd0 w9 F9 C9;have hsm:=sm0_ne;generalize smR cd0=sm at HM hsm;have h4I:(4:Int)<(ez.size:Int):=by omega
 clear HR B9 C8 F8 k0 k1 k2 k3;go_wp2_with (go_at_call 13;refine HM.mono ?_;rintro e wA ⟨rfl,BA⟩);go_ret;exact⟨by simp[hsm],by rw[<-HG.out];exact bdt BB9 BA (by omega)⟩
theorem rtake_any (s:ByteArray)(w:World)(hs:s.size<=maxLen) :
  Calls Tryd.prog 58 #[.string s] w fun e w'=>e=.returned (tkR (tk s.data.toList 0 0))/\w'=w:=by
 unfold maxLen at hs;go_enter Tryd.func58,Tryd.ntmps58;go_wp2;go_loop [5,6,7] (fun u n i=>∃k acc unit:Nat,k<=s.size/\k<=9/\i=.int .i64 ((k:Int)+1)/\u=.int .u64 acc/\n=.int .u64 unit/\Hid (unit=128 ^ k)/\Hid (acc<128 ^ k)/\Hid (tk (s.data.toList.drop k) k acc=tk s.data.toList 0 0)) (fun _ _ i=>s.size+1-(intOf i).toNat)
 case atStart=>exact⟨0,0,1,Nat.zero_le _,by omega,rfl,rfl,rfl,rfl,show 0<128 ^ 0 by decide,rfl⟩
 case round =>
  obtain⟨k,acc,unit,hk,hk9,rfl,rfl,rfl,HU,HA,HR⟩:=hrel;by_cases hlt:k<s.size
  ·have HD:Hid (s.data.toList.drop k=s[k]::s.data.toList.drop (k+1)):=drop_cons s k hlt;have HB:Hid (s[k].toNat<256):=UInt8.toNat_lt _;go_wp2
   ·have HR':=HR.out;rw[HD.out,tkF _ _ _ _ (by omega) (by omega)] at HR';go_ret3;rw[<-HR'];exact⟨rfl,rfl⟩
   ·have HR':=HR.out;rw[HD.out,tkZ _ _ _ _ (by omega) (by omega)] at HR';go_ret3;rw[<-HR'];exact⟨rfl,rfl⟩
   ·have HR':=HR.out;rw[HD.out,tkE _ _ _ _ (by omega) (by omega) (by omega)] at HR';go_ret3;rw[<-HR'];have hm:s[k].toNat % 128=s[k].toNat:=by omega
    have hd:=rdigit_eq k acc unit s[k].toNat hk9 HU.out HA.out (by omega);rw[hm] at hd;exact⟨ret_take hd (by omega),rfl⟩
   ·have HR':=HR.out;rw[HD.out,tkM _ _ _ _ (by omega) (by omega)] at HR';have hd:=rdigit_eq k acc unit s[k].toNat hk9 HU.out HA.out (by omega);have hu:=runit_eq k unit (by omega) HU.out;have ha:=digit_acc k acc s[k].toNat HA.out
    go_round
    case rel=>exact⟨k+1,acc+s[k].toNat % 128*128 ^ k,128 ^ (k+1),by omega,by omega,by go_num,by rw[hd],by rw[hu],rfl,ha,HR'⟩
    case measure=>simp[intOf];omega
   ·have HR':=HR.out;rw[HD.out,tkZ _ _ _ _ (by omega) (by omega)] at HR';go_ret3;rw[<-HR'];exact⟨rfl,rfl⟩
   ·have HR':=HR.out;rw[HD.out,tkE _ _ _ _ (by omega) (by omega) (by omega)] at HR';go_ret3;rw[<-HR'];have hd:=rdigit_zero k acc hk9 HA.out;have hz:s[k].toNat=0:=by omega
    have e:acc+0*128 ^ k=acc+s[k].toNat*128 ^ k:=by rw[hz]
    rw[e] at hd;exact⟨ret_take hd (by omega),rfl⟩
   ·have HR':=HR.out;rw[HD.out,tkE _ _ _ _ (by omega) (by omega) (by omega)] at HR';go_ret3;rw[<-HR'];have hm:s[k].toNat % 128=s[k].toNat:=by omega
    have hd:=rdigit_eq k acc unit s[k].toNat hk9 HU.out HA.out (by omega);rw[hm] at hd;exact⟨ret_take hd (by omega),rfl⟩
  ·have HR':=HR.out;rw[List.drop_of_length_le (by simp;omega),tk] at HR';have HQ:Hid ((0,0,10)=tk s.data.toList 0 0):=HR';clear HR';go_wp2;go_ret3;rw[<-HQ.out];exact⟨rfl,rfl⟩
def RrW (w:World)(o:Nat->Nat)(rb:Nat)(s:ByteArray)(st:St):Prop :=
 match st with
 | none=>∃a:Nat,a<=s.size/\Blk w o 2 rb (.cells #[.string s,.int .i64 (a:Nat),.bool false] 60)
 | some l=>∃a:Nat,a<=s.size/\l=s.data.toList.drop a/\Blk w o 2 rb (.cells #[.string s,.int .i64 (a:Nat),.bool true] 60)
theorem RrW.step {I:Nat->Prop}{w w':World}{o o':Nat->Nat}{rb:Nat}{s:ByteArray}{st:St}(h:RrW w o rb s st)(x:Step I w o w' o')(h2:¬I 2):RrW w' o' rb s st:=by
 cases st with
 | none=>obtain⟨a,ha,hb⟩:=h;exact⟨a,ha,hb.step x h2⟩
 | some l=>obtain⟨a,ha,hl,hb⟩:=h;exact⟨a,ha,hl,hb.step x h2⟩
theorem cells3r {w:World}{b:Nat}{x y z:Value}{t:TypeId}(h:w.heap[b]?=some (.cells #[x,y,z] t)):w.cell? ⟨b,0,none⟩=some x/\w.cell? ⟨b,1,none⟩=some y/\w.cell? ⟨b,2,none⟩=some z/\w.frozen? ⟨b,1,none⟩=false/\w.frozen? ⟨b,2,none⟩=false:=by
 refine⟨?_,?_,?_,?_,?_⟩<;>simp[World.cell?,World.frozen?,h]
theorem set3b {w:World}{b:Nat}{x y z:Value}{t:TypeId}(h:w.heap[b]?=some (.cells #[x,y,z] t))(v:Value):(w.setCell ⟨b,1,none⟩ v).heap[b]?=some (.cells #[x,v,z] t):=heap_setCell_same w b 1 _ _ _ h
theorem set3c {w:World}{b:Nat}{x y z:Value}{t:TypeId}(h:w.heap[b]?=some (.cells #[x,y,z] t))(v:Value):(w.setCell ⟨b,2,none⟩ v).heap[b]?=some (.cells #[x,y,v] t):=heap_setCell_same w b 2 _ _ _ h
theorem ext_drop (s:ByteArray)(a:Nat):(s.extract a s.size).data.toList=s.data.toList.drop a:=by
 rw[ByteArray.data_extract,Array.toList_extract];have hl:s.data.toList.length=s.size:=Array.length_toList;rw[List.extract_eq_take_drop,List.take_of_length_le];rw[List.length_drop];omega
theorem rnum_c (w:World)(o:Nat->Nat)(rb:Nat)(s:ByteArray)(hs:s.size<=9223372036854775807)(st:St)(h:RrW w o rb s st) :
  Calls Tryd.prog 36 #[.pointer (some ⟨rb,0,none⟩)] w fun e w'=>e=.returned (.int .u64 (val 0 numR st:Nat))/\RrW w' o rb s (nxt numR st)/\Step Ir w o w' o:=by
 cases st with
 | none =>
  obtain⟨a,ha,hb⟩:=h;obtain⟨c0,c1,c2,f1,f2⟩:=cells3r hb.1;have HR:Hid (RrW w o rb s none):=⟨a,ha,hb⟩
  clear hb;go_enter Tryd.func36,Tryd.ntmps36;go_wp2;go_ret;exact⟨rfl,HR.out,Step.refl _ _ _⟩
 | some l =>
  obtain⟨a,ha,hl,hb⟩:=h;obtain⟨c0,c1,c2,f1,f2⟩:=cells3r hb.1;have haI:(a:Int)<=(s.size:Int):=by omega
  have hsz:(s.extract a s.size).size<=maxLen:=by
   have e:(s.extract a s.size).size=(s.extract a s.size).data.toList.length:=by rw[Array.length_toList];rfl
   have hl2:s.data.toList.length=s.size:=Array.length_toList;rw[e,ext_drop,List.length_drop];unfold maxLen;omega
  have HT:=fun w'=>rtake_any (s.extract a s.size) w' hsz;rw[ext_drop,<-hl] at HT;have hll:l.length=s.size-a:=by
   have hl2:s.data.toList.length=s.size:=Array.length_toList;rw[hl,List.length_drop];omega
  by_cases hz:(tk l 0 0).2.2=0
  ·obtain⟨N,K,E⟩:∃N K,tk l 0 0=(N,K,0):=⟨(tk l 0 0).1,(tk l 0 0).2.1,by have e:tk l 0 0=((tk l 0 0).1,(tk l 0 0).2.1,(tk l 0 0).2.2):=rfl;rw[hz] at e;exact e⟩
   obtain⟨_,hk10,hkl,hN,_,_⟩:=tk_back0 l N K E;obtain⟨v1,v2⟩:=num_yes E;rw[v1,v2];have HT2:∀ w',Calls Tryd.prog 58 #[.string (s.extract a s.size)] w' fun e w''=>e=.returned (.tuple #[.int .u64 N,.int .i64 K,.int .i64 0])/\w''=w':=fun w'=>(HT w').mono fun e w'' ⟨g1,g2⟩=>⟨by rw[g1,E];rfl,g2⟩;have HR:Hid (∀ n,RrW ((w.drewN n).setCell ⟨rb,1,none⟩ (.int .i64 ((a:Int)+(K:Int)))) o rb s (some (l.drop K))/\Step Ir w o ((w.drewN n).setCell ⟨rb,1,none⟩ (.int .i64 ((a:Int)+(K:Int)))) o):=fun n=>by
    have eI:(a:Int)+(K:Int)=((a+K:Nat):Int):=by omega
    have hB:=bd_drewN (Below.refl w.heap.size w) n;rw[eI];exact⟨⟨a+K,by omega,by rw[hl,List.drop_drop],set3b ((hB.block rb hb.lt).trans hb.1) _,hb.2⟩,(Step.ofBelow o hB).setCell ⟨rb,1,none⟩ _ hb.2⟩
   have hsum:(a:Int)+(K:Int)<=9223372036854775807:=by omega
   clear v1 v2 HT E hz hb hl hsz;go_enter Tryd.func36,Tryd.ntmps36;go_wp2_with fail
   go_quiet ((go_at_call 58;exact Calls.quiet_of_same (HT2 _)))
   go_wp2;go_ret;exact⟨rfl,HR.out _⟩
  ·obtain⟨F,hF0,E⟩:∃F:Nat,¬F=0/\tk l 0 0=(0,0,F):=by
    rcases tk_err l 0 0 with h1|h1|h1
    ·exact absurd h1 hz
    ·exact⟨10,by omega,h1⟩
    ·exact⟨11,by omega,h1⟩
   obtain⟨v1,v2⟩:=num_no hz;rw[v1,v2];have hFI:¬(F:Int)=0:=by omega
   have HT2:∀ w',Calls Tryd.prog 58 #[.string (s.extract a s.size)] w' fun e w''=>e=.returned (.tuple #[.int .u64 0,.int .i64 0,.int .i64 F])/\w''=w':=fun w'=>(HT w').mono fun e w'' ⟨g1,g2⟩=>⟨by rw[g1,E];rfl,g2⟩;have HR:Hid (∀ n,RrW ((w.drewN n).setCell ⟨rb,2,none⟩ (.bool false)) o rb s none/\Step Ir w o ((w.drewN n).setCell ⟨rb,2,none⟩ (.bool false)) o):=fun n=>by
    have hB:=bd_drewN (Below.refl w.heap.size w) n;exact⟨⟨a,ha,set3c ((hB.block rb hb.lt).trans hb.1) _,hb.2⟩,(Step.ofBelow o hB).setCell ⟨rb,2,none⟩ _ hb.2⟩
   clear v1 v2 HT E hz hb hl hsz;go_enter Tryd.func36,Tryd.ntmps36;go_wp2_with fail
   go_quiet ((go_at_call 58;exact Calls.quiet_of_same (HT2 _)))
   go_wp2;go_ret;exact⟨rfl,HR.out _⟩
theorem RrW.bad {w:World}{o:Nat->Nat}{rb:Nat}{s:ByteArray}{st:St}(h:RrW w o rb s st):∃x y z,Blk w o 2 rb (.cells #[x,y,z] 60)/\RrW (w.setCell ⟨rb,2,none⟩ (.bool false)) o rb s none/\Step Ir w o (w.setCell ⟨rb,2,none⟩ (.bool false)) o:=by
 cases st with
 | none=>obtain⟨a,ha,hb⟩:=h;exact⟨_,_,_,hb,⟨a,ha,set3c hb.1 _,hb.2⟩,(Step.refl Ir w o).setCell ⟨rb,2,none⟩ _ hb.2⟩
 | some l=>obtain⟨a,ha,hl,hb⟩:=h;exact⟨_,_,_,hb,⟨a,ha,set3c hb.1 _,hb.2⟩,(Step.refl Ir w o).setCell ⟨rb,2,none⟩ _ hb.2⟩
theorem rcount_c (m:Nat)(hm:m<=100000)(w:World)(o:Nat->Nat)(rb:Nat)(s:ByteArray)(hs:s.size<=9223372036854775807)(st:St)(h:RrW w o rb s st) :
  Calls Tryd.prog 35 #[.pointer (some ⟨rb,0,none⟩),.int .i64 (m:Nat)] w fun e w'=>e=.returned (.int .i64 (val 0 (cntR m) st:Nat))/\RrW w' o rb s (nxt (cntR m) st)/\Step Ir w o w' o:=by
 have HN:=rnum_c w o rb s hs st h;have hlt:=numR_lt st;clear h;by_cases hle:val 0 numR st<=m
 ·obtain⟨e1,e2⟩:=cnt_val m st hle;rw[e1,e2];generalize val 0 numR st=N at *;generalize nxt numR st=st2 at *;have h1:¬(m:Int)<(N:Int):=by omega
  clear e1 e2;go_enter Tryd.func35,Tryd.ntmps35;go_wp2_with (go_at_call 36;refine HN.mono ?_;rintro e w1 ⟨rfl,R1,S1⟩);go_ret;exact⟨by first|rfl|(simp;omega),R1,S1⟩
 ·obtain⟨e1,e2⟩:=cnt_over m st hle;rw[e1,e2];generalize val 0 numR st=N at *;generalize nxt numR st=st2 at *;have h1:(m:Int)<(N:Int):=by omega
  clear e1 e2;go_enter Tryd.func35,Tryd.ntmps35;go_wp2_with (first|(go_at_call 36;refine HN.mono ?_;rintro e w1 ⟨rfl,R1,S1⟩;obtain⟨x,y,z,hb,R2,S2⟩:=R1.bad;obtain⟨c0,c1,c2,f1,f2⟩:=cells3r hb.1));go_ret;exact⟨rfl,R2,S1.trans S2⟩
end Go.Proofs.YtjjhcbmhdkobkaaDoor

import Derived.Test.YtbjdkekhnajafaaGreatDoorCdQ
import Derived.SizedLaws
import Derived.Stop.LaidErr
import Derived.ShutString
import Derived.Deep.DeepHandedRow
import Derived.Test.YtbjdkekhnajafaaGreatDoorCards
import Derived.Test.YtbjdkekhnajafaaGreatDoorTie
set_option maxRecDepth 100000
set_option maxHeartbeats 8000000
namespace Go.Proofs.YtbjdkekhnajafaaGreatDoor
open Go.ChangeShapes Go.WideShapes Go.ChangeAt Go.RowKit
set_option linter.unusedVariables false
set_option linter.unusedSimpArgs false
def Ydq (e:Ex)(cells:List Int):CdQ:=if bO cells e≠0/\(emA cells e).ws.length<=32768/\(emA cells e).dp<=1024 then ⟨(emA cells e).ws.map wdI,(emA cells e).cs,(emA cells e).ns.map (fun l=>⟨l.toArray⟩),(emA cells e).ks⟩ else ⟨[],[],[],[]⟩
def Rdq (e:Ex)(cells:List Int):Int:=if bO cells e=0 then 140 else if (emA cells e).ws.length<=32768/\(emA cells e).dp<=1024 then 0 else 190
def OutQ (w:World)(Y:CdQ)(R:Int)(z:Ending)(w':World):Prop :=
 Below w.heap.size w w'/\∃p,z=.returned (.tuple #[vY p Y,.int .i64 R])/\jP w' p Y
def OutR (w:World)(Y:CdQ)(R:Int)(z:Ending)(w':World):Prop :=
 Below w.heap.size w w'/\∃p o',z=.returned (.tuple #[vY p Y,.int .i64 R])/\(∀ k,k<w.heap.size->o' k=0)/\qC w' o' p Y
def y8:PlQ:=⟨none,0,none,0,none,0,none,0⟩
theorem ji (w:World)(o:Nat->Nat):qC w o y8 ⟨[],[],[],[]⟩:=⟨Row.nil _ _ _ _ _,Row.nil _ _ _ _ _,Row.nil _ _ _ _ _,Row.nil _ _ _ _ _,by decide,by decide,by decide,by decide⟩
theorem Row.lenq {w:World}{o:Nat->Nat}{i:Nat}{e:TypeId}{size:Nat}{v:Value}{n:Nat}{xs:List Value}(h:Row w o i e size v n xs):n<=9223372036854775807:=by
 by_cases hn:0<n
 ·obtain⟨g,cap,-,-,h1,h2,-⟩:=h.pos hn;unfold maxLen at h2;omega
 ·omega
theorem EmD.outW {w:World}{o:Nat->Nat}{s:Em}{vw vc vn vk:Value}(h:EmD w o s vw vc vn vk):∃p,(#[vw,vc,vn,vk]:Array Value)=f9 p ⟨s.ws.map wdI,s.cs,s.ns.map (fun l=>⟨l.toArray⟩),s.ks⟩/\jP w p ⟨s.ws.map wdI,s.cs,s.ns.map (fun l=>⟨l.toArray⟩),s.ks⟩:=by
 obtain⟨h1,h2,h3,h4⟩:=h;obtain⟨aw,cw,rfl⟩:=h1.form;obtain⟨ac,cc,rfl⟩:=h2.form;obtain⟨an,cn,rfl⟩:=h3.form;obtain⟨ak,ck,rfl⟩:=h4.form;have e1:pH (s.ws.map wdI)=wdW s.ws:=by simp[pH,wdW]
 have e3:pF (s.ns.map (fun l=>(⟨l.toArray⟩:ByteArray)))=esV s.ns:=by simp[pF,esV]
 refine⟨⟨aw,cw,ac,cc,an,cn,ak,ck⟩,by simp[f9],⟨?_,h2.lsvQ,?_,h4.lsvQ,?_,h2.lenq,?_,h4.lenq⟩⟩
 ·rw[e1];exact h1.lsvQ
 ·rw[e3];exact h3.lsvQ
 ·simp;exact h1.lenq
 ·simp;exact h3.lenq
theorem zG.q {w w':World}{e:Ex}{cells:List Int}{z:Ending}(h:zG w e cells z w'):OutQ w (Ydq e cells) (Rdq e cells) z w':=by
 obtain⟨B,h⟩:=h;refine⟨B,?_⟩;unfold Ydq Rdq;rcases h with ⟨hk,rfl⟩|⟨hk,ho,rfl⟩|⟨hk,h1,h2,vw,vc,vn,vk,o',rfl,-,C⟩
 ·rw[if_neg (fun h=>h.1 hk),if_pos hk];obtain⟨a,b,c,d,-,-,-,-⟩:=ji w' (fun _=>0);exact⟨y8,rfl,⟨a.lsvQ,b.lsvQ,c.lsvQ,d.lsvQ,by decide,by decide,by decide,by decide⟩⟩
 ·rw[if_neg (fun h=>by have:=h.2;omega),if_neg hk,if_neg (by omega)];obtain⟨a,b,c,d,-,-,-,-⟩:=ji w' (fun _=>0);exact⟨y8,rfl,⟨a.lsvQ,b.lsvQ,c.lsvQ,d.lsvQ,by decide,by decide,by decide,by decide⟩⟩
 ·rw[if_pos ⟨hk,h1,h2⟩,if_neg hk,if_pos ⟨h1,h2⟩];obtain⟨p,e1,hp⟩:=C.outW;exact⟨p,by rw[e1],hp⟩
theorem nE.q {w w':World}{e:Ex}{cells:List Int}{z:Ending}(h:nE w e cells z w'):OutR w (Ydq e cells) (Rdq e cells) z w':=by
 obtain⟨B,h⟩:=h;refine⟨B,?_⟩;unfold Ydq Rdq;rcases h with ⟨hk,rfl⟩|⟨hk,ho,rfl⟩|⟨hk,h1,h2,hm,vw,vc,vn,vk,o',rfl,ho,C⟩
 ·rw[if_neg (fun h=>h.1 hk),if_pos hk];exact⟨y8,fun _=>0,rfl,fun _ _=>rfl,ji w' _⟩
 ·rw[if_neg (fun h=>by have:=h.2;omega),if_neg hk,if_neg (by omega)];exact⟨y8,fun _=>0,rfl,fun _ _=>rfl,ji w' _⟩
 ·rw[if_pos ⟨hk,h1,h2⟩,if_neg hk,if_pos ⟨h1,h2⟩];have hkl:=(zK cells e).2;obtain⟨hnc,-,-⟩:=jQ hk;obtain⟨c1,-,-,r1,r2,r3,r4⟩:=C;generalize emA cells e=s at *;obtain⟨aw,cw,rfl⟩:=r1.form;obtain⟨ac,cc,rfl⟩:=r2.form;obtain⟨an,cn,rfl⟩:=r3.form;obtain⟨ak,ck,rfl⟩:=r4.form;have e1:pH (s.ws.map wdI)=woV s.ws:=by rw[<-CF c1];simp[pH,wdW]
  have e3:pF (s.ns.map (fun l=>(⟨l.toArray⟩:ByteArray)))=esV s.ns:=by simp[pF,esV]
  unfold Em.mes at hm;obtain⟨oz,hoz⟩:∃oz:Nat->Nat,oz=fun k=>if 2<=o' k/\o' k<=5 then o' k+1 else if o' k=0 then 0 else 9:=⟨_,rfl⟩
  have hz:∀ k i,2<=i->i<=5->o' k=i->oz k=i+1:=fun k i a b c=>by rw[hoz];simp only;rw[if_pos (by omega)];omega
  refine⟨⟨aw,cw,ac,cc,an,cn,ak,ck⟩,oz,by simp[vY,f9],fun k hk=>by rw[hoz];simp only;rw[ho k hk];rfl,⟨?_,?_,?_,?_,by simp;exact h1,by simp only;omega,by simp;omega,by simp only;omega⟩⟩
  ·rw[e1];simpa using r1.labq (fun k hk=>hz k 2 (by omega) (by omega) hk)
  ·exact r2.labq (fun k hk=>hz k 3 (by omega) (by omega) hk)
  ·rw[e3];simpa using r3.labq (fun k hk=>hz k 4 (by omega) (by omega) hk)
  ·exact r4.labq (fun k hk=>hz k 5 (by omega) (by omega) hk)
structure EpI (g:Nat)(w:World)(nw no:Nat)(e:Ex)(ao:Option Addr)(cap:Nat)(ac:Option Addr)(cc:Nat)(cells:List Int)(p:PlQ)(Y:CdQ)(bo co go cgo:Nat)(wr:World):Prop where
 P:wr.heap[g]?=some (.cells #[.int .i64 e.k,.int .i64 e.n,stv e.nm,.slice ao e.kids.len cap,.slice ac cells.length cc] 37)
 V:wr.heap[nw]?=some (.cells (f9 p Y) 42)
 O:wr.heap[no]?=some (.cells #[.int .i64 e.k,.int .i64 e.n,stv e.nm,.slice (some ⟨bo,0,none⟩) e.kids.len co,.slice (some ⟨go,0,none⟩) cells.length cgo] 37)
 S:SnA wr e.kids ao
 I:InA wr (.slice ac cells.length cc) cells
 W:Wd wr
 T:iz wr
 C:jP wr p Y
 So:iJ wr e.kids bo co
 Lo:LnI wr (fun _=>True) (.slice (some ⟨go,0,none⟩) cells.length cgo) cells
 B:Below g w wr
theorem EpI.below {g nw no:Nat}{w:World}{e:Ex}{ao:Option Addr}{cap:Nat}{ac:Option Addr}{cc:Nat}{cells:List Int}{p:PlQ}{Y:CdQ}{bo co go cgo:Nat}{wr w':World}(h:EpI g w nw no e ao cap ac cc cells p Y bo co go cgo wr)(b:Below wr.heap.size wr w'):EpI g w nw no e ao cap ac cc cells p Y bo co go cgo w' :=
 ⟨(b.block _ (lt_of_block h.P)).trans h.P,(b.block _ (lt_of_block h.V)).trans h.V,(b.block _ (lt_of_block h.O)).trans h.O,SnA.below h.S b,h.I.below b,h.W.below b,h.T.below b,h.C.below b,iJ.below h.So b,h.Lo.below b,h.B.trans (b.mono (Nat.le_of_lt (lt_of_block h.P)))⟩
theorem qC.w {w:World}{o:Nat->Nat}{p:PlQ}{c:CdQ}(h:qC w o p c):jP w p c:=⟨h.ws.lsvQ,h.cs.lsvQ,h.ns.lsvQ,h.ks.lsvQ,h.ws.lenq,h.cs.lenq,h.ns.lenq,h.ks.lenq⟩
theorem yT {w:World}{b:Nat}{p:PlQ}{c:CdQ}(h:w.heap[b]?=some (.cells (f9 p c) 42)):pZ p c w b:=(as h).1
theorem mw (e:Ex)(ao:Option Addr)(cap:Nat)(cv:Value)(cells:List Int)(w:World)(hlen:e.kids.len<=maxLen)(hwd:e.kids.wide)(hfit:e.kids.size<=100000000->cu e/\(-9223372036854775808<=e.n/\e.n<=9223372036854775807)/\e.kids.rng)(S:SnA w e.kids ao)(hc:InA w cv cells)(hcl:cells.length<=maxLen)(hW:Wd w)(hT:iz w) :
  Calls Tryz.prog 4 #[plV e ao cap cv] w fun x w'=>x=.returned (.bool true)/\Below w.heap.size w w':=by
 obtain⟨ac,cc,hcv,hx⟩:=hc;have hc:InA w cv cells:=⟨ac,cc,hcv,hx⟩
 subst hcv;clear hx;obtain⟨g,hg⟩:∃g,g=w.heap.size:=⟨_,rfl⟩
 obtain⟨w0,hw0⟩:∃w0,w0=w.alloc (.cells #[.int .i64 e.k,.int .i64 e.n,stv e.nm,.slice ao e.kids.len cap,.slice ac cells.length cc] 37):=⟨_,rfl⟩
 have b0:Below w.heap.size w w0:=by rw[hw0];exact b1 _ _
 have P0:w0.heap[g]?=some (.cells #[.int .i64 e.k,.int .i64 e.n,stv e.nm,.slice ao e.kids.len cap,.slice ac cells.length cc] 37):=by rw[hw0,hg];exact heap_alloc_new _ _
 have L0:g<w0.heap.size:=lt_of_block P0;have B0:Below g w w0:=by rw[hg];exact b0
 have c1:=uu e ao cap 0 _ cells w0 (hc.below b0) hcl hlen hwd (SnA.below S b0);rw[bZ] at c1 ⊢;have HG:=Lib.hid hg;clear hg;obtain⟨p0,p1,p2,p3,p4⟩:=dj P0;go_enter Tryz.func4,Tryz.ntmps4;go_upto_region 1 with fail;rw[<-hw0,<-HG.out];clear hw0;go_wp2_with fail;refine c1.mono ?_;rintro x w1 ⟨rfl,b1'⟩;have P1:=(b1'.block g L0).trans P0;have bb1:=b0.trans (b1'.mono b0.size);have B1:Below g w w1:=B0.trans (b1'.mono (Nat.le_of_lt L0));have L1:=lt_of_block P1;clear c1 p0 p1 p2 p3 p4;cases hh:hvP e cells with
 | true =>
  clear hh;go_wp2;go_ret;exact⟨rfl,by rw[<-HG.out];exact B1⟩
 | false =>
 obtain⟨hcl2,hsz⟩:=Bc hh;obtain⟨hf,hn,hr⟩:=hfit (by omega);clear hh hfit hcl hlen hwd;have c2:=xy w1 (hW.below bb1) (hT.below bb1);go_upto_region 4 with (first|(go_at_call 15;refine c2.mono ?_;rintro x w2 ⟨rfl,b2⟩))
 have P2:=(b2.block g L1).trans P1;have bb2:=bb1.trans (b2.mono bb1.size);have B2:Below g w w2:=B1.trans (b2.mono (Nat.le_of_lt L1));have L2:=lt_of_block P2;have HP:Hid (∀ (ao:Option Addr) (cap:Nat) (cv:Value) (w:World),InA w cv cells->SnA w e.kids ao->Wd w->iz w->Calls Tryz.prog 18 #[plV e ao cap cv] w (OutR w (Ydq e cells) (Rdq e cells))):=fun ao cap cv w h1 h2 h3 h4=>(xr e ao cap cv cells w hf hn hr h3 h4 h1 (by omega) h2).mono fun x w' h=>nE.q h;have c3:=(Bo e ao cap _ cells w2 hf hn hr (hc.below bb2) (by omega) (SnA.below S bb2)).mono fun x w' h=>zG.q h;rw[bZ] at c3;generalize Ydq e cells=Y at *;generalize Rdq e cells=R at *;obtain⟨p0,p1,p2,p3,p4⟩:=dj P2;clear c2 P0 P1 b0 b1' bb1 B0 B1 L0 L1 b2
 -- what the document wants
 go_wp2_with fail;refine c3.mono ?_;rintro x w3 ⟨b3,pw,rfl,C3⟩;have P3:=(b3.block g L2).trans P2;have bb3:=bb2.trans (b3.mono bb2.size);have B3:Below g w w3:=B2.trans (b3.mono (Nat.le_of_lt L2));have L3:=lt_of_block P3;obtain⟨nw,hnw⟩:∃nw,nw=w3.heap.size:=⟨_,rfl⟩
 obtain⟨w4,hw4⟩:∃w4,w4=w3.alloc (.cells (f9 pw Y) 42):=⟨_,rfl⟩
 have b4:Below w3.heap.size w3 w4:=by rw[hw4];exact b1 _ _
 have V4:w4.heap[nw]?=some (.cells (f9 pw Y) 42):=by rw[hw4,hnw];exact heap_alloc_new _ _
 have P4:=(b4.block g L3).trans P3;have bb4:=bb3.trans (b4.mono bb3.size);have B4:Below g w w4:=B3.trans (b4.mono (Nat.le_of_lt L3));have L4:=lt_of_block P4;have C4:=C3.below b4;have HNW:=Lib.hid hnw;clear c3 P2 B2 L2 P3 B3 L3 b3 p0 p1 p2 p3 p4 hnw;go_upto_region 5 with fail;rw[<-hw4,<-HNW.out];clear hw4
 -- the plan,lent
 obtain⟨p0,p1,p2,p3,p4⟩:=dj P4;have c5:=ru e ao cap _ cells w4 hf.len hf.sh (hc.below bb4) (by omega) (SnA.below S bb4);rw[bZ] at c5;go_wp2_with fail;refine c5.mono ?_;rintro x w5 ⟨bo,co,vo,rfl,S5o,L5o,b5⟩;obtain⟨go,cgo,hvo,hx5⟩:=L5o;have L5o:LnI w5 (Nw w4.heap.size) vo cells:=⟨go,cgo,hvo,hx5⟩
 subst hvo;clear hx5;obtain⟨no,hno⟩:∃no,no=w5.heap.size:=⟨_,rfl⟩
 obtain⟨w6,hw6⟩:∃w6,w6=w5.alloc (.cells #[.int .i64 e.k,.int .i64 e.n,stv e.nm,.slice (some ⟨bo,0,none⟩) e.kids.len co,.slice (some ⟨go,0,none⟩) cells.length cgo] 37):=⟨_,rfl⟩
 have b6:Below w5.heap.size w5 w6:=by rw[hw6];exact b1 _ _
 have O6:w6.heap[no]?=some (.cells #[.int .i64 e.k,.int .i64 e.n,stv e.nm,.slice (some ⟨bo,0,none⟩) e.kids.len co,.slice (some ⟨go,0,none⟩) cells.length cgo] 37):=by rw[hw6,hno];exact heap_alloc_new _ _
 have b46:Below w4.heap.size w4 w6:=b5.trans (b6.mono b5.size);have bb6:=bb4.trans (b46.mono bb4.size);have E6:EpI g w nw no e ao cap ac cc cells pw Y bo co go cgo w6:=⟨(b46.block _ L4).trans P4,(b46.block _ (lt_of_block V4)).trans V4,O6,SnA.below S bb6,hc.below bb6,hW.below bb6,hT.below bb6,C4.below b46,iJ.below (S5o.mono (fun _ _ _=>rfl) (Nat.le_refl _) (fun _ _ _=>trivial)) b6,(L5o.mono (fun _ _ _=>rfl) (Nat.le_refl _) (fun _ _ _=>trivial)).below b6,B4.trans (b46.mono (Nat.le_of_lt L4))⟩
 have HNO:=Lib.hid hno;clear c5 hno p0 p1 p2 p3 p4 P4 V4 B4 L4 C4 C3 S5o L5o b5 b6 b46 bb6 bb4 bb3 bb2 b4 O6 hW hT hc S;rw[bZ];go_upto_region 6 with fail;rw[<-hw6,<-HNO.out];clear hw6;go_wp2;go_loopw [7] (fun v wr=>∃(i:Nat),v=.int .i64 (i:Nat)/\i<=2/\EpI g w nw no e ao cap ac cc cells pw Y bo co go cgo wr) (fun v _=>2-(intOf v).toNat)
 case atStart=>exact⟨0,by show _=Value.int .i64 ((0:Nat):Int);rfl,by omega,E6⟩
 case round =>
  clear E6;obtain⟨i,rfl,hi,E1⟩:=hrel;by_cases hlt:i<2
  ·have hltI:(i:Int)<2:=by omega
   obtain⟨q0,q1,q2,q3,q4⟩:=dj E1.O;have c1:=HP.out (some ⟨bo,0,none⟩) co _ wr E1.Lo.inA (Spn.sl E1.So) E1.W E1.T;rw[bZ] at c1;go_wp2_with fail;refine c1.mono ?_;rintro x w2 ⟨b2,pq,o2,rfl,ho2,C2⟩;obtain⟨nq,hnq⟩:∃nq,nq=w2.heap.size:=⟨_,rfl⟩
   obtain⟨w3,hw3⟩:∃w3,w3=w2.alloc (.cells (f9 pq Y) 42):=⟨_,rfl⟩
   have b3:Below w2.heap.size w2 w3:=by rw[hw3];exact b1 _ _
   have Q3:w3.heap[nq]?=some (.cells (f9 pq Y) 42):=by rw[hw3,hnq];exact heap_alloc_new _ _
   have bb:Below wr.heap.size wr w3:=b2.trans (b3.mono b2.size);have E3:=E1.below bb;have C3:=C2.step (aa.ofBelow (I:=fun _=>False) o2 b3) id id id id;have HNQ:=Lib.hid hnq;have HE1:=Lib.hid E1;clear c1 b2 b3 C2 q0 q1 q2 q3 q4 hnq E1;go_upto_region 10 with fail;rw[<-hw3,<-HNQ.out];clear hw3
   -- the same?
   obtain⟨q0,q1,q2,q3⟩:=yT Q3;obtain⟨v0,v1,v2,v3⟩:=yT E3.V;have c4:=u9 pq pw Y w3 C3.w E3.C;go_wp2_with fail;refine c4.mono ?_;rintro x w4 ⟨rfl,b4⟩;have E4:=E3.below b4;have bb4:=bb.trans (b4.mono bb.size);have C4:=C3.step (aa.ofBelow (I:=fun _=>False) o2 b4) id id id id;have Q4:=(b4.block _ (lt_of_block Q3)).trans Q3;clear c4 b4 bb q0 q1 q2 q3 v0 v1 v2 v3 E3 C3 Q3
   -- kept?
   obtain⟨p0,p1,p2,p3,p4⟩:=dj E4.P;obtain⟨t0,t1,t2,t3,t4⟩:=dj E4.O;have c5:=qS e bo co _ ao cap _ cells w4 hf.len hf.sh (by omega) E4.So E4.S E4.Lo E4.I;rw[bZ,bZ] at c5;go_wp2_with fail;refine c5.mono ?_;rintro x w5 ⟨rfl,b5⟩;have bb5:=bb4.trans (b5.mono bb4.size);have C5:=C4.step (aa.ofBelow (I:=fun _=>False) o2 b5) id id id id;have Q5:=(b5.block _ (lt_of_block Q4)).trans Q4;clear c5 b5 bb4 p0 p1 p2 p3 p4 t0 t1 t2 t3 t4 E4 C4 Q4;have hRR:((R:Int) != (R:Int))=false:=by simp
   obtain⟨q0,q1,q2,q3⟩:=yT Q5;have c6:=AY pq Y w5 o2 C5;go_wp2_with fail;refine c6.mono ?_;rintro x w6 ⟨rfl,o6,S6⟩;have b6:Below wr.heap.size wr w6:=bb5.trans ⟨S6.os,S6.tape,S6.output,S6.size,fun k hk=>S6.block k (by have:=bb5.size;omega) (by rw[ho2 k hk];decide)⟩;have E6:=HE1.out.below b6;clear c6 bb5 C5 Q5 q0 q1 q2 q3 S6 b6 HE1 hRR;go_wp2;go_roundw
   case rel=>(try ((repeat apply Exists.intro);refine⟨?_,rfl⟩));exact⟨i+1,by go_num,by omega,E6⟩
   case measure=>simp[intOf];omega
  ·have hltI:¬(i:Int)<2:=by omega
   have HB:=Lib.hid E1.B;clear E1;go_wp2;go_ret;exact⟨rfl,by rw[<-HG.out];exact HB.out⟩
theorem ownK:ownKnob Tryz.prog.godebug=none:=by kernel_rfl
theorem zV:laidOutB Tryz.prog=true:=by kernel_rfl
theorem mC:Tryz.prog.cellsOf 3=1:=by kernel_rfl
theorem xd {a:Int}(h:(Lit.int .i64 a).wf=true):-9223372036854775808<=a/\a<=9223372036854775807:=by
 simpa [Lit.wf,IntKind.min,IntKind.max,IntKind.signed,IntKind.bits] using h
theorem gWd : Tryz.prog.globalNamed "isthmus/lex.words" = some 3 := by kernel_rfl
theorem AF:(Tryz.prog.globals[3]?).map (·.type)=some 270:=by kernel_rfl
theorem zj:Tryz.prog.cellsOf 270=27:=by kernel_rfl
theorem pV:Tryz.prog.cellsOf 9=1:=by kernel_rfl
def sc:List (DataW Unit):=(List.range 27).map fun j=>.lit (.string (wd j).data.toList)
theorem vS:(Rows.laid_isthmus_lex_words:DataW Unit)=.agg sc:=by rfl
theorem qI:a7.toList=(List.range 27).map fun j=>Value.string (wd j):=by rfl
theorem lp {W:World}{fuel:Nat}{cs:List Value}{p:List MemPlace}(h:DataW.trod (fun _=>()) Tryz.prog W 0 (fun _=>true) false fuel 270 cs=some (.agg sc,p)):cs=a7.toList:=by
 obtain⟨xs,m,_,hx,hl,hlen,hf⟩:=DataW.trod_array Tryz.underlying270 h;rw[zj] at hl;simp only[pV,Nat.mul_one] at hf;simp only[Prod.mk.injEq,DataW.agg.injEq] at hx;rw[qI];apply List.ext_getElem?;intro i;by_cases hi:i<27
 ·have hfi:=hf i hi;have hxi:xs[i]?=some xs[i]:=List.getElem?_eq_getElem (by omega);rw[hxi] at hfi;obtain⟨s,h1,h2⟩:=DataW.trod_string Tryz.underlying9 hfi;have hc:cs[i]?=some (.string s):=by
   have:=congrArg (·[0]?) h1
   simpa [List.getElem?_take,List.getElem?_drop] using this
  have hd:(xs.map (·.1))[i]?=some (.lit (.string s.data.toList)):=by rw[List.getElem?_map,hxi,h2.1];rfl
  rw[<-hx.1] at hd;unfold sc at hd;rw[List.getElem?_map,List.getElem?_range hi] at hd;simp only[Option.map_some,Option.some.injEq,DataW.lit.injEq,Lit.string.injEq] at hd;have hs:=mv.1 hd;rw[hc,List.getElem?_map,List.getElem?_range hi,<-hs];rfl
 ·rw[List.getElem?_eq_none (by omega),List.getElem?_eq_none (by simp;omega)]
theorem rh {W : World} {r : List (String × DataW Unit)} (h : laidMet Tryz.prog (("isthmus/lex.words", Rows.laid_isthmus_lex_words) :: r) W) : Wd W := by
 rw[vS] at h;obtain⟨ps,⟨g',t',cs,fuel,p,q,hg',ht',hvar,hd,_,_⟩,_⟩:=h;obtain rfl:=Option.some.inj (gWd.symm.trans hg');obtain rfl:=Option.some.inj (AF.symm.trans ht');have hcs:=lp hd;have hcs':cs=a7:=Array.toList_inj.1 hcs;subst hcs';simp only[World.var?,gWd,Option.bind_some] at hvar;split at hvar
 ·rename_i c t fr hh
  cases hvar;exact⟨t,fr,hh⟩
 ·cases hvar
def mt (cs:Array Value):Obj->Obj
 | .cells _ t frozen=>.cells cs t frozen
 | o=>o
def lowB (P:Program):Nat:=(World.holding P default ⟨#[],#[],[]⟩).heap.size
theorem gO {W:World}{m:Nat}{l:List Value}{a b:Int}{p:List MemPlace}
  (h:DataW.trod (fun _=>()) Tryz.prog W 0 (fun _=>true) false m 263 l=some (.agg [.lit (.int .u64 a),.lit (.int .u64 b)],p)):l=[.int .u64 a,.int .u64 b]:=by
 obtain⟨y0,y1,n,hx,hl,h0,h1⟩:=trod_struct2 Tryz.underlying263 h;simp only[Prod.mk.injEq,DataW.agg.injEq,List.cons.injEq,and_true] at hx;obtain⟨⟨e0,e1⟩,_⟩:=hx;obtain⟨z0,c0,r0,_⟩:=DataW.trod_int Tryz.underlying202 h0;obtain⟨z1,c1,r1,_⟩:=DataW.trod_int Tryz.underlying54 h1;subst r0 r1;simp only[DataW.lit.injEq,Lit.int.injEq,true_and] at e0 e1;subst e0 e1;rw[lh] at hl;simp only[uI,pT] at c0 c1
 match l,hl with
 | [v0,v1],_ =>
  simp at c0 c1;rw[c0,c1]
theorem oc {W : World} {r : List (String × DataW Unit)} (h : laidMet Tryz.prog (("isthmus/pack.fields", Rows.laid_isthmus_pack_fields) :: r) W) : Tab W := by
 obtain⟨ps,⟨g',t',cs,fuel,p,q,hg',ht',hvar,hd,_,_⟩,_⟩:=h;obtain rfl:=Option.some.inj (gTab.symm.trans hg');obtain rfl:=Option.some.inj (wL.symm.trans ht');obtain⟨xs,m,_,hx,hl,hlen,hf⟩:=DataW.trod_array Tryz.underlying264 hd;rw[yN] at hl;simp only[lh] at hf
 match xs,hlen with
 | [x0,x1,x2],_ =>
  have f0:=hf 0 (by omega);have f1:=hf 1 (by omega);have f2:=hf 2 (by omega);simp only[Rows.laid_isthmus_pack_fields,List.map_cons,List.map_nil,Prod.mk.injEq,DataW.agg.injEq,List.cons.injEq,and_true] at hx;obtain⟨⟨e0,e1,e2⟩,_⟩:=hx;obtain⟨d0,p0⟩:=x0;obtain⟨d1,p1⟩:=x1;obtain⟨d2,p2⟩:=x2;simp only at e0 e1 e2;subst e0 e1 e2;have g0:=gO f0;have g1:=gO f1;have g2:=gO f2;obtain⟨l⟩:=cs
  match l,hl with
  | [v0,v1,v2,v3,v4,v5],_ =>
   simp at g0 g1 g2;obtain⟨rfl,rfl⟩:=g0;obtain⟨rfl,rfl⟩:=g1;obtain⟨rfl,rfl⟩:=g2;have hc:=fun i=>World.var?_cell gTab hvar i;have c0:=hc 0;have c1:=hc 1;have c2:=hc 2;have c3:=hc 3;have c4:=hc 4;have c5:=hc 5;simp at c0 c1 c2 c3 c4 c5;refine⟨c0,c1,c2,c3,c4,c5,?_⟩;by_cases hs:2<W.heap.size
   ·exact hs
   ·exfalso
    have:W.heap[2]?=none:=Array.getElem?_eq_none (by omega)
    simp[World.cell?,this] at c0
theorem gBar : Tryz.prog.globalNamed "isthmus/emit.bare" = some 0 := by kernel_rfl
theorem yH:(Tryz.prog.globals[0]?).map (·.type)=some 208:=by kernel_rfl
theorem xZ:Tryz.prog.cellsOf 208=25:=by kernel_rfl
def Ao:List Int:=[0,0,0,0,0,0,4,5,6,7,8,9,10,0,0,0,0,0,0,0,0,0,20,0,22]
def barD:List (DataW Unit):=(List.range 25).map fun j=>.lit (.int .i64 (Ao.getD j 0))
theorem zT:(Rows.laid_isthmus_emit_bare:DataW Unit)=.agg barD:=by rfl
theorem kt {W : World} {r : List (String × DataW Unit)} (h : laidMet Tryz.prog (("isthmus/emit.bare", Rows.laid_isthmus_emit_bare) :: r) W) : (∀ k : Nat, k < 25 → W.cell? ⟨0, k, none⟩ = some (.int .i64 (Ao.getD k 0))) ∧ 0 < W.heap.size := by
 rw[zT] at h;obtain⟨ps,⟨g',t',cs,fuel,p,q,hg',ht',hvar,hd,_,_⟩,_⟩:=h;obtain rfl:=Option.some.inj (gBar.symm.trans hg');obtain rfl:=Option.some.inj (yH.symm.trans ht');obtain⟨xs,m,_,hx,hl,hlen,hf⟩:=DataW.trod_array Tryz.underlying208 hd;rw[xZ] at hl;simp only[mC,Nat.mul_one] at hf;simp only[Prod.mk.injEq,DataW.agg.injEq] at hx;have hc:=fun i=>World.var?_cell gBar hvar i;have key:∀ o,o<25->cs[o]?=some (.int .i64 (Ao.getD o 0)):=fun o ho=>by
  have hfi:=hf o ho;have hxi:xs[o]?=some xs[o]:=List.getElem?_eq_getElem (by omega);rw[hxi] at hfi;obtain⟨z,c0,r0,_⟩:=DataW.trod_int Tryz.underlying3 hfi;have hd:(xs.map (·.1))[o]?=some (.lit (.int .i64 z)):=by rw[List.getElem?_map,hxi,r0];rfl
  rw[<-hx.1] at hd;unfold barD at hd;rw[List.getElem?_map,List.getElem?_range ho] at hd;simp only[Option.map_some,Option.some.injEq,DataW.lit.injEq,Lit.int.injEq,true_and] at hd;have h0:((cs.toList.drop o).take 1)[0]?=some (.int .i64 z):=by rw[c0];rfl
  simp only[List.getElem?_take,List.getElem?_drop] at h0;rw[hd];simpa using h0
 refine⟨fun o ho=>(hc o).trans (key o ho),?_⟩;by_cases hs:0<W.heap.size
 ·exact hs
 ·exfalso;have h0:=(hc 0).trans (key 0 (by omega))
  have:W.heap[0]?=none:=Array.getElem?_eq_none (by omega)
  simp[World.cell?,this] at h0
theorem mL {W : World} (h : laidMet Tryz.prog [("isthmus/pack.fields", Rows.laid_isthmus_pack_fields), ("isthmus/lex.words", Rows.laid_isthmus_lex_words), ("isthmus/emit.bare", Rows.laid_isthmus_emit_bare)] W) : iz W := ⟨oc h, (kt h.tail.tail).1, (kt h.tail.tail).2⟩
def DT:Array Value:=((List.range 25).map fun j=>Value.int .i64 (Ao.getD j 0)).toArray
def iM (P:Program)(os:Os):World :=
 let w0:=World.holding P os ⟨#[],#[],[]⟩
 { w0 with heap:=((w0.heap.modify 2 (mt #[.int .u64 56,.int .u64 255,.int .u64 28,.int .u64 268435455,.int .u64 0,.int .u64 268435455])).modify 3 (mt a7)).modify 0 (mt DT) }
theorem tO {s:ByteArray}{a:List UInt8}(h:s.data.toList=a):Value.string s=stv a:=by
 subst h;rfl
def rawP (n:Int)(nm:List UInt8)(a:Int)(len:Nat):Prop:=-9223372036854775808<=n/\n<=9223372036854775807/\nm.length<=maxLen/\-9223372036854775808<=a/\a<=9223372036854775807/\len<=maxLen
def Fs.raw:Fs->Prop
 | ⟨none⟩=>True
 | ⟨some ⟨_,n,nm,a,ks,r⟩⟩=>rawP n nm a ks.len/\ks.raw/\r.raw
def Ex.raw (e:Ex):Prop:=rawP e.n e.nm e.a e.kids.len/\e.kids.raw
theorem Fs.raw_wide:∀ {f:Fs},f.raw->f.wide
 | ⟨none⟩,h=>trivial
 | ⟨some ⟨k,n,nm,a,ks,r⟩⟩,h=>⟨h.1.2.2.2.2.2,Fs.raw_wide (f:=ks) h.2.1,Fs.raw_wide (f:=r) h.2.2⟩
theorem Fs.len_size':∀ (x:Fs),x.len<=x.size
 | ⟨none⟩=>Nat.le_refl _
 | ⟨some ⟨k,n,nm,a,ks,r⟩⟩=>by have:=Fs.len_size' r;show r.len+1<=ks.size+r.size+1;omega
theorem Fs.raw_fit:∀ {f:Fs},f.raw->f.size<=100000000->f.short/\f.rng
 | ⟨none⟩,h,hs=>⟨trivial,trivial⟩
 | ⟨some ⟨k,n,nm,a,ks,r⟩⟩,h,hs=>by
  have hs:ks.size+r.size+1<=100000000:=hs;have h1:=Fs.raw_fit (f:=ks) h.2.1 (by omega);have h2:=Fs.raw_fit (f:=r) h.2.2 (by omega)
  have:=Fs.len_size' ks
  exact⟨⟨h.1.2.2.1,by omega,h1.1,h2.1⟩,⟨h.1.1,h.1.2.1,h1.2,h2.2⟩⟩
theorem Ex.raw_fit {e:Ex}(h:e.raw)(hs:e.kids.size<=100000000):e.fit:=by
 obtain⟨h1,h2⟩:=Fs.raw_fit h.2 hs
 have:=Fs.len_size' e.kids
 exact⟨h.1.2.2.1,h1,by omega,h.1.1,h.1.2.1,h2⟩
theorem iN (b off j:Nat):(⟨b,off,none⟩:Addr).add j=⟨b,off+j,none⟩:=by
 unfold Addr.add;split
 ·subst j;simp_all
 ·rfl
theorem jw:Tryz.prog.cellsOf 34=4:=by kernel_rfl
theorem Ad:Tryz.prog.cellsOf 32=1:=by kernel_rfl
theorem AP:Tryz.prog.cellsOf 35=1:=by kernel_rfl
theorem Bl:Tryz.prog.cellsOf 37=5:=by kernel_rfl
theorem vM {H:Type}{enc:TypeId × Value->H}{W:World}{sp:Nat->Bool}{held:Bool}:∀ (fuel:Nat) (cs:List Value) (x:DataW H × List MemPlace),DataW.trod enc Tryz.prog W 0 sp held fuel 34 cs=some x->(∀ q ∈ x.2,q.block<W.heap.size) ->
  ∃(e:Ex) (ao:Option Addr) (cap:Nat),cs=[.int .i64 e.k,.int .i64 e.n,stv e.nm,.slice ao e.kids.len cap]/\SnA W e.kids ao/\e.raw:=by
 intro fuel
 induction fuel using Nat.strongRecOn with
 | _ fuel IH =>
 intro cs x h hlt;obtain⟨xs,k,hk,hxy,hl,hxl,hff⟩:=DataW.trod_struct Tryz.underlying34 h;rw[jw] at hl
 match xs,hxl,cs,hl with
 | [y0,y1,y2,y3],_,[u0,u1,u2,u3],_ =>
  have g0:=hff 0 _ rfl;have g1:=hff 1 _ rfl;have g2:=hff 2 _ rfl;have g3:=hff 3 _ rfl;simp[mC,pV,Ad] at g0 g1 g2 g3;obtain⟨z0,e0,x0,w0⟩:=DataW.trod_int Tryz.underlying3 g0;obtain⟨z1,e1,x1,w1⟩:=DataW.trod_int Tryz.underlying3 g1;obtain⟨z2,e2,x2,w2⟩:=DataW.trod_string Tryz.underlying9 g2;simp at e0 e1 e2;have b1:=xd w1;have hz2:(z2.data.toList).length<=maxLen:=by rw[bR];exact w2
  have hlt3:∀ q ∈ y3.2,q.block<W.heap.size:=fun q hq=>hlt q (by rw[hxy];simp[hq]);rcases DataW.trod_slice Tryz.underlying32 g3 with ⟨hs,_⟩|⟨a,len,cap,elems,rest,n,hn,hs,hx3,_,hlc,hcm,hel,hE,_,_⟩
  ·simp at hs;refine⟨⟨z0,z1,z2.data.toList,0,.nil⟩,none,0,?_,.inl rfl,⟨b1.1,b1.2,hz2,by show -9223372036854775808<=(0:Int);decide,by show (0:Int)<=9223372036854775807;decide,by show 0<=_;omega⟩,trivial⟩;rw[e0,e1,e2,hs,tO rfl];rfl
  ·simp at hs;obtain⟨b,off,spot⟩:=a;have each:∀ i,i<len->∃(e:Ex) (ak:Option Addr) (ck:Nat),spot=none/\b<W.heap.size/\(∀ j u,([.int .i64 e.k,.int .i64 e.n,stv e.nm,.slice ak e.kids.len ck]:List Value)[j]?=some u->W.cell? ⟨b,off+i*4+j,none⟩=some u)/\SnA W e.kids ak/\e.raw:=by
    intro i hi;have hEi:=hE i hi;rw[List.getElem?_eq_getElem (by omega),jw] at hEi;obtain⟨cs',h1,h2⟩:=Option.bind_eq_some_iff.1 hEi;obtain⟨_,hlen,hcell⟩:=World.cells?_some h1;have hsub:∀ q ∈ (elems[i]'(by omega)).2,q.block<W.heap.size:=fun q hq=>hlt3 q (by
     rw[hx3];simp only[List.mem_append,List.mem_flatMap];exact .inr ⟨_,.inl (List.getElem_mem _),hq⟩)
    obtain⟨e,ak,ck,hcs,SK,hr⟩:=IH n (by omega) cs' _ h2 hsub;have hspot:spot=none:=by
     have hE0:=hE 0 (by omega);rw[List.getElem?_eq_getElem (by omega),jw] at hE0;obtain⟨cs0,k1,k2⟩:=Option.bind_eq_some_iff.1 hE0;obtain⟨_,klen,kcell⟩:=World.cells?_some k1;have k3:=kcell 0 (by omega);rw[List.getElem?_eq_getElem (by omega)] at k3;simpa [Addr.add] using World.cell?_spot k3
    subst hspot;have hbl:b<W.heap.size:=hlt3 (.cell b off) (by
     rw[hx3];exact List.mem_append_left _ (MemPlace.mem_row.2 ⟨0,by rw[jw];omega,by simp⟩))
    refine⟨e,ak,ck,rfl,hbl,fun j u hu=>?_,SK,hr⟩;rw[<-hcs] at hu;have hj:j<4:=by
     by_cases hj:j<4
     ·exact hj
     ·rw[List.getElem?_eq_none (by omega)] at hu;cases hu
    have:=hcell j hj
    rw[iN,iN,hu] at this;exact this
   have build:∀ m,m<=len->∃f:Fs,f.len=m/\f.raw/\(m=0\/spot=none/\b<W.heap.size)/\∃zs,(∀ j u,zs[j]?=some u->W.cell? ⟨b,off+(len-m)*4+j,none⟩=some u)/\FcN W (fun _=>True) f zs:=by
    intro m
    induction m with
    | zero=>intro _;exact⟨.nil,rfl,trivial,.inl rfl,[],fun j u hu=>by simp at hu,rfl⟩
    | succ m ih =>
     intro hm;obtain⟨f,f1,f2,_,zs,f3,f4⟩:=ih (by omega);obtain⟨e,ak,ck,s1,s2,s3,s4,s5⟩:=each (len-(m+1)) (by omega);refine⟨.cons e.k e.n e.nm e.a e.kids f,by show f.len+1=_;rw[f1],⟨s5.1,s5.2,f2⟩,.inr ⟨s1,s2⟩,.int .i64 e.k::.int .i64 e.n::stv e.nm::.slice ak e.kids.len ck::zs,fun j u hu=>?_,ak,ck,zs,rfl,s4,f4⟩;by_cases hj:j<4
     ·refine s3 j u ?_;rw[<-hu]
      match j,hj with
      | 0,_=>rfl
      | 1,_=>rfl
      | 2,_=>rfl
      | 3,_=>rfl
     ·obtain⟨i,rfl⟩:∃i,j=i+4:=⟨j-4,by omega⟩
      have:=f3 i u (by simpa using hu)
      rw[show off+(len-(m+1))*4+(i+4)=off+(len-m)*4+i by
       have:len-m=len-(m+1)+1:=by omega
       rw[this];omega]
      exact this
   obtain⟨f,f1,f2,f5,zs,f3,f4⟩:=build len (Nat.le_refl _);have hcm':len<=maxLen:=Nat.le_trans hlc hcm;refine⟨⟨z0,z1,z2.data.toList,0,f⟩,some ⟨b,off,spot⟩,cap,?_,?_,⟨b1.1,b1.2,hz2,by show -9223372036854775808<=(0:Int);decide,by show (0:Int)<=9223372036854775807;decide,by show f.len<=_;rw[f1];exact hcm'⟩,f2⟩
   ·show _=[Value.int .i64 z0,.int .i64 z1,stv z2.data.toList,.slice (some ⟨b,off,spot⟩) f.len cap];rw[e0,e1,e2,hs,tO rfl,f1]
   ·rcases f5 with h0|⟨rfl,hb⟩
    ·refine .inl ?_;rw[h0] at f1;cases f using Fs.on with
     | nil=>rfl
     | cons k n nm a ks r=>cases f1
    ·refine .inr ⟨b,off,zs,rfl,trivial,hb,fun j u hu=>?_,f4⟩
     have:=f3 j u hu
     rw[Nat.sub_self,Nat.zero_mul,Nat.add_zero] at this;exact this
def AT (cells:List Int):Prop:=cells.length<=maxLen/\∀ c,c ∈ cells->-9223372036854775808<=c/\c<=9223372036854775807
theorem uo {H:Type}{enc:TypeId × Value->H}{W:World}{v:Value}{d:DataW H}{ps:List MemPlace}(h:DataW.Trod enc Tryz.prog W 0 (fun _=>true) true 37 v d ps)(hlt:∀ q ∈ ps,q.block<W.heap.size) :
  ∃(e:Ex) (ao:Option Addr) (cap:Nat) (cv:Value) (cells:List Int),v=plV e ao cap cv/\SnA W e.kids ao/\e.raw/\InA W cv cells/\AT cells:=by
 obtain⟨fuel,hf⟩:=h;obtain⟨xs,k,hk,hxy,hl,hxl,hff⟩:=DataW.trod_struct Tryz.underlying37 hf;rw[Bl] at hl;obtain⟨cs,hcs⟩:∃cs,cs=v.cells.toList:=⟨_,rfl⟩
 rw[<-hcs] at hl hff
 match xs,hxl,cs,hl with
 | [y0,y1],_,[u0,u1,u2,u3,u4],_ =>
  have g0:=hff 0 _ rfl;have g1:=hff 1 _ rfl;simp[jw,AP] at g0 g1;have hp0:∀ q ∈ y0.2,q.block<W.heap.size:=fun q hq=>hlt q (by
   have h2:ps=[y0,y1].flatMap (·.2):=congrArg Prod.snd hxy;rw[h2];simp[hq])
  have hp1:∀ q ∈ y1.2,q.block<W.heap.size:=fun q hq=>hlt q (by
   have h2:ps=[y0,y1].flatMap (·.2):=congrArg Prod.snd hxy;rw[h2];simp[hq])
  obtain⟨e,ao,cap,hc4,S,R⟩:=vM _ _ _ g0 hp0;obtain⟨cv,cells,hcv,IN,RI⟩:∃(cv:Value) (cells:List Int),u4=cv/\InA W cv cells/\AT cells:=by
   rcases open_ints Tryz.underlying35 Tryz.underlying3 mC g1 with ⟨hcs,hx⟩|⟨a,len',cap',zs,hcs,_,hl,hm,hz,hx,hcell,hwz⟩
   ·simp at hcs;exact⟨_,[],hcs,⟨none,0,rfl,.inl rfl⟩,by simp[AT]⟩
   ·simp at hcs;simp only[if_true] at hz;refine⟨_,zs.take len',hcs,?_,by simp[AT];exact⟨by omega,fun c hc=>by have:=xd (hwz c (List.mem_of_mem_take hc));omega⟩⟩;obtain⟨b,off,spot⟩:=a;refine⟨some ⟨b,off,spot⟩,cap',by simp;omega,?_⟩;by_cases h0:len'=0
    ·exact .inl (by simp[h0])
    ·refine .inr ?_;have hspot:spot=none:=by simpa [Addr.add] using World.cell?_spot (hcell 0 (by omega))
     subst hspot;have hbW:b<W.heap.size:=hp1 (.cell b off) (by
      rw[hx];exact MemPlace.mem_row.2 ⟨0,by omega,by simp⟩)
     refine⟨b,off,rfl,trivial,hbW,fun j x hj=>?_⟩;rw[List.getElem?_take] at hj;split at hj
     ·rename_i hjl
      have h3:=hcell j (by omega);rw[iN,List.getD_eq_getElem?_getD,hj] at h3;exact h3
     ·cases hj
  refine⟨e,ao,cap,cv,cells,?_,S,R,IN,RI⟩;subst hcv;have hcs':v.cells=#[.int .i64 e.k,.int .i64 e.n,stv e.nm,.slice ao e.kids.len cap,u4]:=by
   apply Array.toList_inj.1;rw[<-hcs];simp at hc4;obtain⟨rfl,rfl,rfl,rfl⟩:=hc4;rfl
  cases v with
  | agg cs=>rw[show (Value.agg cs).cells=cs from rfl] at hcs';rw[hcs'];rfl
  | _=>have h5:=congrArg Array.size hcs';simp[Value.cells] at h5
end Go.Proofs.YtbjdkekhnajafaaGreatDoor
namespace Go.Proofs.YtbjdkekhnajafaaGreatDoor.emitPlans
open Go.ChangeShapes Go.WideShapes Go.ChangeAt Go.RowKit
open Go.ChangeMaps (open_string shut_string)
set_option linter.unusedVariables false
theorem contract (H:Type)(enc:TypeId × Value->H)(W:World)(base:Nat)(args:Array Value)(ds gs:List (DataW H))(before:List MemPlace)
  (hval:∀ (j:Nat) t v,Tryz.f4.params[j]?=some t->args[j]?=some v->Value.okWide Tryz.prog W .any base t v)
  (hW:DataW.Whole enc Tryz.prog Tryz.f4.params.toList Rows.emitPlansSpec.vars false W args.toList ds gs before)
  (hsz:(DataW.weightsEach Tryz.prog (Tryz.f4.params.toList++(OpenSpec.ofChange Rows.emitPlansSpec).bare.plain.varTypes Tryz.prog) (ds++gs)).all (·<=reachBytes)=true) (hL:laidMetH Tryz.prog Rows.emitPlansRow.laid W) :
  Calls Tryz.prog 4 args W fun e W'=>∃v,e=.returned v/\Rows.emitPlansSpec.post enc Tryz.prog Tryz.f4 false true false false W args v W':=by
 have hW':=hW;obtain⟨p,q,hA0,hV,rfl,hfz,hnd⟩:=hW;have hA:DataW.TrodAll enc Tryz.prog W 0 (fun _=>true) true Tryz.f4.params.toList args.toList ds p:=hA0;rw[Tryz.params4] at hA hval hsz;obtain⟨v0,vs0,d0,ds0,p0,q0,hargs,rfl,rfl,h0,r0⟩:=trodAll_cons hA;obtain⟨rfl,rfl,rfl⟩:=trodAll_nil r0;obtain rfl:args=#[v0]:=by cases args;simp_all
 obtain⟨rfl,rfl⟩:=trodVars_none hV;clear hA0;simp only[List.append_nil] at hW';have hlt0:∀ x ∈ p0,x.block<W.heap.size:=fun x hx=>by simpa using hW'.lt x (by simp[hx])
 obtain⟨e0,ao0,cap0,cv0,cells0,rfl,SX0,RX0,IC0,RI0⟩:=uo h0 hlt0;refine(mw e0 ao0 cap0 cv0 cells0   W RX0.1.2.2.2.2.2 (Fs.raw_wide RX0.2) (fun h=>⟨⟨(Ex.raw_fit RX0 h).nm,(Ex.raw_fit RX0 h).len,(Ex.raw_fit RX0 h).sh⟩,⟨(Ex.raw_fit RX0 h).n1,(Ex.raw_fit RX0 h).n2⟩,(Ex.raw_fit RX0 h).rng⟩) SX0 IC0 RI0.1  (rh hL.tail) (mL hL)).mono fun e W' ⟨he,hnx⟩=>?_;subst he;exact⟨_,rfl,_,_,_,[],(p0++[]),[],hW',trodAll_cons_mk (shut_bool Tryz.underlying4 _) trodAll_mk0,(trodAll_cons_mk (Below.trod zV (by kernel_rfl) (of_decide_eq_true (by kernel_rfl)) h0 hnx hlt0) trodAll_mk0),rfl,hnx.frame _,fun h=>by cases h⟩
theorem laid_met (os:Os):laidMet Tryz.prog Rows.emitPlansRow.laid ((iM Tryz.prog os).forCall (fun _ _=>0) ⟨#[],#[.agg #[.int .i64 0,.int .i64 0,.string ByteArray.empty,.slice none 0 0,.slice none 0 0]],[]⟩).memory :=
 laidMet_of_run' 8 (by kernel_rfl) (by kernel_rfl)
theorem reads (os:Os){H:Type}(enc:TypeId × Value->H):∃places,DataW.whole enc Tryz.prog ((iM Tryz.prog os).forCall (fun _ _=>0) ⟨#[],#[.agg #[.int .i64 0,.int .i64 0,.string ByteArray.empty,.slice none 0 0,.slice none 0 0]],[]⟩).memory Tryz.f4.params.toList Rows.emitPlansSpec.vars false (#[.agg #[.int .i64 0,.int .i64 0,.string ByteArray.empty,.slice none 0 0,.slice none 0 0]]:Array Value).toList 8=some ([.agg [.agg [.lit (.int .i64 0),.lit (.int .i64 0),.lit (.string []),.nil],.nil]],[],places) :=
 ⟨[],by kernel_rfl⟩
theorem lifted (os:Os)(started:os.Started)(H:Type)(enc:TypeId × Value->H)(F:Stop.Interp) :
  ReturnsInHanded {} Tryz.checked os 4 .any ((OpenSpec.ofChange Rows.emitPlansSpec).preRow enc Tryz.prog Tryz.f4 Rows.emitPlansRow.domain false Rows.emitPlansRow.laid) (((OpenSpec.ofChange Rows.emitPlansSpec).at F).post enc Tryz.prog Tryz.f4 false true false false):=by
 obtain⟨places,hx⟩:=reads os enc;refine returnsInHanded_of_row (C:=Tryz.checked) (s:=OpenSpec.ofChange Rows.emitPlansSpec) ownK started (by kernel_rfl) Tryz.func4
  (witness_row_at (enc:=enc) (C:=Tryz.checked) false (iM Tryz.prog os) #[.agg #[.int .i64 0,.int .i64 0,.string ByteArray.empty,.slice none 0 0,.slice none 0 0]] rfl (by kernel_rfl) (by kernel_rfl) (by kernel_rfl)
   (OpenSpec.preRow_of_cond 8 hx (by kernel_rfl) (fun k hk=>by cases hk) (by kernel_rfl) (laid_met os))) ?_
 intro W base args ds gs before hval hW _ _ hsz hL _ _;exact contract H enc W base args ds gs before hval hW hsz hL
theorem facts:joinedFacts Tryz.pinned.checked.prog 4 Tryz.f4 (OpenSpec.ofChange Rows.emitPlansSpec).bare Rows.emitPlansRow=true:=by
 unfold joinedFacts;simp only[Bool.and_eq_true]
 repeat' apply And.intro
 all_goals (as_aux_lemma=>kernel_rfl)
end Go.Proofs.YtbjdkekhnajafaaGreatDoor.emitPlans

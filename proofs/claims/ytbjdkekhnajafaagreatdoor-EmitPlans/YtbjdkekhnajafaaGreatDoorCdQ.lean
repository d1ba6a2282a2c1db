import Derived.Test.YtbjdkekhnajafaaGreatDoorNodK
set_option maxRecDepth 100000
set_option maxHeartbeats 8000000
namespace Go.Proofs.YtbjdkekhnajafaaGreatDoor
open Go.ChangeShapes Go.WideShapes Go.ChangeAt Go.RowKit
set_option linter.unusedVariables false
set_option linter.unusedSimpArgs false
def LnI (w:World)(P:Nat->Prop)(v:Value)(cells:List Int):Prop :=
 ∃g c,v=.slice (some ⟨g,0,none⟩) cells.length c/\P g/\g<w.heap.size/\cells.length+1<=c/\c<=maxLen/\(∀ j x,cells[j]?=some x->w.cell? ⟨g,j,none⟩=some (.int .i64 x))/\w.cell? ⟨g,cells.length,none⟩=some (.int .i64 (-7))
theorem LnI.mono {w w':World}{P Q:Nat->Prop}{v:Value}{xs:List Int}(hb:∀ k,P k->k<w.heap.size->w'.heap[k]?=w.heap[k]?)(hs:w.heap.size<=w'.heap.size)(hq:∀ k,P k->k<w.heap.size->Q k)(h:LnI w P v xs):LnI w' Q v xs:=by
 obtain⟨g,c,rfl,hp,hlt,h1,h2,h3,h4⟩:=h;exact⟨g,c,rfl,hq g hp hlt,Nat.lt_of_lt_of_le hlt hs,h1,h2,fun j u hu=>(World.cell?_of_block (a:=⟨g,j,none⟩) (hb g hp hlt)).trans (h3 j u hu),(World.cell?_of_block (a:=⟨g,xs.length,none⟩) (hb g hp hlt)).trans h4⟩
theorem LnI.below {P:Nat->Prop}{w w':World}{v:Value}{xs:List Int}(h:LnI w P v xs)(b:Below w.heap.size w w'):LnI w' P v xs:=h.mono (fun i _ hl=>b.block i hl) b.size (fun _ h _=>h)
theorem LnI.inA {w:World}{P:Nat->Prop}{v:Value}{xs:List Int}(h:LnI w P v xs):InA w v xs:=by
 obtain⟨g,c,rfl,hp,hlt,h1,h2,h3,h4⟩:=h;exact⟨_,c,rfl,.inr ⟨g,0,rfl,trivial,hlt,fun j x hj=>by rw[Nat.zero_add];exact h3 j x hj⟩⟩
theorem InA.news {w:World}{ao:Option Addr}{cap:Nat}{xs:List Int}(h:xs=[]\/∃b off,ao=some ⟨b,off,none⟩/\True/\b<w.heap.size/\∀ j x,xs[j]?=some x->w.cell? ⟨b,off+j,none⟩=some (.int .i64 x)):0<xs.length->∃ad,ao=some ad/\∀ j u,(xs.map (Value.int .i64))[j]?=some u->w.cell? (ad.add j)=some u:=by
 intro h0;rcases h with h|⟨b,off,rfl,-,hlt,hcell⟩
 ·rw[h] at h0;simp at h0
 ·refine⟨_,rfl,fun j u hj=>?_⟩;rw[List.getElem?_map] at hj;cases hb:xs[j]? with
  | none=>rw[hb] at hj;cases hj
  | some t =>
   rw[hb] at hj;injection hj with hj
   subst hj;have h3:((⟨b,off,none⟩:Addr).add j)=⟨b,off+j,none⟩:=by simp only[Addr.add];split<;>simp_all
   rw[h3];exact hcell j t hb
theorem yG (xs:List Int):∀ u ∈ xs.map (Value.int .i64),u.oneCell'=true:=fun u hu=>by
 obtain⟨x,_,rfl⟩:=List.mem_map.1 hu;rfl
theorem so {w w':World}{x:Value}{t:TypeId}(b:Below (w.alloc (.cells #[x] t)).drew.heap.size (w.alloc (.cells #[x] t)).drew w'):∀ j u,[x][j]?=some u->w'.cell? ((⟨w.heap.size,0,none⟩:Addr).add j)=some u:=fun j u hu=>by
 have h1:=dh w [x] t j u hu;have h3:((⟨w.heap.size,0,none⟩:Addr).add j)=⟨w.heap.size,j,none⟩:=by simp only[Addr.add];split<;>simp_all
 rw[h3] at h1 ⊢;exact(b.cell (p:=⟨w.heap.size,j,none⟩) (by show w.heap.size<(w.alloc _).heap.size;simp)).trans h1
theorem ye {n b5 c5:Nat}{w w1 W w9:World}{o1 o9:Nat->Nat}{f:Fs}(B1:Below n w w1)(hn:n<=w.heap.size)(L1:∀ k,k<n->o1 k=0)(BW:Below w1.heap.size w1 W)(S5:Spn W (Nw w1.heap.size) f b5 c5)(s9:aa (fun k=>k=5) W (ae w1 o1 0) w9 o9) :
  Below n w w9/\Spn w9 (Nw w1.heap.size) f b5 c5/\∀ k,k<w1.heap.size->o1 k≠5->w9.heap[k]?=w1.heap[k]?:=by
 have h1:=B1.size;refine⟨aJ (B1.trans (BW.mono (by omega))) s9 (fun k hk=>by rw[aC (by omega),L1 k hk];decide) hn,S5.mono (fun k hp hl=>s9.block k hl (by rw[ax hp];decide)) s9.size (fun k hp _=>hp),fun k hk ho=>(s9.block k (Nat.lt_of_lt_of_le hk BW.size) (by rw[aC hk];exact ho)).trans (BW.block k hk)⟩
theorem yy {P:Nat->Prop}{w:World}{o:Nat->Nat}{g c:Nat}{cells:List Int}(r:Row w o 5 3 1 (.slice (some ⟨g,0,none⟩) (cells.length+1) c) (cells.length+1) (cells.map (Value.int .i64)++[.int .i64 (-7)]))(hg:P g):LnI w P (.slice (some ⟨g,0,none⟩) cells.length c) cells/\cells.length<=c:=by
 obtain⟨g',cap',hv,hl,hc1,hc2,hlt,hc,_⟩:=r.pos (by omega);simp only[Value.slice.injEq,Option.some.injEq,Addr.mk.injEq,true_and,and_true] at hv;obtain⟨rfl,rfl⟩:=hv;refine⟨⟨g,c,rfl,hg,hlt,hc1,hc2,fun j x hj=>?_,?_⟩,by omega⟩
 ·have hjl:j<cells.length:=(List.getElem?_eq_some_iff.1 hj).1;rw[hc j (by omega),List.getElem?_append_left (by simpa using hjl),List.getElem?_map,hj];rfl
 ·rw[hc cells.length (by omega),List.getElem?_append_right (by simp)];simp
theorem BN {z g c m:Nat}{w1 W w9:World}{o1 o9:Nat->Nat}{xs:List Value}(hz:o1 z=0)(hzl:z<w1.heap.size)(r:Row w9 o9 5 3 1 (.slice (some ⟨g,0,none⟩) m c) m xs)(s:aa (fun k=>k=5) W (ae w1 o1 0) w9 o9)(hW:w1.heap.size<=W.heap.size):g≠z:=by
 intro h;have h1:o9 g=5:=r.2 g rfl;rw[h,s.lab z (by omega),aC hzl,hz] at h1;cases h1
theorem yt {n g c m:Nat}{w1 W w9:World}{o1 o9:Nat->Nat}{xs:List Value}(L:∀ k,k<n->o1 k=0)(r:Row w9 o9 5 3 1 (.slice (some ⟨g,0,none⟩) m c) m xs)(s:aa (fun k=>k=5) W (ae w1 o1 0) w9 o9)(hW:n<=W.heap.size)(hn:n<=w1.heap.size):n<=g:=by
 rcases Nat.lt_or_ge g n with h|h
 ·have h1:o9 g=5:=r.2 g rfl;rw[s.lab g (by omega),aC (by omega),L g h] at h1;cases h1
 ·exact h
theorem uY {w:World}{n0:Nat}{a0 a1 a2 a3 a4 c0 c1 c2 c3 c4:Value}(h:w.cell? ⟨n0,0,none⟩=some c0/\w.cell? ⟨n0,1,none⟩=some c1/\w.cell? ⟨n0,2,none⟩=some c2/\w.cell? ⟨n0,3,none⟩=some c3/\w.cell? ⟨n0,4,none⟩=some c4):(((((w.setCell ⟨n0+1,0,none⟩ a0).setCell ⟨n0+1,1,none⟩ a1).setCell ⟨n0+1,2,none⟩ a2).setCell ⟨n0+1,3,none⟩ a3).setCell ⟨n0+1,4,none⟩ a4).cell? ⟨n0,0,none⟩=some c0/\(((((w.setCell ⟨n0+1,0,none⟩ a0).setCell ⟨n0+1,1,none⟩ a1).setCell ⟨n0+1,2,none⟩ a2).setCell ⟨n0+1,3,none⟩ a3).setCell ⟨n0+1,4,none⟩ a4).cell? ⟨n0,1,none⟩=some c1/\(((((w.setCell ⟨n0+1,0,none⟩ a0).setCell ⟨n0+1,1,none⟩ a1).setCell ⟨n0+1,2,none⟩ a2).setCell ⟨n0+1,3,none⟩ a3).setCell ⟨n0+1,4,none⟩ a4).cell? ⟨n0,2,none⟩=some c2/\(((((w.setCell ⟨n0+1,0,none⟩ a0).setCell ⟨n0+1,1,none⟩ a1).setCell ⟨n0+1,2,none⟩ a2).setCell ⟨n0+1,3,none⟩ a3).setCell ⟨n0+1,4,none⟩ a4).cell? ⟨n0,3,none⟩=some c3/\(((((w.setCell ⟨n0+1,0,none⟩ a0).setCell ⟨n0+1,1,none⟩ a1).setCell ⟨n0+1,2,none⟩ a2).setCell ⟨n0+1,3,none⟩ a3).setCell ⟨n0+1,4,none⟩ a4).cell? ⟨n0,4,none⟩=some c4:=by
 have hb:=eo w (n0+1) n0 a0 a1 a2 a3 a4 (by omega);obtain⟨h0,h1,h2,h3,h4⟩:=h;exact⟨(World.cell?_of_block (a:=⟨n0,0,none⟩) hb).trans h0,(World.cell?_of_block (a:=⟨n0,1,none⟩) hb).trans h1,(World.cell?_of_block (a:=⟨n0,2,none⟩) hb).trans h2,(World.cell?_of_block (a:=⟨n0,3,none⟩) hb).trans h3,(World.cell?_of_block (a:=⟨n0,4,none⟩) hb).trans h4⟩
def ww (w:World)(e:Ex)(cells:List Int)(x:Ending)(w':World):Prop:=∃b cp v,x=.returned (plV e (some ⟨b,0,none⟩) cp v)/\Spn w' (Nw w.heap.size) e.kids b cp/\LnI w' (Nw w.heap.size) v cells/\Below w.heap.size w w'
theorem ru (e:Ex)(ao:Option Addr)(cap:Nat)(cv:Value)(cells:List Int)(w:World)(hlen:e.kids.len<=1000000000)(hsh:e.kids.short)(hc:InA w cv cells)(hcl:cells.length<=100000)(S:SnA w e.kids ao) :
  Calls Tryz.prog 17 #[plV e ao cap cv] w (ww w e cells):=by
 obtain⟨ii,hii,hzi0,hzi1,hzi2⟩:=aH tw;obtain⟨ac,cc,rfl,hx⟩:=hc;obtain⟨w0,hw0⟩:∃w0,w0=(w.alloc (.cells #[.int .i64 e.k,.int .i64 e.n,stv e.nm,.slice ao e.kids.len cap,.slice ac cells.length cc] 37)).alloc (.cells #[.int .i64 0,.int .i64 0,.string ⟨#[]⟩,.slice none 0 0,.slice none 0 0] 37):=⟨_,rfl⟩
 have B0:Below w.heap.size w w0:=by rw[hw0];exact((Below.refl _ w).alloc (Nat.le_refl _) _).alloc (by simp) _
 have P0:w0.heap[w.heap.size]?=some (.cells #[.int .i64 e.k,.int .i64 e.n,stv e.nm,.slice ao e.kids.len cap,.slice ac cells.length cc] 37 (0,0)):=by
  rw[hw0];exact(Below.heap_alloc _ _ _ (by simp)).trans (heap_alloc_new w _)
 have Z0:w0.heap[w.heap.size+1]?=some (.cells #[.int .i64 0,.int .i64 0,.string ⟨#[]⟩,.slice none 0 0,.slice none 0 0] 37 (0,0)):=by
  rw[hw0]
  have:=heap_alloc_new (w.alloc (.cells #[.int .i64 e.k,.int .i64 e.n,stv e.nm,.slice ao e.kids.len cap,.slice ac cells.length cc] 37)) (.cells #[.int .i64 0,.int .i64 0,.string ⟨#[]⟩,.slice none 0 0,.slice none 0 0] 37)
  simpa using this
 have S0:=SnA.below S B0;obtain⟨_,_,hx1,hx0⟩:=Inw.below (P:=fun _=>True) ⟨ac,cc,rfl,hx⟩ B0;injection hx1 with hx1 hx2 hx3
 subst hx1;subst hx3;have hnews:=InA.news (cap:=cc) hx0;have hone:=yG cells;clear hx hx0 hx2;rw[bZ];go_enter Tryz.func17,Tryz.ntmps17;go_upto_region 1 with fail;rw[<-hw0];clear hw0;obtain⟨n0,hn0⟩:∃n0,n0=w.heap.size:=⟨_,rfl⟩
 unfold ww;rw[<-hn0] at P0 Z0 B0 ⊢;have HB:Hid (n0=w.heap.size):=hn0;clear hn0;obtain⟨p0,p1,p2,p3,p4,pf⟩:=ai P0;go_wp2_with (first|(at_builtin;refine fj rfl (.tmp 4) (.tmp 6) 35 rfl 3 ii (.int .i64 0) 1 8 Tryz.underlying35 hii hzi0 hzi1 hzi2 rfl (by decide) (fun _=>0) 5 _ 0 [] rfl (Row.nil _ _ _ _ _) ac cells.length cc (cells.map (Value.int .i64)) rfl ?c1 hnews hone ?c3 ?c4 ?_)|go_in)
 case c1=>simp
 case c3=>unfold maxLen;omega
 case c4=>omega
 intro a1 c1 w1 o1 R1 s1;try simp only[Nat.zero_add,List.nil_append] at R1
 try simp only[Nat.zero_add,List.nil_append]
 have b1:Below w0.heap.size w0 w1:=s1.below (fun k hk=>by decide);have hs1:=b1.size;have P1:=(b1.block _ (lt_of_block P0)).trans P0;have Z1:=(b1.block _ (lt_of_block Z0)).trans Z0;have hzl:=lt_of_block Z1;have oP:o1 n0=0:=s1.lab n0 (lt_of_block P0);have oZ:o1 (n0+1)=0:=s1.lab (n0+1) (lt_of_block Z0);have B1:Below n0 w w1:=B0.trans (b1.mono (by have:=lt_of_block P0;omega));have L1:Hid (∀ k,k<n0->o1 k=0):=fun k hk=>s1.lab k (by have:=lt_of_block P0;omega);have S1:=SnA.below S0 b1;clear p0 p1 p2 p3 p4 pf P0 Z0 B0 S0 s1 b1 hnews hone S hs1;go_upto_region 3 with fail;obtain⟨p0,p1,p2,p3,p4,pf⟩:=ai P1;have Bd:Below w1.heap.size w1 w1.drew:=⟨rfl,rfl,rfl,Nat.le_refl _,fun _ _=>rfl⟩
 have Bda:=Bd.alloc (Nat.le_refl _) (.cells #[.int .i64 (-7)] 3);have hcL:=fun (wx:World) (hx:SnA wx e.kids ao)=>p9 (e.kids.size+1) e ao cap wx (by omega) hlen hsh hx;simp only[ah] at hcL;have hone:∀ u ∈ [Value.int .i64 (-7)],u.oneCell'=true:=by intro u hu;simp at hu;subst hu;rfl
 have q1:cells.length+1<=maxLen:=by unfold maxLen;omega
 have q2:(cells.length+1)*8<=140737488355328:=by omega
 have hgo:Hid (∀ k,k<n0->o1 k≠5):=fun k hk=>by rw[L1.out k hk];decide
 have hpl:n0<w1.heap.size:=lt_of_block P1;have k0:w1.cell? ⟨n0,0,none⟩=some (.int .i64 e.k)/\w1.cell? ⟨n0,1,none⟩=some (.int .i64 e.n)/\w1.cell? ⟨n0,2,none⟩=some (stv e.nm)/\w1.cell? ⟨n0,3,none⟩=some (.slice ao e.kids.len cap)/\w1.cell? ⟨n0,4,none⟩=some (.slice ac cells.length cc):=⟨p0,p1,p2,p3,p4⟩
 have k1:w1.drew.cell? ⟨n0,0,none⟩=some (.int .i64 e.k)/\w1.drew.cell? ⟨n0,1,none⟩=some (.int .i64 e.n)/\w1.drew.cell? ⟨n0,2,none⟩=some (stv e.nm)/\w1.drew.cell? ⟨n0,3,none⟩=some (.slice ao e.kids.len cap)/\w1.drew.cell? ⟨n0,4,none⟩=some (.slice ac cells.length cc):=k0;have kA:(w1.alloc (.cells #[.int .i64 (-7)] 3)).drew.cell? ⟨n0,0,none⟩=some (.int .i64 e.k)/\(w1.alloc (.cells #[.int .i64 (-7)] 3)).drew.cell? ⟨n0,1,none⟩=some (.int .i64 e.n)/\(w1.alloc (.cells #[.int .i64 (-7)] 3)).drew.cell? ⟨n0,2,none⟩=some (stv e.nm)/\(w1.alloc (.cells #[.int .i64 (-7)] 3)).drew.cell? ⟨n0,3,none⟩=some (.slice ao e.kids.len cap)/\(w1.alloc (.cells #[.int .i64 (-7)] 3)).drew.cell? ⟨n0,4,none⟩=some (.slice ac cells.length cc):=⟨(Bda.cell (p:=⟨n0,0,none⟩) hpl).trans p0,(Bda.cell (p:=⟨n0,1,none⟩) hpl).trans p1,(Bda.cell (p:=⟨n0,2,none⟩) hpl).trans p2,(Bda.cell (p:=⟨n0,3,none⟩) hpl).trans p3,(Bda.cell (p:=⟨n0,4,none⟩) hpl).trans p4⟩
 go_region_held3 (fun wx=>wx.cell? ⟨n0,0,none⟩=some (.int .i64 e.k)/\wx.cell? ⟨n0,1,none⟩=some (.int .i64 e.n)/\wx.cell? ⟨n0,2,none⟩=some (stv e.nm)/\wx.cell? ⟨n0,3,none⟩=some (.slice ao e.kids.len cap)/\wx.cell? ⟨n0,4,none⟩=some (.slice ac cells.length cc)) (first|(with_reducible exact k9)|(with_reducible exact uY k9)|(with_reducible exact k3)|(with_reducible exact k2)|(with_reducible exact kA)|(with_reducible exact k1)|(with_reducible exact k0)) ((first|(go_at_call 43;refine(hcL _ (S1.belowP (by first|exact Bd|exact Bda))).mono ?_;rintro x w5 ⟨b5,c5,rfl,S5',B5⟩;have Bw:Below w1.heap.size w1 w5:=(by first|exact Bd.trans (B5.mono (by simp))|exact Bda.trans (B5.mono (by simp)));have S5:Spn w5 (Nw w1.heap.size) e.kids b5 c5:=S5'.mono (fun _ _ _=>rfl) (Nat.le_refl _) (fun k hp _=>Nat.le_trans (by simp) hp);have k2:w5.cell? ⟨n0,0,none⟩=some (.int .i64 e.k)/\w5.cell? ⟨n0,1,none⟩=some (.int .i64 e.n)/\w5.cell? ⟨n0,2,none⟩=some (stv e.nm)/\w5.cell? ⟨n0,3,none⟩=some (.slice ao e.kids.len cap)/\w5.cell? ⟨n0,4,none⟩=some (.slice ac cells.length cc):=⟨(Bw.cell (p:=⟨n0,0,none⟩) hpl).trans p0,(Bw.cell (p:=⟨n0,1,none⟩) hpl).trans p1,(Bw.cell (p:=⟨n0,2,none⟩) hpl).trans p2,(Bw.cell (p:=⟨n0,3,none⟩) hpl).trans p3,(Bw.cell (p:=⟨n0,4,none⟩) hpl).trans p4⟩;have Bw5:=Bw.alloc Bw.size (.cells #[.int .i64 (-7)] 3);have k3:(w5.alloc (.cells #[.int .i64 (-7)] 3)).cell? ⟨n0,0,none⟩=some (.int .i64 e.k)/\(w5.alloc (.cells #[.int .i64 (-7)] 3)).cell? ⟨n0,1,none⟩=some (.int .i64 e.n)/\(w5.alloc (.cells #[.int .i64 (-7)] 3)).cell? ⟨n0,2,none⟩=some (stv e.nm)/\(w5.alloc (.cells #[.int .i64 (-7)] 3)).cell? ⟨n0,3,none⟩=some (.slice ao e.kids.len cap)/\(w5.alloc (.cells #[.int .i64 (-7)] 3)).cell? ⟨n0,4,none⟩=some (.slice ac cells.length cc):=⟨(Bw5.cell (p:=⟨n0,0,none⟩) hpl).trans p0,(Bw5.cell (p:=⟨n0,1,none⟩) hpl).trans p1,(Bw5.cell (p:=⟨n0,2,none⟩) hpl).trans p2,(Bw5.cell (p:=⟨n0,3,none⟩) hpl).trans p3,(Bw5.cell (p:=⟨n0,4,none⟩) hpl).trans p4⟩;rw[ah])|(refine cX rfl (.tmp 11) (.tmp 12) 35 rfl 3 ii (.int .i64 0) 1 8 Tryz.underlying35 hii hzi0 hzi1 hzi2 rfl (by decide) (ae w1 o1 0) 5 _ cells.length (cells.map (Value.int .i64)) (by simp[Act.eval,Act.put]) ((R1.step (Below.toStepC (I:=fun _=>False) Bw) id).step (((aa.refl (fun _=>False) w5 (ae w1 o1 0))).alloc _) id) ⟨w5.heap.size,0,none⟩ 1 1 [.int .i64 (-7)] (by simp[Act.eval,Act.put]) rfl (qW (by simp) _ _) hone (by decide) q1 q2 ?_;intro g9 c9 w9 o9 r9 s9;have FZ:=ye B1 (by rw[HB.out];exact Nat.le_refl _) L1.out (Bw.alloc Bw.size (.cells #[.int .i64 (-7)] 3)) (S5.mono (fun i _ hl=>Below.heap_alloc w5 _ i hl) (by simp) (fun _ h _=>h)) s9;have P9:=(FZ.2.2 n0 hpl (by rw[oP];decide)).trans P1;have k9:w9.cell? ⟨n0,0,none⟩=some (.int .i64 e.k)/\w9.cell? ⟨n0,1,none⟩=some (.int .i64 e.n)/\w9.cell? ⟨n0,2,none⟩=some (stv e.nm)/\w9.cell? ⟨n0,3,none⟩=some (.slice ao e.kids.len cap)/\w9.cell? ⟨n0,4,none⟩=some (.slice ac cells.length cc):=⟨(ai P9).1,(ai P9).2.1,(ai P9).2.2.1,(ai P9).2.2.2.1,(ai P9).2.2.2.2.1⟩;have hg9:n0<=g9:=yt L1.out r9 s9 (by have:=Bw.size;simp;omega) (by have:=hpl;omega);have hgz:g9≠n0+1:=BN oZ hzl r9 s9 (by have:=Bw.size;simp;omega);have RZ:=yy (P:=fun k=>n0<=k/\k≠n0+1) r9 ⟨hg9,hgz⟩;have hc9:=RZ.2;have Z9:=(FZ.2.2 (n0+1) hzl (by rw[oZ];decide)).trans Z1;obtain⟨z0,z1,z2,z3,z4,zf⟩:=ai Z9)|(refine cX rfl (.tmp 11) (.tmp 12) 35 rfl 3 ii (.int .i64 0) 1 8 Tryz.underlying35 hii hzi0 hzi1 hzi2 rfl (by decide) (ae w1 o1 0) 5 _ cells.length (cells.map (Value.int .i64)) (by simp[Act.eval,Act.put]) (R1.step (Below.toStepC (I:=fun _=>False) Bw) id) ⟨w1.heap.size,0,none⟩ 1 1 [.int .i64 (-7)] (by simp[Act.eval,Act.put]) rfl (so B5) hone (by decide) q1 q2 ?_;intro g9 c9 w9 o9 r9 s9;have FZ:=ye B1 (by rw[HB.out];exact Nat.le_refl _) L1.out Bw S5 s9;have P9:=(FZ.2.2 n0 hpl (by rw[oP];decide)).trans P1;have k9:w9.cell? ⟨n0,0,none⟩=some (.int .i64 e.k)/\w9.cell? ⟨n0,1,none⟩=some (.int .i64 e.n)/\w9.cell? ⟨n0,2,none⟩=some (stv e.nm)/\w9.cell? ⟨n0,3,none⟩=some (.slice ao e.kids.len cap)/\w9.cell? ⟨n0,4,none⟩=some (.slice ac cells.length cc):=⟨(ai P9).1,(ai P9).2.1,(ai P9).2.2.1,(ai P9).2.2.2.1,(ai P9).2.2.2.2.1⟩;have hg9:n0<=g9:=yt L1.out r9 s9 (by have:=Bw.size;omega) (by have:=hpl;omega);have hgz:g9≠n0+1:=BN oZ hzl r9 s9 (by have:=Bw.size;omega);have RZ:=yy (P:=fun k=>n0<=k/\k≠n0+1) r9 ⟨hg9,hgz⟩;have hc9:=RZ.2;have Z9:=(FZ.2.2 (n0+1) hzl (by rw[oZ];decide)).trans Z1;obtain⟨z0,z1,z2,z3,z4,zf⟩:=ai Z9)))
 all_goals (
  have HU:Hid (∃wz,wz=(((((w9.setCell ⟨n0+1,0,none⟩ (.int .i64 e.k)).setCell ⟨n0+1,1,none⟩ (.int .i64 e.n)).setCell ⟨n0+1,2,none⟩ (stv e.nm)).setCell ⟨n0+1,3,none⟩ (.slice (some ⟨b5,0,none⟩) e.kids.len c5)).setCell ⟨n0+1,4,none⟩ (.slice (some ⟨g9,0,none⟩) cells.length c9))/\wz.cell? ⟨n0+1,0,none⟩=some (.int .i64 e.k)/\wz.cell? ⟨n0+1,1,none⟩=some (.int .i64 e.n)/\wz.cell? ⟨n0+1,2,none⟩=some (stv e.nm)/\wz.cell? ⟨n0+1,3,none⟩=some (.slice (some ⟨b5,0,none⟩) e.kids.len c5)/\wz.cell? ⟨n0+1,4,none⟩=some (.slice (some ⟨g9,0,none⟩) cells.length c9)/\Spn wz (Nw n0) e.kids b5 c5/\LnI wz (Nw n0) (.slice (some ⟨g9,0,none⟩) cells.length c9) cells/\Below n0 w wz):=by
   obtain⟨u0,u1,u2,u3,u4,-⟩:=ai (bH (.int .i64 e.k) (.int .i64 e.n) (stv e.nm) (.slice (some ⟨b5,0,none⟩) e.kids.len c5) (.slice (some ⟨g9,0,none⟩) cells.length c9) Z9);refine⟨_,rfl,u0,u1,u2,u3,u4,FZ.2.1.mono (fun k hp _=>eo w9 (n0+1) k _ _ _ _ _ (by have hp:w1.heap.size<=k:=hp;omega)) (by simp) (fun k hp _=>by have hp:w1.heap.size<=k:=hp;show n0<=k;omega),RZ.1.mono (fun k hp _=>eo w9 (n0+1) k _ _ _ _ _ hp.2) (by simp) (fun k hp _=>hp.1),?_⟩;exact((((FZ.1.setCell (p:=⟨n0+1,0,none⟩) (Nat.le_succ _) _).setCell (p:=⟨n0+1,1,none⟩) (Nat.le_succ _) _).setCell (p:=⟨n0+1,2,none⟩) (Nat.le_succ _) _).setCell (p:=⟨n0+1,3,none⟩) (Nat.le_succ _) _).setCell (p:=⟨n0+1,4,none⟩) (Nat.le_succ _) _
  clear FZ RZ;go_wp2;obtain⟨wz,hwz,v0,v1,v2,v3,v4,SZ,LZ,BZ⟩:=HU.out;rw[<-hwz];exact bodyPost_ret (v:=plV e (some ⟨b5,0,none⟩) c5 (.slice (some ⟨g9,0,none⟩) cells.length c9)) (by simp[results,Tryz.results17,go_sem,v0,v1,v2,v3,v4,plV]) rfl ⟨b5,c5,_,rfl,by rw[<-HB.out];exact SZ,by rw[<-HB.out];exact LZ,by rw[<-HB.out];exact BZ⟩)
theorem qS (e:Ex)(b0 cap:Nat)(cv:Value)(ao2:Option Addr)(cap2:Nat)(cv2:Value)(cells:List Int)(w:World)(hlen:e.kids.len<=1000000000)(hsh:e.kids.short)(hcl:cells.length<=1000000000)(S:iJ w e.kids b0 cap)(S2:SnA w e.kids ao2)(hL:LnI w (fun _=>True) cv cells)(hc2:InA w cv2 cells) :
  Calls Tryz.prog 20 #[plV e (some ⟨b0,0,none⟩) cap cv,plV e ao2 cap2 cv2] w fun x w'=>x=.returned (.bool true)/\Below w.heap.size w w':=by
 obtain⟨g,c,hcv,hL2⟩:=hL;have hL:LnI w (fun _=>True) cv cells:=⟨g,c,hcv,hL2⟩
 subst hcv;obtain⟨ac2,cc2,hcv2,hx2⟩:=hc2;have hc2:InA w cv2 cells:=⟨ac2,cc2,hcv2,hx2⟩
 subst hcv2;clear hL2 hx2;obtain⟨w0,hw0⟩:∃w0,w0=(w.alloc (.cells #[.int .i64 e.k,.int .i64 e.n,stv e.nm,.slice (some ⟨b0,0,none⟩) e.kids.len cap,.slice (some ⟨g,0,none⟩) cells.length c] 37)).alloc (.cells #[.int .i64 e.k,.int .i64 e.n,stv e.nm,.slice ao2 e.kids.len cap2,.slice ac2 cells.length cc2] 37):=⟨_,rfl⟩
 have B0:Below w.heap.size w w0:=by rw[hw0];exact((Below.refl _ w).alloc (Nat.le_refl _) _).alloc (by simp) _
 have E0:w0.heap[w.heap.size]?=some (.cells #[.int .i64 e.k,.int .i64 e.n,stv e.nm,.slice (some ⟨b0,0,none⟩) e.kids.len cap,.slice (some ⟨g,0,none⟩) cells.length c] 37 (0,0)):=by
  rw[hw0];exact(Below.heap_alloc _ _ _ (by simp)).trans (heap_alloc_new w _)
 have Y0:w0.heap[w.heap.size+1]?=some (.cells #[.int .i64 e.k,.int .i64 e.n,stv e.nm,.slice ao2 e.kids.len cap2,.slice ac2 cells.length cc2] 37 (0,0)):=by
  rw[hw0]
  have:=heap_alloc_new (w.alloc (.cells #[.int .i64 e.k,.int .i64 e.n,stv e.nm,.slice (some ⟨b0,0,none⟩) e.kids.len cap,.slice (some ⟨g,0,none⟩) cells.length c] 37)) (.cells #[.int .i64 e.k,.int .i64 e.n,stv e.nm,.slice ao2 e.kids.len cap2,.slice ac2 cells.length cc2] 37)
  simpa using this
 have S0:=iJ.below S B0;have T0:=SnA.below S2 B0;have L0:=hL.below B0;have I0:=hc2.below B0;have c1:=vt w0 _ _ cells cells L0.inA I0 hcl;rw[decide_eq_true rfl] at c1;rw[bZ,bZ];go_enter Tryz.func20,Tryz.ntmps20;go_upto_region 1 with fail;rw[<-hw0];clear hw0;obtain⟨bx,hbx⟩:∃bx,bx=w.heap.size:=⟨_,rfl⟩
 rw[<-hbx] at E0 Y0 B0 ⊢;have HB:Hid (bx=w.heap.size):=hbx;clear hbx S S2 hL hc2 I0;obtain⟨p0,p1,p2,p3,p4,pf⟩:=ai E0;obtain⟨q0,q1,q2,q3,q4,qf⟩:=ai Y0;go_wp2_with fail;refine c1.mono ?_;rintro x w1 ⟨rfl,b1⟩;have E1:=(b1.block _ (lt_of_block E0)).trans E0;have Y1:=(b1.block _ (lt_of_block Y0)).trans Y0;have S1:=iJ.below S0 b1;have T1:=SnA.below T0 b1;have L1:=L0.below b1;have B1:Below bx w w1:=B0.trans (b1.mono (by have:=lt_of_block E0;omega));clear c1 b1 E0 Y0 S0 T0 L0 B0 p0 p1 p2 p3 p4 pf q0 q1 q2 q3 q4 qf;obtain⟨p0,p1,p2,p3,p4,pf⟩:=ai E1;obtain⟨q0,q1,q2,q3,q4,qf⟩:=ai Y1;have c2:=qt (e.kids.size+1) e b0 cap ao2 cap2 w1 (by omega) hlen hsh S1 T1;rw[ah,ah] at c2;go_wp2_with fail;refine c2.mono ?_;rintro x w2 ⟨rfl,b2⟩;have E2:=(b2.block _ (lt_of_block E1)).trans E1;have L2:=L1.below b2;have B2:Below bx w w2:=B1.trans (b2.mono (by have:=lt_of_block E1;omega));clear c2 b2 E1 Y1 S1 T1 L1 B1 p0 p1 p2 p3 p4 pf q0 q1 q2 q3 q4 qf;obtain⟨p0,p1,p2,p3,p4,pf⟩:=ai E2;obtain⟨g',c',hv,-,hlt,h1,h2,-,h7⟩:=L2;injection hv with hv1 hv2 hv3
 injection hv1 with hv1
 injection hv1 with hv1
 subst hv1;subst hv3;have h1I:(cells.length:Int)+1<=(c:Int):=by omega
 have hcm:c<=9223372036854775807:=h2;have hw1:IntKind.i64.wrap ((cells.length:Int)+1)=(cells.length:Int)+1:=by rw[IntKind.wrap_i64];omega
 have hlt1:(cells.length:Int)<(cells.length:Int)+1:=by omega
 clear hv2;go_upto_region 3 with fail
 go_quiet (fail)
 go_wp2;go_ret;exact⟨rfl,by rw[<-HB.out];exact bdr B2 nq⟩
structure CdQ where
 ws:List Int
 cs:List Int
 ns:List ByteArray
 ks:List Int
def mQ (w:World)(ao:Option Addr)(xs:List Value):Prop :=
 xs=[]\/∃b off,ao=some ⟨b,off,none⟩/\b<w.heap.size/\∀ j x,xs[j]?=some x->w.cell? ⟨b,off+j,none⟩=some x
theorem mQ.below {w w':World}{ao:Option Addr}{xs:List Value}(h:mQ w ao xs)(B:Below w.heap.size w w'):mQ w' ao xs:=by
 rcases h with h|⟨b,off,rfl,hlt,hc⟩
 ·exact .inl h
 ·exact .inr ⟨b,off,rfl,Nat.lt_of_lt_of_le hlt B.size,fun j x hx=>(B.cell (p:=⟨b,off+j,none⟩) hlt).trans (hc j x hx)⟩
theorem mQ.at {w:World}{ao:Option Addr}{xs:List Value}(h:mQ w ao xs){j:Nat}{x:Value}(hx:xs[j]?=some x):∃b off,ao=some ⟨b,off,none⟩/\b<w.heap.size/\w.cell? ⟨b,off+j,none⟩=some x:=by
 rcases h with rfl|⟨b,off,rfl,hlt,hc⟩
 ·simp at hx
 ·exact⟨b,off,rfl,hlt,hc j x hx⟩
def pH (l:List Int):List Value:=l.map (.int .u64 ·)
def ut (l:List Int):List Value:=l.map (.int .i64 ·)
def pF (l:List ByteArray):List Value:=l.map (.string ·)
theorem tZ {l:List Int}{k:Nat}(h:k<l.length):(pH l)[k]?=some (.int .u64 l[k]):=by
 simp[pH,List.getElem?_eq_getElem h]
theorem jF {l:List Int}{k:Nat}(h:k<l.length):(ut l)[k]?=some (.int .i64 l[k]):=by
 simp[ut,List.getElem?_eq_getElem h]
theorem tx {l:List ByteArray}{k:Nat}(h:k<l.length):(pF l)[k]?=some (.string l[k]):=by
 simp[pF,List.getElem?_eq_getElem h]
structure PlQ where
 aw:Option Addr
 cw:Nat
 ac:Option Addr
 cc:Nat
 an:Option Addr
 cn:Nat
 ak:Option Addr
 ck:Nat
abbrev f9 (p:PlQ)(c:CdQ):Array Value:=#[.slice p.aw c.ws.length p.cw,.slice p.ac c.cs.length p.cc,.slice p.an c.ns.length p.cn,.slice p.ak c.ks.length p.ck]
abbrev vY (p:PlQ)(c:CdQ):Value:=.agg (f9 p c)
structure jP (w:World)(p:PlQ)(c:CdQ):Prop where
 ws:mQ w p.aw (pH c.ws)
 cs:mQ w p.ac (ut c.cs)
 ns:mQ w p.an (pF c.ns)
 ks:mQ w p.ak (ut c.ks)
 lw:c.ws.length<=9223372036854775807
 lc:c.cs.length<=9223372036854775807
 ln:c.ns.length<=9223372036854775807
 lk:c.ks.length<=9223372036854775807
theorem jP.below {w w':World}{p:PlQ}{c:CdQ}(h:jP w p c)(B:Below w.heap.size w w'):jP w' p c :=
 ⟨h.ws.below B,h.cs.below B,h.ns.below B,h.ks.below B,h.lw,h.lc,h.ln,h.lk⟩
theorem DF (w:World)(a b c d:Value)(t:TypeId):(w.alloc (.cells #[a,b,c,d] t)).heap[w.heap.size]?=some (.cells #[a,b,c,d] t (0,0)):=heap_alloc_new _ _
theorem pN {w:World}{g:Nat}{a b c d:Value}{t:TypeId}(h:w.heap[g]?=some (.cells #[a,b,c,d] t (0,0))):w.cell? ⟨g,0,none⟩=some a/\w.cell? ⟨g,1,none⟩=some b/\w.cell? ⟨g,2,none⟩=some c/\w.cell? ⟨g,3,none⟩=some d:=by
 refine⟨?_,?_,?_,?_⟩<;>simp[World.cell?,h]
abbrev pZ (p:PlQ)(c:CdQ)(w:World)(b:Nat):Prop:=w.cell? ⟨b,0,none⟩=some (.slice p.aw c.ws.length p.cw)/\w.cell? ⟨b,1,none⟩=some (.slice p.ac c.cs.length p.cc)/\w.cell? ⟨b,2,none⟩=some (.slice p.an c.ns.length p.cn)/\w.cell? ⟨b,3,none⟩=some (.slice p.ak c.ks.length p.ck)
theorem iP {p:PlQ}{c:CdQ}{w w':World}{b:Nat}(h:pZ p c w b)(hb:b<w.heap.size)(B:Below w.heap.size w w'):pZ p c w' b :=
 ⟨(B.cell (p:=⟨b,0,none⟩) hb).trans h.1,(B.cell (p:=⟨b,1,none⟩) hb).trans h.2.1,(B.cell (p:=⟨b,2,none⟩) hb).trans h.2.2.1,(B.cell (p:=⟨b,3,none⟩) hb).trans h.2.2.2⟩
theorem pB (p:PlQ)(c:CdQ)(w:World):pZ p c (w.alloc (.cells (f9 p c) 42)) w.heap.size:=pN (DF _ _ _ _ _ _)
theorem aa.newQ {I:Nat->Prop}{w w':World}(o:Nat->Nat)(i:Nat)(B:Below w.heap.size w w'):aa I w o w' (ae w o i):=⟨B.os,B.tape,B.output,B.size,fun k hk=>aC hk,fun k hk _=>B.block k hk⟩
theorem Row.lsvQ {w:World}{o:Nat->Nat}{i:Nat}{e:TypeId}{ao:Option Addr}{n cap:Nat}{xs:List Value}(h:Row w o i e 1 (.slice ao n cap) n xs):mQ w ao xs:=by
 by_cases hn:0<n
 ·obtain⟨g,c,hv,-,-,-,hlt,hc,-⟩:=h.pos hn;simp only[Value.slice.injEq,true_and] at hv;refine .inr ⟨g,0,hv.1,hlt,fun j x hx=>?_⟩;have hl:=h.len;have hj:j<n*1:=by have:=(List.getElem?_eq_some_iff.1 hx).1;omega
  rw[Nat.zero_add,hc j hj];exact hx
 ·have hl:=h.len;exact .inl (List.eq_nil_of_length_eq_zero (by omega))
theorem ia {g:Nat}{w w':World}(h:Below g w w')(n:Nat):Below g w (w'.drewN n):=by
 induction n with
 | zero=>exact h
 | succ n ih=>exact ih.drew
theorem u9 (p q:PlQ)(c:CdQ)(w:World)(hp:jP w p c)(hq:jP w q c) :
  Calls Tryz.prog 19 #[vY p c,vY q c] w fun e w'=>e=.returned (.bool true)/\Below w.heap.size w w':=by
 obtain⟨g,hg⟩:∃g,g=w.heap.size:=⟨_,rfl⟩
 obtain⟨w2,hw2⟩:∃w2,w2=(w.alloc (.cells (f9 p c) 42)).alloc (.cells (f9 q c) 42):=⟨_,rfl⟩
 have B1:Below g w w2:=by rw[hw2,hg];exact((Below.refl _ w).alloc (Nat.le_refl _) _).alloc (by simp) _
 have z2:w2.heap.size=g+2:=by rw[hw2,hg];simp
 have KP:pZ p c w2 g:=by
  rw[hw2,hg];exact iP (pB p c w) (by simp) (b1 _ _)
 have KQ:pZ q c w2 (g+1):=by
  have:=pB q c (w.alloc (.cells (f9 p c) 42))
  rw[hw2,hg];simpa using this
 have P2:jP w2 p c:=hp.below (by rw[<-hg];exact B1);have Q2:jP w2 q c:=hq.below (by rw[<-hg];exact B1);have HG:=Lib.hid hg;have l1:=P2.lw;have l2:=P2.lc;have l3:=P2.ln;have l4:=P2.lk;clear hp hq hg;have K:∀ {wr:World},Below w2.heap.size w2 wr->pZ p c wr g/\pZ q c wr (g+1)/\jP wr p c/\jP wr q c:=fun {wr} B=>⟨iP KP (by omega) B,iP KQ (by omega) B,P2.below B,Q2.below B⟩;have Bz:Below w2.heap.size w2 w2:=Below.refl _ _;obtain⟨a0,a1,a2,a3⟩:=KP;obtain⟨e0,e1,e2,e3⟩:=KQ;clear P2 Q2;go_enter Tryz.func19,Tryz.ntmps19;go_wp2_with fail;rw[<-hw2,<-HG.out];clear hw2;go_wp2_with fail;go_loopw [5] (fun v wr=>∃k:Nat,v=.int .i64 (k:Nat)/\k<=c.ws.length/\Below w2.heap.size w2 wr) (fun v _=>c.ws.length-(intOf v).toNat)
 case atStart=>exact⟨0,by go_num,by omega,Bz⟩
 case round =>
  obtain⟨k,rfl,hk,BR0⟩:=hrel;clear a0 a1 a2 a3 e0 e1 e2 e3;obtain⟨⟨a0,a1,a2,a3⟩,⟨e0,e1,e2,e3⟩,PR,QR⟩:=K BR0;by_cases hlt:k<c.ws.length
  ·have hkI:(k:Int)<(c.ws.length:Int):=by omega
   obtain⟨b1,o1,h1,l1,x1⟩:=PR.ws.at (tZ hlt);obtain⟨b2,o2,h2,l2,x2⟩:=QR.ws.at (tZ hlt);generalize c.ws[k]=u at x1 x2;rw[h1] at a0;rw[h2] at e0;go_wp2_with fail
   go_quiet (fail)
   go_wp2;go_roundw
   case rel=>(try ((repeat apply Exists.intro);refine⟨?_,rfl⟩));exact⟨k+1,by go_num,by omega,ia BR0 _⟩
   case measure=>simp[intOf];omega
  ·have hkI:¬(k:Int)<(c.ws.length:Int):=by omega
   clear PR QR;go_wp2_with fail;go_loopw [6] (fun v wr=>∃k:Nat,v=.int .i64 (k:Nat)/\k<=c.cs.length/\Below w2.heap.size w2 wr) (fun v _=>c.cs.length-(intOf v).toNat)
   case atStart=>exact⟨0,by go_num,by omega,BR0⟩
   case round =>
    obtain⟨k,rfl,hk,BR1⟩:=hrel;clear a0 a1 a2 a3 e0 e1 e2 e3;obtain⟨⟨a0,a1,a2,a3⟩,⟨e0,e1,e2,e3⟩,PR,QR⟩:=K BR1;by_cases hlt:k<c.cs.length
    ·have hkI:(k:Int)<(c.cs.length:Int):=by omega
     obtain⟨b1,o1,h1,l1,x1⟩:=PR.cs.at (jF hlt);obtain⟨b2,o2,h2,l2,x2⟩:=QR.cs.at (jF hlt);generalize c.cs[k]=u at x1 x2;rw[h1] at a1;rw[h2] at e1;go_wp2_with fail
     go_quiet (fail)
     go_wp2;go_roundw
     case rel=>(try ((repeat apply Exists.intro);refine⟨?_,rfl⟩));exact⟨k+1,by go_num,by omega,ia BR1 _⟩
     case measure=>simp[intOf];omega
    ·have hkI:¬(k:Int)<(c.cs.length:Int):=by omega
     clear PR QR;go_wp2_with fail;go_loopw [7] (fun v wr=>∃k:Nat,v=.int .i64 (k:Nat)/\k<=c.ns.length/\Below w2.heap.size w2 wr) (fun v _=>c.ns.length-(intOf v).toNat)
     case atStart=>exact⟨0,by go_num,by omega,BR1⟩
     case round =>
      obtain⟨k,rfl,hk,BR2⟩:=hrel;clear a0 a1 a2 a3 e0 e1 e2 e3;obtain⟨⟨a0,a1,a2,a3⟩,⟨e0,e1,e2,e3⟩,PR,QR⟩:=K BR2;by_cases hlt:k<c.ns.length
      ·have hkI:(k:Int)<(c.ns.length:Int):=by omega
       obtain⟨b1,o1,h1,l1,x1⟩:=PR.ns.at (tx hlt);obtain⟨b2,o2,h2,l2,x2⟩:=QR.ns.at (tx hlt);generalize c.ns[k]=u at x1 x2;rw[h1] at a2;rw[h2] at e2;go_wp2_with fail
       go_quiet (fail)
       go_wp2;go_roundw
       case rel=>(try ((repeat apply Exists.intro);refine⟨?_,rfl⟩));exact⟨k+1,by go_num,by omega,ia BR2 _⟩
       case measure=>simp[intOf];omega
      ·have hkI:¬(k:Int)<(c.ns.length:Int):=by omega
       clear PR QR;go_wp2_with fail;go_loopw [8] (fun v wr=>∃k:Nat,v=.int .i64 (k:Nat)/\k<=c.ks.length/\Below w2.heap.size w2 wr) (fun v _=>c.ks.length-(intOf v).toNat)
       case atStart=>exact⟨0,by go_num,by omega,BR2⟩
       case round =>
        obtain⟨k,rfl,hk,BR3⟩:=hrel;clear a0 a1 a2 a3 e0 e1 e2 e3;obtain⟨⟨a0,a1,a2,a3⟩,⟨e0,e1,e2,e3⟩,PR,QR⟩:=K BR3;by_cases hlt:k<c.ks.length
        ·have hkI:(k:Int)<(c.ks.length:Int):=by omega
         obtain⟨b1,o1,h1,l1,x1⟩:=PR.ks.at (jF hlt);obtain⟨b2,o2,h2,l2,x2⟩:=QR.ks.at (jF hlt);generalize c.ks[k]=u at x1 x2;rw[h1] at a3;rw[h2] at e3;go_wp2_with fail
         go_quiet (fail)
         go_wp2;go_roundw
         case rel=>(try ((repeat apply Exists.intro);refine⟨?_,rfl⟩));exact⟨k+1,by go_num,by omega,ia BR3 _⟩
         case measure=>simp[intOf];omega
        ·have hkI:¬(k:Int)<(c.ks.length:Int):=by omega
         go_wp2;go_ret;exact⟨rfl,by rw[<-HG.out];exact B1.trans (BR3.mono (by omega))⟩
structure qC (w:World)(o:Nat->Nat)(p:PlQ)(c:CdQ):Prop where
 ws:Row w o 3 54 1 (.slice p.aw c.ws.length p.cw) c.ws.length (pH c.ws)
 cs:Row w o 4 3 1 (.slice p.ac c.cs.length p.cc) c.cs.length (ut c.cs)
 ns:Row w o 5 9 1 (.slice p.an c.ns.length p.cn) c.ns.length (pF c.ns)
 ks:Row w o 6 3 1 (.slice p.ak c.ks.length p.ck) c.ks.length (ut c.ks)
 lw:c.ws.length<=32768
 lc:c.cs.length<=100000000
 ln:c.ns.length<=100000000
 lk:c.ks.length<=256
theorem qC.step {I:Nat->Prop}{w w':World}{o o':Nat->Nat}{p:PlQ}{c:CdQ}(h:qC w o p c)(s:aa I w o w' o')(h3:¬I 3)(h4:¬I 4)(h5:¬I 5)(h6:¬I 6):qC w' o' p c :=
 ⟨h.ws.step s h3,h.cs.step s h4,h.ns.step s h5,h.ks.step s h6,h.lw,h.lc,h.ln,h.lk⟩
abbrev lO:Nat->Prop:=fun k=>3<=k/\k<=6
theorem Row.put1Q {w:World}{o:Nat->Nat}{i:Nat}{e:TypeId}{ao:Option Addr}{n cap:Nat}{xs:List Value}(h:Row w o i e 1 (.slice ao n cap) n xs){j:Nat}(hj:j<n) :
  ∃b x,ao=some ⟨b,0,none⟩/\o b=i/\w.cell? ⟨b,j,none⟩=some x/\w.frozen? ⟨b,j,none⟩=false/\∀ u,Row (w.setCell ⟨b,j,none⟩ u) o i e 1 (.slice ao n cap) n (xs.set j u):=by
 obtain⟨g,c,hv,ho,-,-,-,hc,hf⟩:=h.pos (by omega);simp only[Value.slice.injEq,true_and] at hv;obtain⟨rfl,rfl⟩:=hv;have hl:=h.len;have hjx:j<xs.length:=by omega
 exact⟨g,xs[j],rfl,ho,by rw[hc j (by omega)];exact List.getElem?_eq_getElem hjx,hf j,fun u=>h.store j u⟩
structure f7 (w0:World)(o0:Nat->Nat)(g:Nat)(p:PlQ)(c:CdQ)(w:World)(o:Nat->Nat):Prop where
 bx:Blk w o 9 g (.cells (f9 p c) 42)
 ws:∃xs,Row w o 3 54 1 (.slice p.aw c.ws.length p.cw) c.ws.length xs
 cs:∃xs,Row w o 4 3 1 (.slice p.ac c.cs.length p.cc) c.cs.length xs
 ns:∃xs,Row w o 5 9 1 (.slice p.an c.ns.length p.cn) c.ns.length xs
 ks:∃xs,Row w o 6 3 1 (.slice p.ak c.ks.length p.ck) c.ks.length xs
 sp:aa lO w0 o0 w o
theorem f7.ws1 {w0 w:World}{o0 o:Nat->Nat}{g:Nat}{p:PlQ}{c:CdQ}(h:f7 w0 o0 g p c w o){j:Nat}(hj:j<c.ws.length):∃b x,p.aw=some ⟨b,0,none⟩/\w.cell? ⟨b,j,none⟩=some x/\w.frozen? ⟨b,j,none⟩=false/\∀ u,f7 w0 o0 g p c (w.setCell ⟨b,j,none⟩ u) o:=by
 obtain⟨xs,hx⟩:=h.ws;obtain⟨b,x,e1,e2,e3,e4,hr⟩:=hx.put1Q hj;have S:∀ u,aa (fun k=>k=3) w o (w.setCell ⟨b,j,none⟩ u) o:=fun u=>(aa.refl _ w o).setCell ⟨b,j,none⟩ u e2;exact⟨b,x,e1,e3,e4,fun u=>⟨h.bx.step (S u) (by decide),⟨_,hr u⟩,(by obtain⟨ys,hy⟩:=h.cs;exact⟨ys,hy.step (S u) (by decide)⟩),(by obtain⟨ys,hy⟩:=h.ns;exact⟨ys,hy.step (S u) (by decide)⟩),(by obtain⟨ys,hy⟩:=h.ks;exact⟨ys,hy.step (S u) (by decide)⟩),h.sp.trans ((S u).mono (fun k hk=>by subst hk;decide))⟩⟩
theorem f7.cs1 {w0 w:World}{o0 o:Nat->Nat}{g:Nat}{p:PlQ}{c:CdQ}(h:f7 w0 o0 g p c w o){j:Nat}(hj:j<c.cs.length):∃b x,p.ac=some ⟨b,0,none⟩/\w.cell? ⟨b,j,none⟩=some x/\w.frozen? ⟨b,j,none⟩=false/\∀ u,f7 w0 o0 g p c (w.setCell ⟨b,j,none⟩ u) o:=by
 obtain⟨xs,hx⟩:=h.cs;obtain⟨b,x,e1,e2,e3,e4,hr⟩:=hx.put1Q hj;have S:∀ u,aa (fun k=>k=4) w o (w.setCell ⟨b,j,none⟩ u) o:=fun u=>(aa.refl _ w o).setCell ⟨b,j,none⟩ u e2;exact⟨b,x,e1,e3,e4,fun u=>⟨h.bx.step (S u) (by decide),(by obtain⟨ys,hy⟩:=h.ws;exact⟨ys,hy.step (S u) (by decide)⟩),⟨_,hr u⟩,(by obtain⟨ys,hy⟩:=h.ns;exact⟨ys,hy.step (S u) (by decide)⟩),(by obtain⟨ys,hy⟩:=h.ks;exact⟨ys,hy.step (S u) (by decide)⟩),h.sp.trans ((S u).mono (fun k hk=>by subst hk;decide))⟩⟩
theorem f7.ns1 {w0 w:World}{o0 o:Nat->Nat}{g:Nat}{p:PlQ}{c:CdQ}(h:f7 w0 o0 g p c w o){j:Nat}(hj:j<c.ns.length):∃b x,p.an=some ⟨b,0,none⟩/\w.cell? ⟨b,j,none⟩=some x/\w.frozen? ⟨b,j,none⟩=false/\∀ u,f7 w0 o0 g p c (w.setCell ⟨b,j,none⟩ u) o:=by
 obtain⟨xs,hx⟩:=h.ns;obtain⟨b,x,e1,e2,e3,e4,hr⟩:=hx.put1Q hj;have S:∀ u,aa (fun k=>k=5) w o (w.setCell ⟨b,j,none⟩ u) o:=fun u=>(aa.refl _ w o).setCell ⟨b,j,none⟩ u e2;exact⟨b,x,e1,e3,e4,fun u=>⟨h.bx.step (S u) (by decide),(by obtain⟨ys,hy⟩:=h.ws;exact⟨ys,hy.step (S u) (by decide)⟩),(by obtain⟨ys,hy⟩:=h.cs;exact⟨ys,hy.step (S u) (by decide)⟩),⟨_,hr u⟩,(by obtain⟨ys,hy⟩:=h.ks;exact⟨ys,hy.step (S u) (by decide)⟩),h.sp.trans ((S u).mono (fun k hk=>by subst hk;decide))⟩⟩
theorem f7.ks1 {w0 w:World}{o0 o:Nat->Nat}{g:Nat}{p:PlQ}{c:CdQ}(h:f7 w0 o0 g p c w o){j:Nat}(hj:j<c.ks.length):∃b x,p.ak=some ⟨b,0,none⟩/\w.cell? ⟨b,j,none⟩=some x/\w.frozen? ⟨b,j,none⟩=false/\∀ u,f7 w0 o0 g p c (w.setCell ⟨b,j,none⟩ u) o:=by
 obtain⟨xs,hx⟩:=h.ks;obtain⟨b,x,e1,e2,e3,e4,hr⟩:=hx.put1Q hj;have S:∀ u,aa (fun k=>k=6) w o (w.setCell ⟨b,j,none⟩ u) o:=fun u=>(aa.refl _ w o).setCell ⟨b,j,none⟩ u e2;exact⟨b,x,e1,e3,e4,fun u=>⟨h.bx.step (S u) (by decide),(by obtain⟨ys,hy⟩:=h.ws;exact⟨ys,hy.step (S u) (by decide)⟩),(by obtain⟨ys,hy⟩:=h.cs;exact⟨ys,hy.step (S u) (by decide)⟩),(by obtain⟨ys,hy⟩:=h.ns;exact⟨ys,hy.step (S u) (by decide)⟩),⟨_,hr u⟩,h.sp.trans ((S u).mono (fun k hk=>by subst hk;decide))⟩⟩
theorem AY (p:PlQ)(c:CdQ)(w:World)(o:Nat->Nat)(h:qC w o p c) :
  Calls Tryz.prog 21 #[vY p c] w fun e w'=>e=.returned (.tuple #[])/\∃o',aa lO w o w' o':=by
 obtain⟨iw,iw1,iw2,iw3,iw4⟩:=aH sF;obtain⟨ii,ii1,ii2,ii3,ii4⟩:=aH oi;obtain⟨is,is1,is2,is3,is4⟩:=aH rJ;obtain⟨g,hg⟩:∃g,g=w.heap.size:=⟨_,rfl⟩
 obtain⟨w2,hw2⟩:∃w2,w2=w.alloc (.cells (f9 p c) 42):=⟨_,rfl⟩
 have SN:∀ {I:Nat->Prop},aa I w o w2 (ae w o 9):=fun {I}=>aa.newQ o 9 (by rw[hw2];exact b1 _ _);have G2:Blk w2 (ae w o 9) 9 g (.cells (f9 p c) 42):=by rw[hw2,hg];exact⟨heap_alloc_new _ _,ax (Nat.le_refl _)⟩
 have h2:=h.step (SN (I:=fun _=>False)) id id id id;have Z0:f7 w2 (ae w o 9) g p c w2 (ae w o 9):=⟨G2,⟨_,h2.ws⟩,⟨_,h2.cs⟩,⟨_,h2.ns⟩,⟨_,h2.ks⟩,aa.refl _ _ _⟩
 have SO:aa lO w o w2 (ae w o 9):=SN;have l1:=h.lw;have l2:=h.lc;have l3:=h.ln;have l4:=h.lk;generalize ae w o 9=o2 at *;have HG:=Lib.hid hg;have HSO:=Lib.hid SO;clear SN SO G2 h h2 hg;obtain⟨⟨a0,a1,a2,a3⟩,-⟩:=as Z0.bx.1;go_enter Tryz.func21,Tryz.ntmps21;go_wp2_with fail;rw[<-hw2,<-HG.out];clear hw2;go_wp2_with fail;go_loopw [2] (fun v wr=>∃k:Nat,v=.int .i64 (k:Nat)/\k<=c.ws.length/\f7 w2 o2 g p c wr o2) (fun v _=>c.ws.length-(intOf v).toNat)
 case atStart=>exact⟨0,by go_num,by omega,Z0⟩
 case round =>
  obtain⟨k,rfl,hk,Z1⟩:=hrel;clear a0 a1 a2 a3;obtain⟨⟨a0,a1,a2,a3⟩,-⟩:=as Z1.bx.1;by_cases hlt:k<c.ws.length
  ·have hkI:(k:Int)<(c.ws.length:Int):=by omega
   obtain⟨b,x,e1,e2,e3,HZ⟩:=Z1.ws1 hlt;have HZ2:=Lib.hid (HZ (.int .u64 9));rw[e1] at a0;clear HZ e1;go_wp2;go_roundw
   case rel=>(try ((repeat apply Exists.intro);refine⟨?_,rfl⟩));exact⟨k+1,by go_num,by omega,HZ2.out⟩
   case measure=>simp[intOf];omega
  ·have hkI:¬(k:Int)<(c.ws.length:Int):=by omega
   clear hlt hk;go_wp2_with fail;go_loopw [3] (fun v wr=>∃k:Nat,v=.int .i64 (k:Nat)/\k<=c.cs.length/\f7 w2 o2 g p c wr o2) (fun v _=>c.cs.length-(intOf v).toNat)
   case atStart=>exact⟨0,by go_num,by omega,Z1⟩
   case round =>
    obtain⟨k,rfl,hk,Z2⟩:=hrel;clear a0 a1 a2 a3;obtain⟨⟨a0,a1,a2,a3⟩,-⟩:=as Z2.bx.1;by_cases hlt:k<c.cs.length
    ·have hkI:(k:Int)<(c.cs.length:Int):=by omega
     obtain⟨b,x,e1,e2,e3,HZ⟩:=Z2.cs1 hlt;have HZ2:=Lib.hid (HZ (.int .i64 (-9)));rw[e1] at a1;clear HZ e1;go_wp2;go_roundw
     case rel=>(try ((repeat apply Exists.intro);refine⟨?_,rfl⟩));exact⟨k+1,by go_num,by omega,HZ2.out⟩
     case measure=>simp[intOf];omega
    ·have hkI:¬(k:Int)<(c.cs.length:Int):=by omega
     clear hlt hk;go_wp2_with fail;go_loopw [4] (fun v wr=>∃k:Nat,v=.int .i64 (k:Nat)/\k<=c.ns.length/\f7 w2 o2 g p c wr o2) (fun v _=>c.ns.length-(intOf v).toNat)
     case atStart=>exact⟨0,by go_num,by omega,Z2⟩
     case round =>
      obtain⟨k,rfl,hk,Z3⟩:=hrel;clear a0 a1 a2 a3;obtain⟨⟨a0,a1,a2,a3⟩,-⟩:=as Z3.bx.1;by_cases hlt:k<c.ns.length
      ·have hkI:(k:Int)<(c.ns.length:Int):=by omega
       obtain⟨b,x,e1,e2,e3,HZ⟩:=Z3.ns1 hlt;have HZ2:=Lib.hid (HZ (.string ⟨#[111,118,101,114]⟩));rw[e1] at a2;clear HZ e1;go_wp2;go_roundw
       case rel=>(try ((repeat apply Exists.intro);refine⟨?_,rfl⟩));exact⟨k+1,by go_num,by omega,HZ2.out⟩
       case measure=>simp[intOf];omega
      ·have hkI:¬(k:Int)<(c.ns.length:Int):=by omega
       clear hlt hk;go_wp2_with fail;go_loopw [5] (fun v wr=>∃k:Nat,v=.int .i64 (k:Nat)/\k<=c.ks.length/\f7 w2 o2 g p c wr o2) (fun v _=>c.ks.length-(intOf v).toNat)
       case atStart=>exact⟨0,by go_num,by omega,Z3⟩
       case round =>
        obtain⟨k,rfl,hk,Z4⟩:=hrel;clear a0 a1 a2 a3;obtain⟨⟨a0,a1,a2,a3⟩,-⟩:=as Z4.bx.1;by_cases hlt:k<c.ks.length
        ·have hkI:(k:Int)<(c.ks.length:Int):=by omega
         obtain⟨b,x,e1,e2,e3,HZ⟩:=Z4.ks1 hlt;have HZ2:=Lib.hid (HZ (.int .i64 (-9)));rw[e1] at a3;clear HZ e1;go_wp2;go_roundw
         case rel=>(try ((repeat apply Exists.intro);refine⟨?_,rfl⟩));exact⟨k+1,by go_num,by omega,HZ2.out⟩
         case measure=>simp[intOf];omega
        ·have hkI:¬(k:Int)<(c.ks.length:Int):=by omega
         clear hlt hk;obtain⟨x1,P1⟩:=Z4.ws;obtain⟨x2,P2⟩:=Z4.cs;obtain⟨x3,P3⟩:=Z4.ns;obtain⟨x4,P4⟩:=Z4.ks;have SX:=Z4.sp;have BX:=Z4.bx;clear Z4;go_wp2_with (first|(at_builtin;refine aB rfl _ _ 39 rfl 54 iw (.int .u64 0) 1 8 Tryz.underlying39 iw1 iw2 iw3 iw4 rfl (by decide) o2 3 _ c.ws.length x1 (by first|rfl|(simp;done)) (P1.step (aa.ofBelow (I:=fun _=>False) o2 (b1 _ _)) id) ⟨wr.heap.size,0,none⟩ 1 1 [.int .u64 8] rfl rfl ?c1 ?d1 (by decide) ?e1 ?f1 ?_)|go_in);try case c1=>exact cL _ _ _
         try case d1=>first|rfl|exact ge _ rfl
         case e1=>unfold maxLen;omega
         case f1=>omega
         intro g1 q1 w1a o1a P1 S1;have S1n:aa (fun k=>k=3) wr o2 w1a o1a:=(aa.ofBelow o2 (b1 wr (.cells #[.int .u64 8] 54))).trans S1;have SX:=SX.trans (S1n.mono (J:=lO) (fun k hk=>by subst hk;decide));have BX:=BX.step S1n (by decide)
         replace P2:=P2.step S1n (by decide)
         replace P3:=P3.step S1n (by decide)
         replace P4:=P4.step S1n (by decide)
         clear S1 S1n a0 a1 a2 a3;obtain⟨⟨a0,a1,a2,a3⟩,-⟩:=as BX.1;go_wp2_with (first|(at_builtin;refine aB rfl _ _ 35 rfl 3 ii (.int .i64 0) 1 8 Tryz.underlying35 ii1 ii2 ii3 ii4 rfl (by decide) o1a 4 _ c.cs.length x2 (by first|rfl|(simp;done)) (P2.step (aa.ofBelow (I:=fun _=>False) o1a (b1 _ _)) id) ⟨w1a.heap.size,0,none⟩ 1 1 [.int .i64 8] rfl rfl ?c2 ?d2 (by decide) ?e2 ?f2 ?_)|go_in);try case c2=>exact cL _ _ _
         try case d2=>first|rfl|exact ge _ rfl
         case e2=>unfold maxLen;omega
         case f2=>omega
         intro g2 q2 w2a o2a P2 S2;have S2n:aa (fun k=>k=4) w1a o1a w2a o2a:=(aa.ofBelow o1a (b1 w1a (.cells #[.int .i64 8] 3))).trans S2;have SX:=SX.trans (S2n.mono (J:=lO) (fun k hk=>by subst hk;decide));have BX:=BX.step S2n (by decide)
         replace P1:=P1.step S2n (by decide)
         replace P3:=P3.step S2n (by decide)
         replace P4:=P4.step S2n (by decide)
         clear S2 S2n a0 a1 a2 a3;obtain⟨⟨a0,a1,a2,a3⟩,-⟩:=as BX.1;go_wp2_with (first|(at_builtin;refine aB rfl _ _ 40 rfl 9 is (.string ⟨#[]⟩) 1 16 Tryz.underlying40 is1 is2 is3 is4 rfl (by decide) o2a 5 _ c.ns.length x3 (by first|rfl|(simp;done)) (P3.step (aa.ofBelow (I:=fun _=>False) o2a (b1 _ _)) id) ⟨w2a.heap.size,0,none⟩ 1 1 [.string ⟨#[109,111,114,101]⟩] rfl rfl ?c3 ?d3 (by decide) ?e3 ?f3 ?_)|go_in);try case c3=>exact cL _ _ _
         try case d3=>first|rfl|exact ge _ rfl
         case e3=>unfold maxLen;omega
         case f3=>omega
         intro g3 q3 w3a o3a P3 S3;have S3n:aa (fun k=>k=5) w2a o2a w3a o3a:=(aa.ofBelow o2a (b1 w2a (.cells #[.string ⟨#[109,111,114,101]⟩] 9))).trans S3;have SX:=SX.trans (S3n.mono (J:=lO) (fun k hk=>by subst hk;decide));have BX:=BX.step S3n (by decide)
         replace P1:=P1.step S3n (by decide)
         replace P2:=P2.step S3n (by decide)
         replace P4:=P4.step S3n (by decide)
         clear S3 S3n a0 a1 a2 a3;obtain⟨⟨a0,a1,a2,a3⟩,-⟩:=as BX.1;go_wp2_with (first|(at_builtin;refine aB rfl _ _ 35 rfl 3 ii (.int .i64 0) 1 8 Tryz.underlying35 ii1 ii2 ii3 ii4 rfl (by decide) o3a 6 _ c.ks.length x4 (by first|rfl|(simp;done)) (P4.step (aa.ofBelow (I:=fun _=>False) o3a (b1 _ _)) id) ⟨w3a.heap.size,0,none⟩ 1 1 [.int .i64 8] rfl rfl ?c4 ?d4 (by decide) ?e4 ?f4 ?_)|go_in);try case c4=>exact cL _ _ _
         try case d4=>first|rfl|exact ge _ rfl
         case e4=>unfold maxLen;omega
         case f4=>omega
         intro g4 q4 w4a o4a P4 S4;have S4n:aa (fun k=>k=6) w3a o3a w4a o4a:=(aa.ofBelow o3a (b1 w3a (.cells #[.int .i64 8] 3))).trans S4;have SX:=SX.trans (S4n.mono (J:=lO) (fun k hk=>by subst hk;decide));have BX:=BX.step S4n (by decide)
         replace P1:=P1.step S4n (by decide)
         replace P2:=P2.step S4n (by decide)
         replace P3:=P3.step S4n (by decide)
         clear S4 S4n a0 a1 a2 a3;obtain⟨⟨a0,a1,a2,a3⟩,-⟩:=as BX.1;obtain⟨b1,y1,r1,ob1,c1,f1,R1⟩:=P1.put1Q (j:=c.ws.length) (by omega);cases r1;have S1:aa (fun k=>k=3) w4a o4a (w4a.setCell ⟨g1,c.ws.length,none⟩ (.int .u64 1)) o4a:=(aa.refl _ _ _).setCell ⟨g1,c.ws.length,none⟩ (.int .u64 1) ob1
         replace P2:=P2.step S1 (by decide)
         replace P3:=P3.step S1 (by decide)
         replace P4:=P4.step S1 (by decide)
         have SX:=SX.trans (S1.mono (J:=lO) (fun k hk=>by subst hk;decide));clear S1 R1;obtain⟨v1,hv1⟩:∃v1,v1=w4a.setCell ⟨g1,c.ws.length,none⟩ (.int .u64 1):=⟨_,rfl⟩
         have hI1:((c.ws.length:Int)+1)-1=(c.ws.length:Int):=by omega
         try rw[<-hv1] at SX
         try rw[<-hv1] at P2
         try rw[<-hv1] at P3
         try rw[<-hv1] at P4
         have HV1:=Lib.hid hv1;clear hv1;go_upto_region 22 with fail;rw[<-HV1.out];clear HV1;obtain⟨b2,y2,r2,ob2,c2,f2,R2⟩:=P2.put1Q (j:=c.cs.length) (by omega);cases r2;have S2:aa (fun k=>k=4) v1 o4a (v1.setCell ⟨g2,c.cs.length,none⟩ (.int .i64 1)) o4a:=(aa.refl _ _ _).setCell ⟨g2,c.cs.length,none⟩ (.int .i64 1) ob2
         replace P3:=P3.step S2 (by decide)
         replace P4:=P4.step S2 (by decide)
         have SX:=SX.trans (S2.mono (J:=lO) (fun k hk=>by subst hk;decide));clear S2 R2;obtain⟨v2,hv2⟩:∃v2,v2=v1.setCell ⟨g2,c.cs.length,none⟩ (.int .i64 1):=⟨_,rfl⟩
         have hI2:((c.cs.length:Int)+1)-1=(c.cs.length:Int):=by omega
         try rw[<-hv2] at SX
         try rw[<-hv2] at P3
         try rw[<-hv2] at P4
         have HV2:=Lib.hid hv2;clear hv2;go_upto_region 23 with fail;rw[<-HV2.out];clear HV2;obtain⟨b3,y3,r3,ob3,c3,f3,R3⟩:=P3.put1Q (j:=c.ns.length) (by omega);cases r3;have S3:aa (fun k=>k=5) v2 o4a (v2.setCell ⟨g3,c.ns.length,none⟩ (.string ⟨#[103,114,111,119,110]⟩)) o4a:=(aa.refl _ _ _).setCell ⟨g3,c.ns.length,none⟩ (.string ⟨#[103,114,111,119,110]⟩) ob3
         replace P4:=P4.step S3 (by decide)
         have SX:=SX.trans (S3.mono (J:=lO) (fun k hk=>by subst hk;decide));clear S3 R3;obtain⟨v3,hv3⟩:∃v3,v3=v2.setCell ⟨g3,c.ns.length,none⟩ (.string ⟨#[103,114,111,119,110]⟩):=⟨_,rfl⟩
         have hI3:((c.ns.length:Int)+1)-1=(c.ns.length:Int):=by omega
         try rw[<-hv3] at SX
         try rw[<-hv3] at P4
         have HV3:=Lib.hid hv3;clear hv3;go_upto_region 24 with fail;rw[<-HV3.out];clear HV3;obtain⟨b4,y4,r4,ob4,c4,f4,R4⟩:=P4.put1Q (j:=c.ks.length) (by omega);cases r4;have S4:aa (fun k=>k=6) v3 o4a (v3.setCell ⟨g4,c.ks.length,none⟩ (.int .i64 1)) o4a:=(aa.refl _ _ _).setCell ⟨g4,c.ks.length,none⟩ (.int .i64 1) ob4;have SX:=SX.trans (S4.mono (J:=lO) (fun k hk=>by subst hk;decide));clear S4 R4;obtain⟨v4,hv4⟩:∃v4,v4=v3.setCell ⟨g4,c.ks.length,none⟩ (.int .i64 1):=⟨_,rfl⟩
         have hI4:((c.ks.length:Int)+1)-1=(c.ks.length:Int):=by omega
         try rw[<-hv4] at SX
         have HV4:=Lib.hid hv4;clear hv4;go_wp2
         go_end0
         exact⟨rfl,_,HSO.out.trans (by rw[<-HV4.out];exact SX)⟩
end Go.Proofs.YtbjdkekhnajafaaGreatDoor

import Derived.Test.YtbjdkekhnajafaaGreatDoorBrkM
import Derived.Lib.SliceRun
import Derived.Deep.RegionLaw
set_option maxRecDepth 100000
set_option maxHeartbeats 8000000
namespace Go.Proofs.YtbjdkekhnajafaaGreatDoor
open Go.ChangeShapes Go.WideShapes Go.ChangeAt Go.RowKit
set_option linter.unusedVariables false
set_option linter.unusedSimpArgs false
def LFn (w:World)(P:Nat->Prop):Fs->List Value->Prop
 | ⟨none⟩,xs=>xs=[]
 | ⟨some ⟨k,n,nm,a,ks,r⟩⟩,xs=>∃b cap zs ys,xs=.int .i64 k::.int .i64 n::stv nm::.slice (some ⟨b,0,none⟩) ks.len cap::ys /\
   (P b/\b<w.heap.size/\ks.len+1<=cap/\cap<=maxLen/\(∀ j u,zs[j]?=some u->w.cell? ⟨b,0+j,none⟩=some u)/\w.cell? ⟨b,ks.len*4,none⟩=some (.int .i64 (-7))/\LFn w P ks zs)/\LFn w P r ys
def Spn (w:World)(P:Nat->Prop)(f:Fs)(b cap:Nat):Prop :=
 ∃zs,P b/\b<w.heap.size/\f.len+1<=cap/\cap<=maxLen/\(∀ j u,zs[j]?=some u->w.cell? ⟨b,0+j,none⟩=some u)/\w.cell? ⟨b,f.len*4,none⟩=some (.int .i64 (-7))/\LFn w P f zs
theorem LFn.len {w:World}{P:Nat->Prop}:∀ {f:Fs}{xs:List Value},LFn w P f xs->xs.length=f.len*4
 | ⟨none⟩,xs,h=>by
  have h:xs=[]:=h;subst h;rfl
 | ⟨some ⟨k,n,nm,a,ks,r⟩⟩,xs,h=>by
  obtain⟨b,cap,zs,ys,rfl,_,h2⟩:=h
  have:=LFn.len h2
  simp only[List.length_cons,Fs.len];omega
theorem LFn.mono {w w':World}{P Q:Nat->Prop}(hb:∀ k,P k->k<w.heap.size->w'.heap[k]?=w.heap[k]?)(hs:w.heap.size<=w'.heap.size)(hq:∀ k,P k->k<w.heap.size->Q k):∀ {f:Fs}{xs:List Value},LFn w P f xs->LFn w' Q f xs
 | ⟨none⟩,xs,h=>h
 | ⟨some ⟨k,n,nm,a,ks,r⟩⟩,xs,h=>by
  obtain⟨b,cap,zs,ys,rfl,⟨hp,hlt,h1,h2,hc,h7,h3⟩,h4⟩:=h;exact⟨b,cap,zs,ys,rfl,⟨hq b hp hlt,Nat.lt_of_lt_of_le hlt hs,h1,h2,fun j u hu=>(World.cell?_of_block (a:=⟨b,0+j,none⟩) (hb b hp hlt)).trans (hc j u hu),(World.cell?_of_block (a:=⟨b,ks.len*4,none⟩) (hb b hp hlt)).trans h7,LFn.mono hb hs hq h3⟩,LFn.mono hb hs hq h4⟩
theorem Spn.mono {w w':World}{P Q:Nat->Prop}{f:Fs}{b cap:Nat}(hb:∀ k,P k->k<w.heap.size->w'.heap[k]?=w.heap[k]?)(hs:w.heap.size<=w'.heap.size)(hq:∀ k,P k->k<w.heap.size->Q k)(h:Spn w P f b cap):Spn w' Q f b cap:=by
 obtain⟨zs,hp,hlt,h1,h2,hc,h7,h3⟩:=h;exact⟨zs,hq b hp hlt,Nat.lt_of_lt_of_le hlt hs,h1,h2,fun j u hu=>(World.cell?_of_block (a:=⟨b,0+j,none⟩) (hb b hp hlt)).trans (hc j u hu),(World.cell?_of_block (a:=⟨b,f.len*4,none⟩) (hb b hp hlt)).trans h7,h3.mono hb hs hq⟩
theorem LFn.fc {w:World}{P:Nat->Prop}:∀ {f:Fs}{xs:List Value},LFn w P f xs->FcN w P f xs
 | ⟨none⟩,xs,h=>h
 | ⟨some ⟨k,n,nm,a,ks,r⟩⟩,xs,h=>by
  obtain⟨b,cap,zs,ys,rfl,⟨hp,hlt,h1,h2,hc,h7,h3⟩,h4⟩:=h;exact⟨some ⟨b,0,none⟩,cap,ys,rfl,.inr ⟨b,0,zs,rfl,hp,hlt,hc,h3.fc⟩,h4.fc⟩
theorem Spn.sl {w:World}{P:Nat->Prop}{f:Fs}{b cap:Nat}(h:Spn w P f b cap):SnA w f (some ⟨b,0,none⟩):=by
 obtain⟨zs,hp,hlt,h1,h2,hc,h7,h3⟩:=h;exact(show SlN w P f (some ⟨b,0,none⟩) from .inr ⟨b,0,zs,rfl,hp,hlt,hc,h3.fc⟩).all
theorem LFn.app {w:World}{P:Nat->Prop}:∀ {f g:Fs}{xs ys:List Value},LFn w P f xs->LFn w P g ys->LFn w P (f.app g) (xs++ys)
 | ⟨none⟩,g,xs,ys,h,k=>by
  have h:xs=[]:=h;subst h;exact k
 | ⟨some ⟨i,n,nm,a,ks,r⟩⟩,g,xs,ys,h,k=>by
  obtain⟨b,cap,zs,us,rfl,h1,h2⟩:=h;exact⟨b,cap,zs,us++ys,rfl,h1,LFn.app h2 k⟩
theorem LFn.one {w:World}{P:Nat->Prop}{e:Ex}{b cap:Nat}(h:Spn w P e.kids b cap):LFn w P (one e) [.int .i64 e.k,.int .i64 e.n,stv e.nm,.slice (some ⟨b,0,none⟩) e.kids.len cap]:=by
 obtain⟨zs,h⟩:=h;exact⟨b,cap,zs,[],rfl,h,rfl⟩
theorem LFn.lab {I:Nat->Prop}{w w':World}{o o':Nat->Nat}{n0:Nat}{f:Fs}{xs:List Value}(h:LFn w (N0 n0 o) f xs)(s:aa I w o w' o')(h0:¬I 0):LFn w' (N0 n0 o') f xs :=
 h.mono (fun i hp hl=>s.block i hl (by rw[hp.2];exact h0)) s.size (fun i hp hl=>⟨hp.1,(s.lab i hl).trans hp.2⟩)
theorem Spn.lab {I:Nat->Prop}{w w':World}{o o':Nat->Nat}{n0 b cap:Nat}{f:Fs}(h:Spn w (N0 n0 o) f b cap)(s:aa I w o w' o')(h0:¬I 0):Spn w' (N0 n0 o') f b cap :=
 h.mono (fun i hp hl=>s.block i hl (by rw[hp.2];exact h0)) s.size (fun i hp hl=>⟨hp.1,(s.lab i hl).trans hp.2⟩)
def gr (w:World)(o:Nat->Nat)(n0:Nat)(acc:Fs)(v:Value):Prop:=∃xs,Row w o 2 34 4 v acc.len xs/\LFn w (N0 n0 o) acc xs
theorem gr.step {I:Nat->Prop}{w w':World}{o o':Nat->Nat}{n0:Nat}{acc:Fs}{v:Value}(h:gr w o n0 acc v)(s:aa I w o w' o')(h0:¬I 0)(h2:¬I 2):gr w' o' n0 acc v:=by
 obtain⟨xs,r,f⟩:=h;exact⟨xs,r.step s h2,f.lab s h0⟩
theorem gr.push {w w2:World}{o o2:Nat->Nat}{n0 b ce:Nat}{acc:Fs}{xs:List Value}{v2:Value}{y:Ex}(f:LFn w (N0 n0 o) acc xs)(S:Spn w (N0 n0 o) y.kids b ce)(s:aa (fun x=>x=2) w o w2 o2)
  (r:Row w2 o2 2 34 4 v2 (acc.len+1) (xs++[.int .i64 y.k,.int .i64 y.n,stv y.nm,.slice (some ⟨b,0,none⟩) y.kids.len ce])):gr w2 o2 n0 (acc.snoc y) v2 :=
 ⟨_,by rw[Fs.len_snoc];exact r,(f.lab s (by decide)).app (LFn.one (S.lab s (by decide)))⟩
theorem gr.last {w w2:World}{o o2:Nat->Nat}{n0 g cap:Nat}{acc:Fs}{xs:List Value}(f:LFn w (N0 n0 o) acc xs)(s:aa (fun x=>x=2) w o w2 o2)(ho:∀ k,k<n0->o2 k=0)
  (r:Row w2 o2 2 34 4 (.slice (some ⟨g,0,none⟩) (acc.len+1) cap) (acc.len+1) (xs++[.int .i64 (-7),.int .i64 0,.string ⟨#[]⟩,.slice none 0 0])) :
  Spn w2 (fun b=>n0<=b/\(o2 b=0\/o2 b=2)) acc g cap/\acc.len+1<=cap:=by
 obtain⟨g',cap',hv,hg,hc1,hc2,hlt,hc,_⟩:=r.pos (by omega);simp only[Value.slice.injEq,Option.some.injEq,Addr.mk.injEq,true_and,and_true] at hv;obtain⟨rfl,rfl⟩:=hv;have hl:=f.len;have f2:=f.lab s (by decide);refine⟨⟨xs,⟨?_,.inr hg⟩,hlt,hc1,hc2,fun j u hu=>?_,?_,f2.mono (fun _ _ _=>rfl) (Nat.le_refl _) (fun _ hp _=>⟨hp.1,.inl hp.2⟩)⟩,hc1⟩
 ·by_cases hn:n0<=g
  ·exact hn
  ·have:=ho g (by omega)
   omega
 ·have hj:j<xs.length:=by
   by_cases hj:j<xs.length
   ·exact hj
   ·rw[List.getElem?_eq_none (by omega)] at hu;cases hu
  rw[Nat.zero_add,hc j (by omega),List.getElem?_append_left hj];exact hu
 ·rw[hc (acc.len*4) (by omega),List.getElem?_append_right (by omega),hl,Nat.sub_self];rfl
theorem nB (w:World)(b k:Nat)(b0 b1 b2 b3:Value)(h:k≠b):((((w.setCell ⟨b,0,none⟩ b0).setCell ⟨b,1,none⟩ b1).setCell ⟨b,2,none⟩ b2).setCell ⟨b,3,none⟩ b3).heap[k]?=w.heap[k]? :=
 (heap_setCell_other _ ⟨b,3,none⟩ k _ h).trans ((heap_setCell_other _ ⟨b,2,none⟩ k _ h).trans ((heap_setCell_other _ ⟨b,1,none⟩ k _ h).trans (heap_setCell_other _ ⟨b,0,none⟩ k _ h)))
def rF (w:World)(e:Ex)(x:Ending)(w':World):Prop:=∃b cap,x=.returned (exN e (some ⟨b,0,none⟩) cap)/\Spn w' (Nw w.heap.size) e.kids b cap/\Below w.heap.size w w'
def ov (N:Nat):Prop:=∀ (e:Ex) (ao:Option Addr) (cap:Nat) (w:World),e.kids.size<N->e.kids.len<=1000000000->e.kids.short->SnA w e.kids ao ->
 Calls Tryz.prog 43 #[exN e ao cap] w (rF w e)
theorem qM {N:Nat}(IH:ov N):ov (N+1):=by
 intro e ao cap w hN hlen hsh S;obtain⟨ii,hii,hzi0,hzi1,hzi2⟩:=aH pK;obtain⟨w0,hw0⟩:∃w0,w0=((w.alloc (.cells #[.int .i64 e.k,.int .i64 e.n,stv e.nm,.slice ao e.kids.len cap] 34)).alloc (.cells #[.int .i64 0,.int .i64 0,.string ⟨#[]⟩,.slice none 0 0] 34)).alloc (.cells #[.int .i64 e.k,.int .i64 e.n,stv e.nm,.slice none 0 0] 34):=⟨_,rfl⟩
 have B0:Below w.heap.size w w0:=by rw[hw0];exact(((Below.refl _ w).alloc (Nat.le_refl _) _).alloc (by simp) _).alloc (by simp;omega) _
 obtain⟨o0,ho0⟩:∃o0:Nat->Nat,o0=fun k=>if k=w.heap.size+1+1 then 1 else if k=w.heap.size+1 then 3 else 0:=⟨_,rfl⟩
 have E0:Blk w0 o0 0 w.heap.size (.cells #[.int .i64 e.k,.int .i64 e.n,stv e.nm,.slice ao e.kids.len cap] 34):=by
  refine⟨?_,by rw[ho0];simp only;rw[if_neg (by omega),if_neg (by omega)]⟩;rw[hw0];exact(Below.heap_alloc _ _ _ (by simp;omega)).trans ((Below.heap_alloc _ _ _ (by simp)).trans (heap_alloc_new w _))
 have Z0:Blk w0 o0 3 (w.heap.size+1) (.cells #[.int .i64 0,.int .i64 0,.string ⟨#[]⟩,.slice none 0 0] 34):=by
  refine⟨?_,by rw[ho0];simp⟩;rw[hw0];refine(Below.heap_alloc _ _ _ (by simp)).trans ?_
  have:=heap_alloc_new (w.alloc (.cells #[.int .i64 e.k,.int .i64 e.n,stv e.nm,.slice ao e.kids.len cap] 34)) (.cells #[.int .i64 0,.int .i64 0,.string ⟨#[]⟩,.slice none 0 0] 34)
  simpa using this
 have O0:Blk w0 o0 1 (w.heap.size+1+1) (.cells #[.int .i64 e.k,.int .i64 e.n,stv e.nm,.slice none 0 0] 34):=by
  refine⟨?_,by rw[ho0];simp⟩;rw[hw0]
  have:=heap_alloc_new ((w.alloc (.cells #[.int .i64 e.k,.int .i64 e.n,stv e.nm,.slice ao e.kids.len cap] 34)).alloc (.cells #[.int .i64 0,.int .i64 0,.string ⟨#[]⟩,.slice none 0 0] 34)) (.cells #[.int .i64 e.k,.int .i64 e.n,stv e.nm,.slice none 0 0] 34)
  simpa using this
 have L0:∀ k,k<w.heap.size->o0 k=0:=fun k hk=>by rw[ho0];simp only;rw[if_neg (by omega),if_neg (by omega)]
 have A0:gr w0 o0 w.heap.size .nil (.slice none 0 0):=⟨[],Row.nil _ _ _ _ _,rfl⟩
 rw[ah];go_enter Tryz.func43,Tryz.ntmps43;go_upto_region 2 with fail;rw[<-hw0];clear hw0 ho0;obtain⟨n0,hn0⟩:∃n0,n0=w.heap.size:=⟨_,rfl⟩
 unfold rF;rw[<-hn0] at E0 Z0 O0 L0 A0 B0 ⊢;have HB:Hid (n0=w.heap.size):=hn0;clear hn0;go_wp2;go_loopw [4] (fun v wr=>∃(done r:Fs) (o:Nat->Nat) (va:Value),Hid (e.kids=done.app r)/\v=.int .i64 (done.len:Nat)/\Blk wr o 0 n0 (.cells #[.int .i64 e.k,.int .i64 e.n,stv e.nm,.slice ao e.kids.len cap] 34)/\Blk wr o 3 (n0+1) (.cells #[.int .i64 0,.int .i64 0,.string ⟨#[]⟩,.slice none 0 0] 34)/\Blk wr o 1 (n0+1+1) (.cells #[.int .i64 e.k,.int .i64 e.n,stv e.nm,va] 34)/\gr wr o n0 done va/\Hid (∀ k,k<n0->o k=0)/\Below n0 w wr) (fun v _=>e.kids.len-(intOf v).toNat)
 case atStart=>exact⟨.nil,e.kids,o0,.slice none 0 0,rfl,by show _=Value.int .i64 ((0:Nat):Int);rfl,E0,Z0,O0,A0,L0,B0⟩
 case round =>
  clear E0 Z0 O0 A0 L0 B0;obtain⟨done,r,o,va,hk,rfl,E1,Z1,O1,A1,L1,B1⟩:=hrel;have hlk:e.kids.len=done.len+r.len:=by rw[hk.out,Fs.len_app]
  obtain⟨p0,p1,p2,p3,pf⟩:=aI E1.1;cases r using Fs.on with
  | nil =>
   have hl0:¬(done.len:Int)<(e.kids.len:Int):=by simp only[Fs.len] at hlk;omega
   have hdn:e.kids=done:=by rw[hk.out];clear hk hlk hl0 A1;exact jv done
   have HDN:=Lib.hid hdn;obtain⟨xs,R1,F1⟩:=A1;obtain⟨a8,c8,rfl⟩:=R1.form;have b1:done.len+1<=maxLen:=by unfold maxLen;omega
   have b2:(done.len+1)*56<=140737488355328:=by omega
   have hone:∀ u ∈ [Value.int .i64 (-7),.int .i64 0,.string ⟨#[]⟩,.slice none 0 0],u.oneCell'=true:=by intro u hu;simp at hu;rcases hu with rfl|rfl|rfl|rfl<;>rfl
   have hO:=O1.lt;clear hk hlk hdn;go_upto_region 7 with fail;go_cut [41] (fun v wx=>∃(o9:Nat->Nat) (g9 c9:Nat),Blk wx o9 1 (n0+1+1) (.cells #[.int .i64 e.k,.int .i64 e.n,stv e.nm,.slice (some ⟨g9,0,none⟩) done.len c9] 34 (0,0))/\Blk wx o9 3 (n0+1) (.cells #[.int .i64 0,.int .i64 0,.string ⟨#[]⟩,.slice none 0 0] 34 (0,0))/\Spn wx (fun b=>n0<=b/\(o9 b=0\/o9 b=2)) done g9 c9/\Below n0 w wx)
   case first =>
    obtain⟨t0,t1,t2,t3,tf⟩:=aI O1.1;have sA:=(aO (fun _=>False) wr o (.cells #[.int .i64 (-7),.int .i64 0,.string ⟨#[]⟩,.slice none 0 0] 34)).drew;have LA:Hid (∀ k,k<n0->ae wr o 0 k=0):=fun k hk=>by rw[aC (by have:=E1.lt;omega)];exact L1.out k hk
    have RA:=R1.step sA id;have FA:=F1.lab sA id;have OA:=O1.step sA id;have ZA:=Z1.step sA id;have BA:=aJ B1 sA (fun _ _=>id) (by rw[HB.out];exact Nat.le_refl _);have hnI:(done.len:Int)<=(done.len:Int)+1:=by omega
    go_region_law (refine cX rfl (.tmp 33) (.tmp 35) 32 rfl 34 ii _ 4 56 Tryz.underlying32 hii hzi0 hzi1 hzi2 rfl (by decide) (ae wr o 0) 2 _ done.len xs (by simp[Act.eval,Act.put]) RA ⟨wr.heap.size,0,none⟩ 1 1 [Value.int .i64 (-7),.int .i64 0,.string ⟨#[]⟩,.slice none 0 0] (by simp[Act.eval,Act.put]) rfl (dh wr _ _) hone (by decide) b1 b2 ?_;intro g9 c9 w9 o9 r9 s9;have L9:∀ k,k<n0->o9 k=0:=fun k hk=>(s9.lab k (by have h1:=OA.lt;omega)).trans (LA.out k hk);have SP:=gr.last FA s9 L9 r9;have hc9:done.len<=c9:=(by have:=SP.2;omega);have O9:=OA.step s9 (by decide);have Z9:=ZA.step s9 (by decide);have B9:=aJ BA s9 (fun k hk=>by rw[LA.out k hk];decide) (by rw[HB.out];exact Nat.le_refl _);obtain⟨u0,u1,u2,u3,uf⟩:=aI O9.1)
    all_goals
     have s10:aa (fun k=>k=1) w9 o9 (w9.setCell ⟨n0+1+1,3,none⟩ (.slice (some ⟨g9,0,none⟩) done.len c9)) o9:=bT _ w9 o9 ⟨n0+1+1,3,none⟩ _ O9.2;have O10:=O9.set 3 (.slice (some ⟨g9,0,none⟩) done.len c9);have Z10:=Z9.step s10 (by decide);have B10:=aJ B9 s10 (fun k hk=>by rw[L9 k hk];decide) (by rw[HB.out];exact Nat.le_refl _);have SP10:=SP.1.mono (fun i hp hl=>s10.block i hl (by rcases hp.2 with h|h<;>omega)) s10.size (fun _ h _=>h);clear s10 SP O9 Z9 B9 L9 s9 r9 RA FA OA ZA BA LA sA;go_wp2;go_meet;exact⟨o9,g9,c9,O10,Z10,SP10,B10⟩
   case rest =>
   obtain⟨o9,g9,c9,O9,Z9,SP,B9⟩:=hcut;clear E1 Z1 O1 R1 F1 L1 B1;have SE:=SP.mono (w':=(((wc.setCell ⟨n0+1,0,none⟩ (.int .i64 e.k)).setCell ⟨n0+1,1,none⟩ (.int .i64 e.n)).setCell ⟨n0+1,2,none⟩ (stv e.nm)).setCell ⟨n0+1,3,none⟩ (.slice (some ⟨g9,0,none⟩) done.len c9)) (Q:=Nw n0) (fun i hp hl=>nB wc (n0+1) i _ _ _ _ (fun ee=>by
    have h2:=Z9.2;rw[<-ee] at h2;rcases hp.2 with h|h<;>omega)) (by simp) (fun i hp _=>hp.1)
   have BE:=(((B9.setCell (p:=⟨n0+1,0,none⟩) (Nat.le_succ _) (.int .i64 e.k)).setCell (p:=⟨n0+1,1,none⟩) (Nat.le_succ _) (.int .i64 e.n)).setCell (p:=⟨n0+1,2,none⟩) (Nat.le_succ _) (stv e.nm)).setCell (p:=⟨n0+1,3,none⟩) (Nat.le_succ _) (.slice (some ⟨g9,0,none⟩) done.len c9);have ZE:=wH (b0:=.int .i64 e.k) (b1:=.int .i64 e.n) (b2:=stv e.nm) (b3:=.slice (some ⟨g9,0,none⟩) done.len c9) Z9.1;have HU:Hid (∃wz,wz=(((wc.setCell ⟨n0+1,0,none⟩ (.int .i64 e.k)).setCell ⟨n0+1,1,none⟩ (.int .i64 e.n)).setCell ⟨n0+1,2,none⟩ (stv e.nm)).setCell ⟨n0+1,3,none⟩ (.slice (some ⟨g9,0,none⟩) done.len c9)/\wz.cell? ⟨n0+1,0,none⟩=some (.int .i64 e.k)/\wz.cell? ⟨n0+1,1,none⟩=some (.int .i64 e.n)/\wz.cell? ⟨n0+1,2,none⟩=some (stv e.nm)/\wz.cell? ⟨n0+1,3,none⟩=some (.slice (some ⟨g9,0,none⟩) done.len c9)/\Spn wz (Nw n0) done g9 c9/\Below n0 w wz):=by
    obtain⟨u0,u1,u2,u3,-⟩:=aI ZE;exact⟨_,rfl,u0,u1,u2,u3,SE,BE⟩
   obtain⟨u0,u1,u2,u3,uf⟩:=aI O9.1;obtain⟨z0,z1,z2,z3,zf⟩:=aI Z9.1;clear SE BE ZE O9 Z9 SP B9;go_wp2;obtain⟨wz,hwz,v0,v1,v2,v3,SZ,BZ⟩:=HU.out;clear HU;rw[<-hwz];clear hwz;refine bodyPost_ret (v:=exN e (some ⟨g9,0,none⟩) c9) (by simp[results,Tryz.results43,go_sem,v0,v1,v2,v3,exN,HDN.out]) rfl ⟨g9,c9,rfl,by rw[HDN.out,<-HB.out];exact SZ,by rw[<-HB.out];exact BZ⟩
  | cons kk kn km ka kks kr =>
   have hl0:(done.len:Int)<(e.kids.len:Int):=by simp only[Fs.len] at hlk;omega
   have hl1:done.len<e.kids.len:=by omega
   have hsz:e.kids.size=done.size+(kks.size+kr.size+1):=by rw[hk.out,Fs.size_app];rfl
   have hsk:(Fs.cons kk kn km ka kks kr).short:=Fs.app_short (by rw[<-hk.out];exact hsh);have hn0:n0<=wr.heap.size:=by have:=E1.lt;omega
   obtain⟨b,off,ak,ck,hao,lb1,-,x0,x1,x2,x3,SK⟩:=SlN.kidQ (by rw[<-hk.out];exact SnA.below S (by rw[<-HB.out];exact B1));subst hao;obtain⟨y,hy⟩:∃y:Ex,y=⟨kk,kn,km,ka,kks⟩:=⟨_,rfl⟩
   have hc0:=IH ⟨kk,kn,km,ka,kks⟩ ak ck wr (by show kks.size<N;omega) hsk.2.1 hsk.2.2.1 SK;have hc:Calls Tryz.prog 43 #[.agg #[.int .i64 kk,.int .i64 kn,stv km,.slice ak kks.len ck]] wr (rF wr y):=by rw[hy];exact hc0
   clear hc0;have hk2:Hid (e.kids=(done.snoc ⟨kk,kn,km,ka,kks⟩).app kr):=by show e.kids=_;rw[hk.out];unfold Fs.snoc;rw[Fs.app_assoc];rfl
   have HS:Hid (done.snoc ⟨kk,kn,km,ka,kks⟩=done.snoc y):=by show _=_;rw[hy]
   have hl2:(done.len:Int)+1=((done.snoc ⟨kk,kn,km,ka,kks⟩).len:Nat):=by rw[Fs.len_snoc];rfl
   clear hlk hsz hsk hy SK;go_wp2_with fail;refine hc.mono ?_;rintro x w6 ⟨bk6,ck6,rfl,S6,b6⟩;have s6:aa (fun _=>False) wr o w6 (ae wr o 0):=((aa.refl _ wr o).labelled 0).trans (aa.ofB (ae wr o 0) b6);have T6:Spn w6 (N0 n0 (ae wr o 0)) y.kids bk6 ck6:=S6.mono (fun _ _ _=>rfl) (Nat.le_refl _) (fun i hp hl=>⟨Nat.le_trans hn0 hp,ax hp⟩);have L6:Hid (∀ k,k<n0->ae wr o 0 k=0):=fun k hk=>by rw[aC (by omega)];exact L1.out k hk
   have E6:=E1.step s6 id;have Z6:=Z1.step s6 id;have O6:=O1.step s6 id;have A6:=A1.step s6 id id;have B6:=aJ B1 s6 (fun _ _=>id) (by rw[HB.out];exact Nat.le_refl _);generalize ae wr o 0=o6 at *;clear hc S6 b6 s6 E1 Z1 O1 A1 B1 L1 x0 x1 x2 x3 p0 p1 p2 p3 pf;have s7:=aO (fun _=>False) w6 o6 (.cells #[.int .i64 y.k,.int .i64 y.n,stv y.nm,.slice (some ⟨bk6,0,none⟩) y.kids.len ck6] 34);have K7:=fC w6 o6 #[.int .i64 y.k,.int .i64 y.n,stv y.nm,.slice (some ⟨bk6,0,none⟩) y.kids.len ck6] 34;have T7:=T6.lab s7 id;have hs6:n0<=w6.heap.size:=by have:=E6.lt;omega
   have L7:Hid (∀ k,k<n0->ae w6 o6 0 k=0):=fun k hk=>by rw[aC (by omega)];exact L6.out k hk
   have E7:=E6.step s7 id;have Z7:=Z6.step s7 id;have O7:=O6.step s7 id;have A7:=A6.step s7 id id;have B7:=aJ B6 s7 (fun _ _=>id) (by rw[HB.out];exact Nat.le_refl _);rw[ah];go_upto_region 6 with fail;generalize ae w6 o6 0=o7 at *;generalize w6.alloc (.cells #[.int .i64 y.k,.int .i64 y.n,stv y.nm,.slice (some ⟨bk6,0,none⟩) y.kids.len ck6] 34)=w7 at *;generalize w6.heap.size=bk at *;clear s7 T6 E6 Z6 O6 A6 B6 L6;obtain⟨p0,p1,p2,p3,pf⟩:=aI O7.1;obtain⟨q0,q1,q2,q3,qf⟩:=aI K7.1;have s8:=aO (fun _=>False) w7 o7 (.cells #[.int .i64 y.k,.int .i64 y.n,stv y.nm,.slice (some ⟨bk6,0,none⟩) y.kids.len ck6] 34);have T8:=T7.lab s8 id;have L8:Hid (∀ k,k<n0->ae w7 o7 0 k=0):=fun k hk=>by rw[aC (by have:=E7.lt;omega)];exact L7.out k hk
   have E8:=E7.step s8 id;have Z8:=Z7.step s8 id;have O8:=O7.step s8 id;have A8:=A7.step s8 id id;have B8:=aJ B7 s8 (fun _ _=>id) (by rw[HB.out];exact Nat.le_refl _);obtain⟨xs,R8,F8⟩:=A8;obtain⟨a8,c8,rfl⟩:=R8.form;have b1:done.len+1<=maxLen:=by unfold maxLen;omega
   have b2:(done.len+1)*56<=140737488355328:=by omega
   have hone:∀ u ∈ [Value.int .i64 y.k,.int .i64 y.n,stv y.nm,.slice (some ⟨bk6,0,none⟩) y.kids.len ck6],u.oneCell'=true:=by intro u hu;simp at hu;rcases hu with rfl|rfl|rfl|rfl<;>rfl
   clear E7 Z7 O7 A7 B7 L7 T7 s8;go_wp2_with (first|(at_builtin;refine aB rfl (.tmp 27) (.tmp 29) 32 rfl 34 ii _ 4 56 Tryz.underlying32 hii hzi0 hzi1 hzi2 rfl (by decide) (ae w7 o7 0) 2 _ done.len xs rfl R8 ⟨w7.heap.size,0,none⟩ 1 1 [Value.int .i64 y.k,.int .i64 y.n,stv y.nm,.slice (some ⟨bk6,0,none⟩) y.kids.len ck6] rfl rfl (dh w7 _ _) hone (by decide) b1 b2 ?_)|go_in);intro g9 c9 w9 o9 r9 s9;have A9:gr w9 o9 n0 (done.snoc y) (.slice (some ⟨g9,0,none⟩) (done.len+1) c9):=gr.push F8 T8 s9 r9;have E9:=E8.step s9 (by decide);have Z9:=Z8.step s9 (by decide);have O9:=O8.step s9 (by decide);have L9:Hid (∀ k,k<n0->o9 k=0):=fun k hk=>(s9.lab k (by have:=E8.lt;omega)).trans (L8.out k hk);have B9:=aJ B8 s9 (fun k hk=>by rw[L8.out k hk];decide) (by rw[HB.out];exact Nat.le_refl _);have s10:aa (fun k=>k=1) w9 o9 (w9.setCell ⟨n0+1+1,3,none⟩ (.slice (some ⟨g9,0,none⟩) (done.len+1) c9)) o9:=bT _ w9 o9 ⟨n0+1+1,3,none⟩ _ O9.2;have A10:=A9.step s10 (by decide) (by decide);have E10:=E9.step s10 (by decide);have Z10:=Z9.step s10 (by decide);have O10:=O9.set 3 (.slice (some ⟨g9,0,none⟩) (done.len+1) c9);have B10:=aJ B9 s10 (fun k hk=>by rw[L9.out k hk];decide) (by rw[HB.out];exact Nat.le_refl _);obtain⟨t0,t1,t2,t3,tf⟩:=aI O9.1;rw[<-HS.out] at A10;clear A9 E9 Z9 O9 B9 s10 E8 Z8 O8 B8 L8 T8 R8 F8 r9 s9 p0 p1 p2 p3 pf q0 q1 q2 q3 qf hk HS K7;go_wp2;go_roundw
   case rel=>exact⟨_,kr,o9,_,hk2,by rw[<-hl2],E10,Z10,O10,A10,L9,B10⟩
   case measure=>simp[intOf];omega
theorem p9:∀ N,ov N -- 43
 | 0=>fun e ao cap w h=>absurd h (Nat.not_lt_zero _)
 | N+1=>qM (p9 N)
theorem pS:∀ {f:Fs},f.len=0->f=.nil
 | ⟨none⟩,_=>rfl
 | ⟨some ⟨k,n,nm,a,ks,r⟩⟩,h=>by simp[Fs.len] at h
theorem Below.toStepC {w w':World}{o:Nat->Nat}{I:Nat->Prop}(b:Below w.heap.size w w'):aa I w o w' (ae w o 0):=⟨b.os,b.tape,b.output,b.size,fun k hk=>aC hk,fun k hk _=>b.block k hk⟩
abbrev PD (P:Nat->Prop)(n0:Nat)(o:Nat->Nat):Nat->Prop:=fun k=>o k=0/\((P k/\k<n0)\/n0<=k)
theorem FcN.labD {I:Nat->Prop}{P:Nat->Prop}{w w':World}{o o':Nat->Nat}{n0:Nat}{f:Fs}{xs:List Value}(h:FcN w (PD P n0 o) f xs)(s:aa I w o w' o')(h0:¬I 0):FcN w' (PD P n0 o') f xs :=
 h.mono (fun k hp hl=>s.block k hl (by rw[hp.1];exact h0)) s.size (fun k hp hl=>⟨(s.lab k hl).trans hp.1,hp.2⟩)
theorem SlN.labD {I:Nat->Prop}{P:Nat->Prop}{w w':World}{o o':Nat->Nat}{n0:Nat}{f:Fs}{ao:Option Addr}(h:SlN w (PD P n0 o) f ao)(s:aa I w o w' o')(h0:¬I 0):SlN w' (PD P n0 o') f ao :=
 h.mono (fun k hp hl=>s.block k hl (by rw[hp.1];exact h0)) s.size (fun k hp hl=>⟨(s.lab k hl).trans hp.1,hp.2⟩)
def jT (w:World)(o:Nat->Nat)(P:Nat->Prop)(n0:Nat)(acc:Fs)(v:Value):Prop:=∃xs,Row w o 2 34 4 v acc.len xs/\FcN w (PD P n0 o) acc xs/\∀ k,v.ownBlock=some k->n0<=k
theorem jT.nil (w:World)(o:Nat->Nat)(P:Nat->Prop)(n0:Nat):jT w o P n0 .nil (.slice none 0 0):=⟨[],Row.nil _ _ _ _ _,rfl,fun k hk=>by simp[Value.ownBlock] at hk⟩
theorem jT.step {I:Nat->Prop}{P:Nat->Prop}{w w':World}{o o':Nat->Nat}{n0:Nat}{acc:Fs}{v:Value}(h:jT w o P n0 acc v)(s:aa I w o w' o')(h0:¬I 0)(h2:¬I 2):jT w' o' P n0 acc v:=by
 obtain⟨xs,r,f,g⟩:=h;exact⟨xs,r.step s h2,f.labD s h0,g⟩
theorem jT.push {P:Nat->Prop}{w w2:World}{o o2:Nat->Nat}{n0 ce g2 c2:Nat}{acc:Fs}{xs:List Value}{y:Ex}{ay:Option Addr}(f:FcN w (PD P n0 o) acc xs)(S:SlN w (PD P n0 o) y.kids ay)(s:aa (fun x=>x=2) w o w2 o2)(hlo:∀ k,k<n0->o k≠2)(hw:n0<=w.heap.size)
  (r:Row w2 o2 2 34 4 (.slice (some ⟨g2,0,none⟩) (acc.len+1) c2) (acc.len+1) (xs++[.int .i64 y.k,.int .i64 y.n,stv y.nm,.slice ay y.kids.len ce])):jT w2 o2 P n0 (acc.snoc y) (.slice (some ⟨g2,0,none⟩) (acc.len+1) c2):=by
 refine⟨_,by rw[Fs.len_snoc];exact r,(f.labD s (by decide)).app (FcN.one ce (S.labD s (by decide))),fun k hk=>?_⟩;simp[Value.ownBlock] at hk;subst hk;have h2:o2 g2=2:=r.2 g2 rfl;rcases Nat.lt_or_ge g2 n0 with h3|h3
 ·exact absurd ((s.lab g2 (by omega)).symm.trans h2) (hlo g2 h3)
 ·exact h3
theorem jT.sl {P:Nat->Prop}{w:World}{o:Nat->Nat}{n0:Nat}{acc:Fs}{v:Value}(h:jT w o P n0 acc v):∃ao cap,v=.slice ao acc.len cap/\SlN w (fun k=>(o k=0\/o k=2)/\((P k/\k<n0)\/n0<=k)) acc ao:=by
 obtain⟨xs,r,f,g⟩:=h;obtain⟨ao,cap,hv⟩:=r.form;refine⟨ao,cap,hv,?_⟩;rcases Nat.eq_zero_or_pos acc.len with h0|h0
 ·exact .inl (pS h0)
 ·obtain⟨g',cap',hv',hg,-,-,hlt,hc,-⟩:=r.pos h0;have hl:=f.len;rw[hv] at hv';injection hv' with hv1
  subst hv1;have hgn:n0<=g':=g g' (by rw[hv];rfl);refine .inr ⟨g',0,xs,rfl,⟨.inr hg,.inr hgn⟩,hlt,fun j u hu=>?_,f.mono (fun _ _ _=>rfl) (Nat.le_refl _) (fun k hp _=>⟨.inl hp.1,hp.2⟩)⟩;have hj:j<xs.length:=(List.getElem?_eq_some_iff.1 hu).1;rw[Nat.zero_add,hc j (by omega)];exact hu
def Nms (w:World)(v:Value)(b:List (List UInt8)):Prop :=
 ∃ao cap,v=.slice ao b.length cap/\b.length<=cap/\((b=[]/\ao=none)\/∃g,ao=some ⟨g,0,none⟩/\g<w.heap.size/\0<b.length/\∀ (j:Nat) (t:List UInt8),b[j]?=some t->w.cell? ⟨g,j,none⟩=some (stv t))
theorem Nms.below {w w':World}{v:Value}{b:List (List UInt8)}(h:Nms w v b)(B:Below w.heap.size w w'):Nms w' v b:=by
 obtain⟨ao,cap,rfl,hc,h1|⟨g,h1,h2,h0,h3⟩⟩:=h
 ·exact⟨ao,cap,rfl,hc,.inl h1⟩
 ·exact⟨ao,cap,rfl,hc,.inr ⟨g,h1,Nat.lt_of_lt_of_le h2 B.size,h0,fun j t hj=>(B.cell (p:=⟨g,j,none⟩) h2).trans (h3 j t hj)⟩⟩
theorem Nms.nil (w:World):Nms w (.slice none 0 0) []:=⟨none,0,rfl,Nat.le_refl _,.inl ⟨rfl,rfl⟩⟩
theorem ql:(Tryz.prog.info? 9).map (fun i=>(i.zero,i.size,i.bytes))=some (some (.string ⟨#[]⟩),1,16):=by kernel_rfl
def fW (k n:Int):List Int :=
 if k=1 then [1] else if k=2 then [2] else if k=3\/k=4 then [3] else if k=6 then [1,1] else if k=7 then [2,2]
 else if 8<=k/\k<=12 then [1,1,1] else if k=15\/k=16 then [1,1,2] else if k=17\/k=18 then [2,2,2]
 else if k=22\/k=23 then [4] else if k=24 then [3,4]
 else if k=20 then (if n=1\/n=2 then [3,3,2] else if n=3 then [3,3,1] else if n=10 then [3,3] else [3,1])
 else if k=21 then (if n=1\/n=2 then [4,2,2] else if n=3 then [4,2,1] else [4,1,1])
 else []
def bJ (k n:Int)(len:Nat)(done:List Int):Int :=
 if k=13\/k=14 then (match done with | []=>0 | [a]=>a|_=>2)
 else if k=19 then (match done with | []=>2 | [_]=>0|_::b::_=>b)
 else if k=25 then (if done.length<len then 3 else 4)
 else (fW k n)[done.length]?.getD 0
def eb (m:Int)(a:Int)(r:Sum (Nat × Int) Int):Sum (Nat × Int) Int :=
 match r with
 | .inl e=>.inl e
 | .inr is=>if m≠0/\is≠m then .inl (131,a) else .inr is
def ch:Fs->Int->Int->List UInt8->Nat->List (List UInt8)->Nat->List Int->Sum (Nat × Int) (List Int)
 | ⟨none⟩,_,_,_,_,_,_,done=>.inr done
 | ⟨some ⟨kk,kn,km,ka,kks,kr⟩⟩,k,n,nm,len,bound,i,done =>
  match eb (bJ k n len done) ka (if kk=4/\¬km ∈ (if k=21/\i≠0 then bound++[nm] else bound) then .inl (130,ka) else
   match ch kks kk kn km kks.len (if k=21/\i≠0 then bound++[nm] else bound) 0 [] with
   | .inl e=>.inl e
   | .inr d=>.inr (bJ kk kn kks.len d)) with
  | .inl e=>.inl e
  | .inr is=>ch kr k n nm len bound (i+1) (done++[is])
def bK (e:Ex)(bound:List (List UInt8)):Sum (Nat × Int) Int :=
 if e.k=4/\¬e.nm ∈ bound then .inl (130,e.a) else
  match ch e.kids e.k e.n e.nm e.kids.len bound 0 [] with
  | .inl x=>.inl x
  | .inr d=>.inr (bJ e.k e.n e.kids.len d)
theorem oN (x:Ex)(r:Fs)(k n:Int)(nm:List UInt8)(len:Nat)(bound:List (List UInt8))(i:Nat)(done:List Int) :
  ch (.cons x.k x.n x.nm x.a x.kids r) k n nm len bound i done=(match eb (bJ k n len done) x.a (bK x (if k=21/\i≠0 then bound++[nm] else bound)) with
   | .inl e=>.inl e
   | .inr is=>ch r k n nm len bound (i+1) (done++[is])):=rfl
def lL (e:Ex):Int × Nat × Int :=
 match fu e with
 | none=>(0,122,0)
 | some _ =>
  match bK e [] with
  | .inl (er,a)=>(0,er,a)
  | .inr k=>(k,0,0)
theorem lU:∀ (f:Fs) (k n:Int) (nm:List UInt8) (len:Nat) (bound:List (List UInt8)) (i:Nat) (done:List Int) (er:Nat) (a:Int),ch f k n nm len bound i done=.inl (er,a)->er=130\/er=131
 | ⟨none⟩,k,n,nm,len,bound,i,done,er,a,h=>by simp only[ch] at h;cases h
 | ⟨some ⟨kk,kn,km,ka,kks,kr⟩⟩,k,n,nm,len,bound,i,done,er,a,h=>by
  simp only[ch] at h;by_cases hv:kk=4/\¬km ∈ (if k=21/\i≠0 then bound++[nm] else bound)
  ·rw[if_pos hv] at h;simp only[eb,Sum.inl.injEq,Prod.mk.injEq] at h;omega
  ·rw[if_neg hv] at h;cases hc:ch kks kk kn km kks.len (if k=21/\i≠0 then bound++[nm] else bound) 0 [] with
   | inl x =>
    obtain⟨er2,a2⟩:=x;rw[hc] at h;simp only[eb,Sum.inl.injEq,Prod.mk.injEq] at h
    have:=lU kks _ _ _ _ _ _ _ er2 a2 hc
    omega
   | inr d =>
    rw[hc] at h;simp only[eb] at h;by_cases hm:bJ k n len done≠0/\bJ kk kn kks.len d≠bJ k n len done
    ·rw[if_pos hm] at h;simp only[Sum.inl.injEq,Prod.mk.injEq] at h;omega
    ·rw[if_neg hm] at h;exact lU kr _ _ _ _ _ _ _ er a h
theorem sY {e:Ex}{bound:List (List UInt8)}{er:Nat}{a:Int}(h:bK e bound=.inl (er,a)):er=130\/er=131:=by
 unfold bK at h;by_cases hv:e.k=4/\¬e.nm ∈ bound
 ·rw[if_pos hv] at h;simp only[Sum.inl.injEq,Prod.mk.injEq] at h;omega
 ·rw[if_neg hv] at h;cases hc:ch e.kids e.k e.n e.nm e.kids.len bound 0 [] with
  | inl x =>
   obtain⟨er2,a2⟩:=x;rw[hc] at h;simp only[Sum.inl.injEq,Prod.mk.injEq] at h
   have:=lU _ _ _ _ _ _ _ _ er2 a2 hc
   omega
  | inr d=>rw[hc] at h;cases h
def oO (k n:Int)(len:Nat):Sum (Nat × Int) (List Int)->Sum (Nat × Int) Int
 | .inl x=>.inl x
 | .inr d=>.inr (bJ k n len d)
theorem eh (e:Ex)(b:List (List UInt8))(h:e.k≠4):bK e b=oO e.k e.n e.kids.len (ch e.kids e.k e.n e.nm e.kids.len b 0 []):=by
 unfold bK;rw[if_neg (fun h2=>h h2.1)];cases ch e.kids e.k e.n e.nm e.kids.len b 0 []<;>rfl
def okR (k n:Int)(len:Nat):Prop :=
 (k=13\/k=14\/k=19\/k=25)\/(k=20/\(1<=n/\n<=10)/\(fW 20 n).length=len+1)\/(k=21/\(1<=n/\n<=6)/\(fW 21 n).length=len+1)
  \/ ((1<=k/\k<=24/\k≠5/\k≠20/\k≠21/\k≠13/\k≠14/\k≠19)/\(fW k 0).length=len+1)
theorem vE (n:Int):(fm n).isSome=decide (1<=n/\n<=10):=by
 by_cases h:1<=n/\n<=10
 ·have h2:n=1\/n=2\/n=3\/n=4\/n=5\/n=6\/n=7\/n=8\/n=9\/n=10:=by omega
  rcases h2 with rfl|rfl|rfl|rfl|rfl|rfl|rfl|rfl|rfl|rfl<;>rfl
 ·rw[decide_eq_false h];cases hc:fm n with
  | none=>rfl
  | some x =>
   have h1:=List.find?_some hc;have h2:=List.mem_of_find?_eq_some hc;simp only[dG,List.mem_cons,List.not_mem_nil,or_false] at h2;simp only[beq_iff_eq] at h1;exfalso;rcases h2 with rfl|rfl|rfl|rfl|rfl|rfl|rfl|rfl|rfl|rfl<;>simp only at h1<;>omega
theorem rX (n:Int):(fG n).isSome=decide (1<=n/\n<=6):=by
 by_cases h:1<=n/\n<=6
 ·have h2:n=1\/n=2\/n=3\/n=4\/n=5\/n=6:=by omega
  rcases h2 with rfl|rfl|rfl|rfl|rfl|rfl<;>rfl
 ·rw[decide_eq_false h];cases hc:fG n with
  | none=>rfl
  | some x =>
   have h1:=List.find?_some hc;have h2:=List.mem_of_find?_eq_some hc;simp only[dv,List.mem_cons,List.not_mem_nil,or_false] at h2;simp only[beq_iff_eq] at h1;exfalso;rcases h2 with rfl|rfl|rfl|rfl|rfl|rfl<;>simp only at h1<;>omega
theorem zM {k:Int}(h:(dS k).isSome=true):8<=k/\k<=18:=by
 cases hc:dS k with
 | none=>rw[hc] at h;cases h
 | some x =>
  have h1:=List.find?_some hc;have h2:=List.mem_of_find?_eq_some hc;simp only[eE,List.mem_cons,List.not_mem_nil,or_false] at h2;simp only[beq_iff_eq] at h1;rcases h2 with rfl|rfl|rfl|rfl|rfl|rfl|rfl|rfl|rfl|rfl|rfl<;>simp only at h1<;>omega
theorem yu {k n:Int}{nm:List UInt8}{m:Nat}(h:okP k n nm m):okR k n m:=by
 obtain⟨h1,-,h2,-,-,-⟩:=h;unfold aR at h2;unfold bS at h1;by_cases a0:k=1\/k=2\/k=3\/k=4\/k=22\/k=23
 ·have e1:(k==1||k==2||k==3||k==4||k==22||k==23)=true:=by rcases a0 with rfl|rfl|rfl|rfl|rfl|rfl<;>rfl
  rw[e1,if_pos rfl] at h2
  have:m=0:=by simpa using h2
  subst this;refine .inr (.inr (.inr ⟨by omega,?_⟩));rcases a0 with rfl|rfl|rfl|rfl|rfl|rfl<;>rfl
 by_cases a1:k=6\/k=7\/k=24
 ·have:m=1:=by rcases a1 with rfl|rfl|rfl<;>(simp at h2;omega)
  subst this;refine .inr (.inr (.inr ⟨by omega,?_⟩));rcases a1 with rfl|rfl|rfl<;>rfl
 by_cases a2:k=21
 ·subst a2;have hm:m=2:=by simp at h2;omega
  have hn:(fG n).isSome=true:=by simpa using h1
  rw[rX] at hn;have hn2:=of_decide_eq_true hn;subst hm;refine .inr (.inr (.inl ⟨rfl,hn2,?_⟩));have h3:n=1\/n=2\/n=3\/n=4\/n=5\/n=6:=by omega
  rcases h3 with rfl|rfl|rfl|rfl|rfl|rfl<;>rfl
 by_cases a3:k=19
 ·exact .inl (by omega)
 by_cases a4:k=20
 ·subst a4;have hn:(fm n).isSome=true:=by simpa using h1
  rw[vE] at hn;have hn2:=of_decide_eq_true hn;refine .inr (.inl ⟨rfl,hn2,?_⟩);have h3:n=1\/n=2\/n=3\/n=4\/n=5\/n=6\/n=7\/n=8\/n=9\/n=10:=by omega
  rcases h3 with rfl|rfl|rfl|rfl|rfl|rfl|rfl|rfl|rfl|rfl <;>
   (simp[fm,dG] at h2;simp[fW];omega)
 by_cases a5:k=25
 ·exact .inl (by omega)
 have e1:(k==1||k==2||k==3||k==4||k==22||k==23)=false:=by simp;omega
 have e2:(k==6||k==7||k==24)=false:=by simp;omega
 have e3:(k==21)=false:=by simpa using a2
 have e4:(k==19)=false:=by simpa using a3
 have e5:(k==20)=false:=by simpa using a4
 have e6:(k==25)=false:=by simpa using a5
 rw[e1,e2,e3,e4,e5,e6] at h2;simp only[Bool.false_eq_true,if_false,Bool.and_eq_true,beq_iff_eq] at h2;have hr:=zM h2.1;have hm:m=2:=by omega
 subst hm;by_cases a6:k=13\/k=14
 ·exact .inl (by omega)
 refine .inr (.inr (.inr ⟨by omega,?_⟩));have h3:k=8\/k=9\/k=10\/k=11\/k=12\/k=15\/k=16\/k=17\/k=18:=by omega
 rcases h3 with rfl|rfl|rfl|rfl|rfl|rfl|rfl|rfl|rfl<;>rfl
theorem xR {k n:Int}{m:Nat}(h:okR k n m):1<=k/\k<=25/\k≠5:=by
 unfold okR at h;omega
theorem ko {I:Nat->Prop}{n0:Nat}{a w w':World}{o o':Nat->Nat}(b:Below n0 a w)(s:aa I w o w' o')(h:∀ k,k<n0->¬I (o k))(hn:n0<=a.heap.size):Below n0 a w' :=
 ⟨s.os.trans b.os,s.tape.trans b.tape,s.output.trans b.output,Nat.le_trans b.size s.size,fun k hk=>(s.block k (by have:=b.size;omega) (h k hk)).trans (b.block k hk)⟩
abbrev I1n:Nat->Prop:=fun k=>k=1
theorem Nms.ofRow {w:World}{o:Nat->Nat}{g cap:Nat}{b:List (List UInt8)}{n:Nat}(h:Row w o 1 9 1 (.slice (some ⟨g,0,none⟩) n cap) n (b.map fun x=>stv x))(hn:b.length=n)(h0:0<n):Nms w (.slice (some ⟨g,0,none⟩) n cap) b:=by
 subst hn;obtain⟨g',cap',e1,_,h2,_,h4,h5,_⟩:=h.pos h0;injection e1 with e1 e2 e3
 injection e1 with e1
 injection e1 with e1
 subst e1;subst e3;refine⟨_,_,rfl,h2,.inr ⟨g,rfl,h4,h0,fun j t hj=>?_⟩⟩;have hj2:j<b.length:=(List.getElem?_eq_some_iff.1 hj).1;rw[h5 j (by omega),List.getElem?_map,hj];rfl
theorem kJ {P:Program}(w:World)(t ty e:TypeId)(i:TypeInfo)(ht:P.underlying t=some (.slice e))(hi:P.info? e=some i)(ao:Option Addr)(n cap:Nat)(x:Option Addr)(c:Nat)(hnc:n<=cap) :
  (Builtin.append_ #[t,t] ty #[.slice ao n cap,.slice x 0 c]).run P w=.ok (.slice ao n cap) w:=by
 have hl:∀ a:Addr,(loadCells a 0).run P w=.ok #[] w:=fun a=>by simp[loadCells,loadCellsFrom]
 cases x<;>cases ao<;>simp[Builtin.append_,run_underlying ht,sizeOf,typeInfo,hi,Builtin.lenOf,Builtin.firstCells,hnc,storeCells,hl]
theorem iH {P:Program}{w:World}{ops:Array Oper}{rest:List Oper}{op:Oper}{a:Act}{Q:Exit->Act->World->Prop}(hgd:op.guard=none)(s x:Operand)(t:TypeId)
  (ho:op.op=.call { callee:=.builtin .append,args:=#[s,x],argTypes:=#[t,t] }) (e:TypeId) (i:TypeInfo) (ht:P.underlying t=some (.slice e)) (hi:P.info? e=some i)
  (ao:Option Addr) (n cap:Nat) (y:Option Addr) (c:Nat) (hs:a.eval s=.slice ao n cap) (hx:a.eval x=.slice y 0 c) (hnc:n<=cap) (h:wpList P ops Q rest (a.put op.dst (.slice ao n cap)) w):wpList P ops Q (op::rest) a w:=by
 refine wpList_plain hgd fun _ hK=>?_;have hr:=kJ (P:=P) w t op.type e i ht hi ao n cap y c hnc;unfold Oper.wp execOp;simp only[ho,resolve,invoke,builtin,Sem.run_bind,Sem.run_pure,Result.andThen_ok,List.map_toArray,List.map_cons,List.map_nil,hs,hx,hr];exact hK _ _ h
theorem Row.cap {w:World}{o:Nat->Nat}{i:Nat}{e:TypeId}{size:Nat}{n m cap:Nat}{ao:Option Addr}{xs:List Value}(h:Row w o i e size (.slice ao m cap) n xs):m=n/\n<=cap/\cap<=maxLen:=by
 rcases h.1.2 with ⟨hh,hk0⟩|⟨gx,cx,_,hh,_,_,hle,hm,_⟩
 ·simp only[Value.slice.injEq] at hh;obtain⟨_,rfl,rfl⟩:=hh;exact⟨hk0.symm,by omega,by unfold maxLen;omega⟩
 ·simp only[Value.slice.injEq] at hh;obtain⟨_,rfl,rfl⟩:=hh;exact⟨rfl,hle,hm⟩
theorem fj {P:Program}{w:World}{ops:Array Oper}{rest:List Oper}{op:Oper}{a:Act}{Q:Exit->Act->World->Prop}(hgd:op.guard=none)(s x:Operand)(t:TypeId)
  (ho:op.op=.call { callee:=.builtin .append,args:=#[s,x],argTypes:=#[t,t] })
  (e:TypeId) (i:TypeInfo) (z:Value) (size bytes:Nat) (ht:P.underlying t=some (.slice e)) (hi:P.info? e=some i) (hz:i.zero=some z)
  (hsize:i.size=size) (hby:i.bytes=bytes) (hzs:z.cells.size=size) (hsz:0<size)
  (o:Nat->Nat) (lb:Nat) (v:Value) (n:Nat) (xs:List Value) (hs:a.eval s=v) (hrow:Row w o lb e size v n xs)
  (y:Option Addr) (m c:Nat) (news:List Value) (hx:a.eval x=.slice y m c) (hl:news.length=m*size) (hnews:0<m->∃ad,y=some ad/\∀ j u,news[j]?=some u->w.cell? (ad.add j)=some u) (h1:∀ u ∈ news,u.oneCell'=true)
  (h63:n+m<=maxLen) (hbytes:(n+m)*bytes<=140737488355328)
  (h:∀ ao cap w' o',Row w' o' lb e size (.slice ao (n+m) cap) (n+m) (xs++news)->aa (fun k=>k=lb) w o w' o'->wpList P ops Q rest (a.put op.dst (.slice ao (n+m) cap)) w'):wpList P ops Q (op::rest) a w:=by
 by_cases hm:0<m
 ·obtain⟨ad,rfl,hn⟩:=hnews hm;exact aB hgd s x t ho e i z size bytes ht hi hz hsize hby hzs hsz o lb v n xs hs hrow ad m c news hx hl hn h1 hm h63 hbytes fun g cap w' o' r st=>h _ _ _ _ r st
 ·obtain rfl:m=0:=by omega
  obtain⟨ao,cap,rfl⟩:=hrow.form;have hnil:news=[]:=List.eq_nil_of_length_eq_zero (by omega);subst hnil;refine iH hgd s x t ho e i ht hi ao n cap y c hs hx hrow.cap.2.1 ?_
  have:=h ao cap w o (by rw[List.append_nil];exact hrow) (aa.refl _ _ _)
  exact this
end Go.Proofs.YtbjdkekhnajafaaGreatDoor

import Derived.Test.YtejnhibajmncaaaDoorEqB
import Derived.Laws.CopyOwn
import Derived.Laws.Bits64b
set_option maxRecDepth 100000
set_option maxHeartbeats 8000000
namespace Go.Proofs.YtejnhibajmncaaaDoor
set_option linter.unusedVariables false
set_option linter.unusedSimpArgs false
theorem sameF_kdF:∀ (f g:Fs),sameF f g=true->kdF f=kdF g
 | ⟨none⟩,⟨none⟩,_=>rfl
 | ⟨none⟩,⟨some ⟨k',n',nm',a',ks',r'⟩⟩,h=>by cases h
 | ⟨some ⟨k,n,nm,a,ks,r⟩⟩,⟨none⟩,h=>by cases h
 | ⟨some ⟨k,n,nm,a,ks,r⟩⟩,⟨some ⟨k',n',nm',a',ks',r'⟩⟩,h=>by
  simp only[sameF,Bool.and_eq_true,beq_iff_eq] at h;obtain⟨⟨⟨⟨h1,h2⟩,h3⟩,h4⟩,h5⟩:=h;simp only[kdF,h1,h2,sameF_kdF ks ks' h4,sameF_kdF r r' h5]
theorem sameE_kdE {x y:Ex}(h:sameE x y=true):kdE x=kdE y:=by
 unfold sameE at h;simp only[Bool.and_eq_true,beq_iff_eq] at h;obtain⟨⟨⟨h1,h2⟩,h3⟩,h4⟩:=h;simp only[kdE,h1,h2,sameF_kdF _ _ h4]
theorem wkP_neq (kd:List Int)(i:Nat):wkP kd i≠4:=by
 unfold wkP;cases kd[i]? with
 | none=>simp
 | some v=>simp only;split<;>omega
theorem formP_four {k n:Int}{kd:List Int}:(formP k n kd).2=4 ↔ (22<=k/\k<=25):=by
 have h0:=wkP_neq kd 0;have h1:=wkP_neq kd 1;by_cases hs:22<=k/\k<=25
 ·have hc:k=22\/k=23\/k=24\/k=25:=by omega
  rcases hc with rfl|rfl|rfl|rfl<;>simp[formP]
 ·refine⟨fun h=>?_,fun h=>absurd h hs⟩;exfalso;unfold formP at h;generalize wkP kd 0=a at h h0;generalize wkP kd 1=b at h h1;by_cases e1:k=1
  ·rw[if_pos e1] at h;cases h
  rw[if_neg e1] at h;by_cases e2:k=2
  ·rw[if_pos e2] at h;cases h
  rw[if_neg e2] at h;by_cases e3:k=3\/k=5
  ·rw[if_pos e3] at h;cases h
  rw[if_neg e3] at h;by_cases e6:k=6
  ·rw[if_pos e6] at h;cases h
  rw[if_neg e6] at h;by_cases e7:k=7
  ·rw[if_pos e7] at h;cases h
  rw[if_neg e7] at h;by_cases e8:8<=k/\k<=12
  ·rw[if_pos e8] at h;cases h
  rw[if_neg e8] at h;by_cases e15:k=15\/k=16
  ·rw[if_pos e15] at h;cases h
  rw[if_neg e15] at h;by_cases e17:k=17\/k=18
  ·rw[if_pos e17] at h;cases h
  rw[if_neg e17] at h;by_cases e13:k=13\/k=14
  ·rw[if_pos e13] at h;cases h
  rw[if_neg e13] at h;by_cases e19:k=19
  ·rw[if_pos e19] at h;exact h1 h
  rw[if_neg e19] at h;by_cases e20:k=20
  ·rw[if_pos e20] at h;split at h
   ·cases h
   split at h
   ·cases h
   split at h<;>cases h
  rw[if_neg e20] at h;by_cases e21:k=21
  ·rw[if_pos e21] at h;split at h
   ·cases h
   split at h<;>cases h
  rw[if_neg e21] at h;by_cases e26:k=26
  ·rw[if_pos e26] at h;exact h0 h
  rw[if_neg e26,if_neg (by omega),if_neg (by omega),if_neg (by omega)] at h;cases h
theorem formP_mem {k n:Int}{kd:List Int}(hk:k≠21):∀ v ∈ (formP k n kd).1,v≠4:=by
 have w0:=wkP_neq kd 0;have w1:=wkP_neq kd 1;unfold formP;generalize wkP kd 0=a at w0 ⊢;generalize wkP kd 1=b at w1 ⊢;intro v hv h4;subst h4;by_cases e0:k=1
 ·rw[if_pos e0] at hv;simp at hv
 rw[if_neg e0] at hv;by_cases e1:k=2
 ·rw[if_pos e1] at hv;simp at hv
 rw[if_neg e1] at hv;by_cases e2:k=3\/k=5
 ·rw[if_pos e2] at hv;simp at hv
 rw[if_neg e2] at hv;by_cases e3:k=6
 ·rw[if_pos e3] at hv;simp at hv
 rw[if_neg e3] at hv;by_cases e4:k=7
 ·rw[if_pos e4] at hv;simp at hv
 rw[if_neg e4] at hv;by_cases e5:8<=k/\k<=12
 ·rw[if_pos e5] at hv;simp at hv
 rw[if_neg e5] at hv;by_cases e6:k=15\/k=16
 ·rw[if_pos e6] at hv;simp at hv
 rw[if_neg e6] at hv;by_cases e7:k=17\/k=18
 ·rw[if_pos e7] at hv;simp at hv
 rw[if_neg e7] at hv;by_cases e8:k=13\/k=14
 ·rw[if_pos e8] at hv;simp at hv;omega
 rw[if_neg e8] at hv;by_cases e9:k=19
 ·rw[if_pos e9] at hv;simp at hv;omega
 rw[if_neg e9] at hv;by_cases e20:k=20
 ·rw[if_pos e20] at hv;split at hv
  ·simp at hv
  split at hv
  ·simp at hv
  split at hv<;>simp at hv
 rw[if_neg e20,if_neg hk] at hv;by_cases e26:k=26
 ·rw[if_pos e26] at hv;simp at hv;omega
 rw[if_neg e26] at hv;by_cases e22:k=22\/k=23
 ·rw[if_pos e22] at hv;simp at hv
 rw[if_neg e22] at hv;by_cases e24:k=24
 ·rw[if_pos e24] at hv;simp at hv
 rw[if_neg e24] at hv;by_cases e25:k=25
 ·rw[if_pos e25] at hv;simp at hv
 rw[if_neg e25] at hv;simp at hv
theorem formP_kids {k n:Int}{kd:List Int}(h:(formP k n kd).1=kd)(h0:(formP k n kd).2≠0)(j:Nat)(v:Int)(hv:kd[j]?=some v):v=4 ↔ (k=21/\j=0):=by
 rw[<-h] at hv;by_cases hk:k=21
 ·subst hk;unfold formP at hv;simp at hv;by_cases n1:n=1\/n=2
  ·rw[if_pos n1] at hv;rcases j with _|_|j<;>simp at hv<;>omega
  ·rw[if_neg n1] at hv;by_cases n3:n=3
   ·rw[if_pos n3] at hv;rcases j with _|_|j<;>simp at hv<;>omega
   ·rw[if_neg n3] at hv;rcases j with _|_|j<;>simp at hv<;>omega
 ·have:=formP_mem hk v (List.mem_of_getElem? hv)
  constructor
  ·intro e;exact absurd e this
  ·intro e;exact absurd e.1 hk
theorem rg_kids {cells:List Int}:∀ (f:Fs) (pk:Int) (i ar wi:Nat) (s s':Rg) (kd:List Int),rgF cells f pk i ar wi s=some (s',kd)->∀ x r,f=Fs.ex x r->∃s2 k rest,rgE cells x (spotP pk i ar wi).1 (spotP pk i ar wi).2 s=some (s2,k)/\rgF cells r pk (i+1) ar wi s2=some (s',rest)/\kd=k::rest:=by
 intro f pk i ar wi s s' kd h x r hf;subst hf;rw[rg_ex] at h;cases hx:rgE cells x (spotP pk i ar wi).1 (spotP pk i ar wi).2 s with
 | none=>rw[hx] at h;cases h
 | some z =>
  obtain⟨s2,k⟩:=z;rw[hx] at h;simp only at h;cases hq:rgF cells r pk (i+1) ar wi s2 with
  | none=>rw[hq] at h;cases h
  | some z =>
   obtain⟨s3,rest⟩:=z;rw[hq] at h;injection h with h
   injection h with h1 h2
   subst h1;exact⟨s2,k,rest,rfl,hq,h2.symm⟩
theorem keepP_inv {cells:List Int}{n:Int}{ks:Fs}{ar:Nat}{s s':Rg}(h:keepP cells n ks ar s=some s'):(s.2 n.toNat=none/\s'.2=fun i=>if i=n.toNat then some ks.head else s.2 i)\/(∃x,s.2 n.toNat=some x/\sameE x ks.head=true/\s'=s):=by
 unfold keepP at h;split at h
 ·cases h
 ·split at h
  ·cases h
  ·split at h
   ·rename_i h1
    injection h with h;subst h
    exact .inl ⟨h1,rfl⟩
   ·rename_i x h1
    split at h
    ·rename_i h2
     injection h with h;subst h
     exact .inr ⟨x,h1,h2,rfl⟩
    ·cases h
structure Kgo (s s':Rg):Prop where
 up:∀ i x,s.2 i=some x->s'.2 i=some x
 pos:(∀ i x,s.2 i=some x->1<=kdE x)->∀ i x,s'.2 i=some x->1<=kdE x
theorem Kgo.refl (s:Rg):Kgo s s:=⟨fun _ _ h=>h,fun h=>h⟩
theorem Kgo.trans {a b c:Rg}(h:Kgo a b)(k:Kgo b c):Kgo a c:=⟨fun i x q=>k.up i x (h.up i x q),fun q=>k.pos (h.pos q)⟩
theorem keepP_go {cells:List Int}{n:Int}{ks:Fs}{ar:Nat}{s s':Rg}(h:keepP cells n ks ar s=some s')(hp:1<=kdE ks.head):Kgo s s'/\∃x,s'.2 n.toNat=some x/\kdE x=kdE ks.head:=by
 rcases keepP_inv h with ⟨h1,h2⟩|⟨x,h1,h2,rfl⟩
 ·refine⟨⟨fun i x q=>?_,fun q i x hx=>?_⟩,ks.head,by rw[h2];simp,rfl⟩
  ·rw[h2];simp only;rw[if_neg (by rintro rfl;rw[h1] at q;cases q)];exact q
  ·rw[h2] at hx;simp only at hx;split at hx
   ·injection hx with hx;subst hx;exact hp
   ·exact q i x hx
 ·exact⟨Kgo.refl _,x,h1,sameE_kdE h2⟩
theorem head_kd {ks:Fs}(h:ks.len=1):(kdF ks).getD 0 0=kdE ks.head:=by
 obtain⟨v⟩:=ks;cases v with
 | none=>simp[Fs.len] at h
 | some z=>obtain⟨k,n,nm,a,ks,r⟩:=z;simp[kdF,Fs.head,kdE]
theorem head_ok {nc:Nat}{ks:Fs}(h:ks.len=1)(ho:okF nc ks):okE nc ks.head:=by
 obtain⟨v⟩:=ks;cases v with
 | none=>simp[Fs.len] at h
 | some z=>obtain⟨k,n,nm,a,ks,r⟩:=z;exact⟨ho.1,ho.2.1⟩
theorem doc26 {n:Int}{nm:List UInt8}{len:Nat}(h:docF 26 n nm len=true):len=1:=by
 unfold docF at h;simp at h;exact h.2
theorem rg_go (cells:List Int)(nc:Nat):∀ (f:Fs) (pk:Int) (i ar wi:Nat) (s s':Rg) (kd:List Int),okF nc f->rgF cells f pk i ar wi s=some (s',kd) ->
  Kgo s s'/\∀ K:Nat->Int,(∀ i x,s'.2 i=some x->kdE x=K i)->(∀ j v,kd[j]?=some v->(v=4 ↔ (pk=21/\i+j=0)))->skF K f pk i
 | ⟨none⟩,pk,i,ar,wi,s,s',kd,ho,h=>by
  simp only[rgF] at h;injection h with h
  injection h with h1 h2
  subst h1;exact⟨Kgo.refl _,fun _ _ _=>trivial⟩
 | ⟨some ⟨k,n,nm,a,ks,r⟩⟩,pk,i,ar,wi,s,s',kd,ho,h=>by
  obtain⟨s2,k2,rest,hx,hr,rfl⟩:=rg_kids _ pk i ar wi s s' kd h ⟨k,n,nm,a,ks⟩ r rfl;obtain⟨hg,s1,kd1,hk,hl,h0,h1,h2,h3⟩:=rgE_inv hx;simp only at hk hl h0 h1 h2 h3;obtain⟨g1,f1⟩:=rg_go cells nc ks k 0 _ _ _ _ _ ho.2.1 hk;obtain⟨g3,f3⟩:=rg_go cells nc r pk (i+1) ar wi _ _ _ ho.2.2 hr;have g1':Kgo s s1:=⟨fun i x q=>g1.up i x q,fun q=>g1.pos q⟩
  have g2:Kgo s1 s2/\(k=26->∃x,s2.2 n.toNat=some x/\kdE x=(kdF ks).getD 0 0):=by
   by_cases e:k=26
   ·rw[if_pos e] at h3;subst e;have hl1:=doc26 ho.1.1;have hp:=(kdE_bd (head_ok hl1 ho.2.1)).1;obtain⟨a1,x,a2,a3⟩:=keepP_go h3 hp;exact⟨a1,fun _=>⟨x,a2,by rw[a3,head_kd hl1]⟩⟩
   ·rw[if_neg e] at h3;injection h3 with h3
    subst h3;exact⟨Kgo.refl _,fun h=>absurd h e⟩
  refine⟨(g1'.trans g2.1).trans g3,fun K hK hv=>⟨?_,fun e=>?_,?_,?_⟩⟩
  ·have:=hv 0 k2 rfl
   rw[h2,formP_four] at this;simpa using this
  ·obtain⟨x,a1,a2⟩:=g2.2 e;rw[<-a2];exact hK _ _ (g3.up _ _ a1)
  ·exact f1 K (fun i x q=>hK i x (g3.up i x (g2.1.up i x q))) (fun j v q=>by have:=formP_kids h1 h0 j v q;simpa using this)
  ·exact f3 K hK (fun j v q=>by have:=hv (j+1) v q;rw[this];omega)
theorem sk_of {nc:Nat}{cells:List Int}{e:Ex}(h:kindP cells e≠0)(ho:okE nc e):∃K:Nat->Int,(∀ i,1<=K i)/\skE K e:=by
 obtain⟨-,-,s,hx,h4⟩:=kindP_inv h;obtain⟨hg,s1,kd,hk,hl,h0,h1,h2,h3⟩:=rgE_inv hx;obtain⟨g1,f1⟩:=rg_go cells nc e.kids e.k 0 _ _ _ _ _ ho.2 hk;have g1':Kgo (0,fun _=>none) s1:=⟨fun i x q=>g1.up i x q,fun q=>g1.pos q⟩
 have g2:Kgo s1 s/\(e.k=26->∃x,s.2 e.n.toNat=some x/\kdE x=(kdF e.kids).getD 0 0):=by
  by_cases ek:e.k=26
  ·rw[if_pos ek] at h3;have hl1:e.kids.len=1:=by
    have:=ho.1.1
    rw[ek] at this;exact doc26 this
   have hp:=(kdE_bd (head_ok hl1 ho.2)).1;obtain⟨a1,x,a2,a3⟩:=keepP_go h3 hp;exact⟨a1,fun _=>⟨x,a2,by rw[a3,head_kd hl1]⟩⟩
  ·rw[if_neg ek] at h3;injection h3 with h3
   subst h3;exact⟨Kgo.refl _,fun h=>absurd h ek⟩
 have hpos:=(g1'.trans g2.1).pos (fun i x q=>by cases q)
 let K:Nat->Int:=fun i=>match s.2 i with|none=>1|some x=>kdE x
 have hK:∀ i x,s.2 i=some x->kdE x=K i:=fun i x q=>by simp only[K];rw[q]
 refine⟨K,fun i=>?_,?_,fun ek=>?_,?_⟩
 ·simp only[K];cases hs:s.2 i with
  | none=>simp
  | some x=>exact hpos i x hs
 ·rw[<-formP_four (n:=e.n) (kd:=kd),<-h2];exact h4
 ·obtain⟨x,a1,a2⟩:=g2.2 ek;rw[<-a2];exact hK _ _ a1
 ·exact f1 K (fun i x q=>hK i x (g2.1.up i x q)) (fun j v q=>by have:=formP_kids h1 h0 j v q;simpa using this)
open Go.ChangeShapes Go.WideShapes Go.ChangeAt Go.RowKit
theorem pcel_d (K:Nat->Int)(nc N:Nat)(HP:PartD K nc N)(n:Int)(nm:List UInt8)(a:Int)(x:Ex)(ao:Option Addr)(cap ar:Nat)(w:World)(o:Nat->Nat)(rb:Nat)(p0 p1 p2 p3 p4:Value)(lv:List Int)(s:Dp)(m:Nat)(hN:(Fs.ex x .nil).size<=N)(ho:okE nc ⟨26,n,nm,a,(Fs.ex x .nil)⟩)(hsk:skF K (Fs.ex x .nil) 26 0)(hlv:lv.length=nc)(hnc:nc<=256)(har:ar+(Fs.ex x .nil).size<=1000000)(hsz:(Fs.ex x .nil).size<=100000)(S:SnO w o (Fs.ex x .nil) ao)(hks:s.ks.length=nc)(hz:s.sz m)(hm:m+(17*(Fs.ex x .nil).size+16)<=100000000)(X:DX w o p4 lv)(h:DW w o rb p0 p1 p2 p3 p4 s) :
  Calls Tryd.prog 30 #[pt0 rb,exN ⟨26,n,nm,a,(Fs.ex x .nil)⟩ ao cap,.int .i64 (ar:Nat)] w (PosD w o rb p0 p1 p2 p3 p4 (clxD n.toNat (kdE x) (deE lv x) ar s) (.tuple #[])):=by
 have hok:=ho.2;simp only at hok;have ox:=(okF_ex hok).1;have hn:0<=n/\n<(nc:Int):=ho.1.2.2.1 rfl;obtain⟨n0,hn0⟩:∃n0:Nat,(n0:Int)=n:=⟨n.toNat,by omega⟩
 subst hn0;rw[Int.toNat_natCast];have sx:skE K x:=skF_at0 (by omega) hsk;have hkx:=kdE_bd ox;simp only[esize_ex,Fs.size] at hN har hsz hm;obtain⟨w1,o1,g,hw1,HG,B1,E1,X1,SN1,S0⟩:=headD #[.int .i64 26,.int .i64 (n0:Nat),stv nm,.slice ao (Fs.ex x .nil).len cap] h X S;have KK:=keepB B1;obtain⟨c0,c1,c2,c3⟩:=KK.out _ _ (Step.refl I17 w1 o1);obtain⟨l1,-⟩:=E1.cl;have T1:=Step.refl I17 w1 o1;clear B1 h X S;rw[exN_out];simp only;obtain⟨b,off,ak,ck,hao,NN,Sx,NK⟩:=kidO (x:=.nil) SN1 0 rfl;subst hao;have hlen:(Fs.ex x .nil).len=1:=rfl;rw[hlen] at hw1 KK c3 ⊢;have HKO:=fun w2 (S2:SnA w2 x.kids ak)=>kindq_c K nc (N+1) x ak ck w2 (by omega) ox sx S2;rw[exN_out] at HKO;obtain⟨Cq,hCq⟩:∃Cq,Cq=s.cel n0 (kdE x):=⟨_,rfl⟩
 have dC:=dle_cel s n0 (kdE x);rw[<-hCq] at dC;have zC:=dC.sz m hz;have kC:=dC.ks.trans hks;have hP:=fun wx ox' E=>puts_c wx ox' rb p0 p1 p2 p3 p4 Cq 17 n0 0 E;have dP:=dle_puts Cq 17 n0 0;have zP:=dP.sz _ zC;have hY:=fun wx ox' S X E=>HP x ak ck ar wx ox' rb p0 p1 p2 p3 p4 lv (Cq.puts 17 n0 0) _ (by omega) ox sx hlv hnc (by omega) (by omega) S (dP.ks.trans kC) zP (by omega) X E;simp only[exN_out] at hY;have dF:=dle_deE lv x ar (Cq.puts 17 n0 0);have hgo:clxD n0 (kdE x) (deE lv x) ar s=((deE lv x ar (Cq.puts 17 n0 0)).puts 18 n0 0).lands Cq.at1:=by rw[hCq];rfl
 rw[hgo];clear hgo;generalize deE lv x ar (Cq.puts 17 n0 0)=F at *;have hQ:=fun wx ox' E=>puts_c wx ox' rb p0 p1 p2 p3 p4 F 18 n0 0 E;have lF:(F.puts 18 n0 0).lg=false->Cq.at1<(F.puts 18 n0 0).ws.length:=at1_lt (dF.trans (dle_puts F 18 n0 0));generalize hat:Cq.at1=iC at *;have hR:=fun wx ox' E=>lands_c wx ox' rb p0 p1 p2 p3 p4 (F.puts 18 n0 0) iC lF E;have h7:=E1;obtain⟨wl,vc,vn,vk,vw,q0,q1,q2,q3,q4⟩:=E1;obtain⟨gk,capk,rfl,ogk,-,-,hgl,hck,hfk⟩:=q4.pos (by omega);have hne1:rb≠gk:=fun e=>by have:=q0.2;rw[e,ogk] at this;cases this
 have hn0:n0<s.ks.length:=by omega
 have r7:=(cells12 q0.1).1.2.2.2.1;have rz:w1.cell? ⟨gk,n0,none⟩=some (.int .i64 (s.ks.getD n0 0)):=by
  rw[hck n0 (by omega)];simp[eiV,hn0,List.getD_eq_getElem?_getD]
 have hnI:(n0:Int)<(s.ks.length:Int):=by omega
 obtain⟨kx,hkk⟩:∃kx,kx=kdE x:=⟨_,rfl⟩
 by_cases h0:s.ks.getD n0 0=0
 ·have hC2:Cq={ s with ks:=s.ks.set n0 kx }:=by rw[hCq,hkk];unfold Dp.cel;rw[if_pos h0]
  rw[h0] at rz;have HS:Hid (∀ w2,Below w1.heap.size w1 w2->DW (w2.setCell ⟨gk,n0,none⟩ (.int .i64 kx)) o1 rb p0 p1 p2 p3 p4 Cq/\Step I17 w1 o1 (w2.setCell ⟨gk,n0,none⟩ (.int .i64 kx)) o1):=fun w2 B=>by
   have x0:=Step.ofBelow (I:=fun _=>False) o1 B;have x1:Step (fun k=>k=5) w1 o1 (w2.setCell ⟨gk,n0,none⟩ (.int .i64 kx)) o1:=(Step.ofBelow o1 B).setCell ⟨gk,n0,none⟩ _ ogk;rw[hC2];refine⟨⟨wl,_,_,_,_,q0.step x1 (by decide),q1.step x1 (by decide),q2.step x1 (by decide),q3.step x1 (by decide),?_⟩,x1.mono (I17_of (by decide))⟩;have r:=(q4.step x0 id).store n0 (.int .i64 kx);have e2:eiV (s.ks.set n0 kx)=(eiV s.ks).set n0 (.int .i64 kx):=by simp[eiV]
   have e3:(s.ks.set n0 kx).length=s.ks.length:=by simp
   simp only[e2,e3];exact r
  have FZ:Hid (∀ w2,Below w1.heap.size w1 w2->w2.cell? ⟨rb,7,none⟩=some (.slice (some ⟨gk,0,none⟩) s.ks.length capk)/\(∃v,w2.cell? ⟨gk,n0,none⟩=some v)/\w2.frozen? ⟨gk,n0,none⟩=false):=fun w2 B=>by
   refine⟨(B.cell (p:=⟨rb,7,none⟩) q0.lt).trans r7,⟨.int .i64 0,?_⟩,?_⟩
   ·rw[B.cell (p:=⟨gk,n0,none⟩) hgl];exact rz
   ·have e:=B.block gk hgl
    have:=hfk n0
    unfold World.frozen? at this ⊢;rw[e];exact this
  rw[<-hkk] at HKO;have HNK:Hid (∀ w' o',Step I17 w1 o1 w' o'->Nd4 w' b off x ak ck):=fun w' o' T=>NK T not0;clear hCq hC2 q0 q1 q2 q3 q4 hck hfk dC zC kC dP zP dF hat h7 hz hks l1 hn ho hok hsk HP SN1 NN lF wl hkk h0 hlen;go_enter Tryd.func30,Tryd.ntmps30;go_upto_region 1 with fail;rw[<-hw1,<-HG.out];clear hw1;have BD:∀ q,Below w1.heap.size w1 (w1.drewN q):=fun q=>⟨rfl,rfl,rfl,Nat.le_refl _,fun _ _=>rfl⟩
  go_quiet (fail)
  have BD:=BD nq;generalize w1.drewN nq=wd at *;clear c0 c1 c2 c3 r7 rz;obtain⟨c0,c1,c2,c3⟩:=KK.out _ _ (Step.ofBelow (I:=I17) o1 BD);obtain⟨r7,⟨vz2,rz0⟩,rf⟩:=FZ.out wd BD;obtain⟨x0,x1,x2,x3⟩:=HNK.out _ _ (Step.ofBelow (I:=I17) o1 BD);have BD2:=BD.drew;obtain⟨d0,d1,d2,d3⟩:=KK.out _ _ (Step.ofBelow (I:=I17) o1 BD2);obtain⟨u7,⟨uz,ur⟩,uf⟩:=FZ.out wd.drew BD2;obtain⟨y0,y1,y2,y3⟩:=HNK.out _ _ (Step.ofBelow (I:=I17) o1 BD2);have HK:=HKO wd.drew (Sx.all.below BD2);clear HKO;go_upto_region 2 with fail;go_region_held3 (fun wx=>wx.cell? ⟨g,1,none⟩=some (.int .i64 (n0:Nat))/\wx.cell? ⟨g,3,none⟩=some (.slice (some ⟨b,off,none⟩) 1 cap)/\wx.cell? ⟨rb,7,none⟩=some (.slice (some ⟨gk,0,none⟩) s.ks.length capk)/\(wx.cell? ⟨b,off,none⟩=some (.int .i64 x.k)/\wx.cell? ⟨b,off+1,none⟩=some (.int .i64 x.n)/\wx.cell? ⟨b,off+2,none⟩=some (stv x.nm)/\wx.cell? ⟨b,off+3,none⟩=some (.slice ak x.kids.len ck))) (go_keep) (first|(go_at_call 48;refine HK.mono ?_;rintro e w2 ⟨rfl,B2⟩;have BB2:=BD2.trans (B2.mono BD2.size);obtain⟨e0,e1,e2,e3⟩:=KK.out _ _ (Step.ofBelow (I:=I17) o1 BB2);obtain⟨t7,⟨tz,tr⟩,tf⟩:=FZ.out w2 BB2;obtain⟨z0,z1,z2,z3⟩:=HNK.out _ _ (Step.ofBelow (I:=I17) o1 BB2);obtain⟨m0,m1,m2,m3⟩:=KK.out _ _ (HS.out w2 BB2).2;obtain⟨v0,v1,v2,v3⟩:=HNK.out _ _ (HS.out w2 BB2).2;have mr:=(World.cell?_of_block (a:=⟨rb,7,none⟩) (heap_setCell_other w2 ⟨gk,n0,none⟩ rb (.int .i64 kx) hne1)).trans t7))
  all_goals
   obtain⟨E3,T3⟩:=HS.out w2 BB2;clear HS FZ HK HNK c0 c1 c2 c3 r7 rz0 rf x0 x1 x2 x3 d0 d1 d2 d3 u7 ur uf y0 y1 y2 y3 e0 e1 e2 e3 t7 tr tf z0 z1 z2 z3 m0 m1 m2 m3 v0 v1 v2 v3 mr;generalize w2.setCell ⟨gk,n0,none⟩ (.int .i64 kx)=w3 at *;obtain⟨c0,c1,c2,c3⟩:=KK.out _ _ T3;obtain⟨o3,ho3⟩:∃o3,o3=o1:=⟨_,rfl⟩
   rw[<-ho3] at E3;have T3:Step I17 w1 o1 w3 o3:=by rw[ho3];exact T3
   clear ho3;go_wp2_with fail;refine(hP w3 o3 E3).mono ?_;rintro e w4 ⟨rfl,o4,E4,S4⟩;have T4:=T3.trans S4;clear S4 c0 c1 c2 c3 hP;obtain⟨c0,c1,c2,c3⟩:=KK.out _ _ T4;obtain⟨x0,x1,x2,x3⟩:Nd4 w4 b off x ak ck:=NK T4 not0;have HY:=hY w4 o4 (Sx.stepO T4 not0) (X1.step T4 not0) E4;go_wp2_with fail;refine HY.mono ?_;rintro e w5 ⟨rfl,o5,E5,S5⟩;have T5:=T4.trans S5;clear S5 c0 c1 c2 c3 x0 x1 x2 x3 HY hY;obtain⟨c0,c1,c2,c3⟩:=KK.out _ _ T5;go_wp2_with fail;refine(hQ w5 o5 E5).mono ?_;rintro e w6 ⟨rfl,o6,E6,S6⟩;have T6:=T5.trans S6;clear S6 c0 c1 c2 c3 hQ;obtain⟨c0,c1,c2,c3⟩:=KK.out _ _ T6;go_wp2_with fail;refine(hR w6 o6 E6).mono ?_;rintro e w7 ⟨rfl,o7,E7,S7⟩;have T7:=T6.trans S7;clear S7 c0 c1 c2 c3 hR;obtain⟨c0,c1,c2,c3⟩:=KK.out _ _ T7;go_wp2
   go_end0
   exact⟨rfl,o7,E7,S0.trans T7⟩
 ·have hC2:Cq=s:=by rw[hCq];unfold Dp.cel;rw[if_neg h0]
  subst hC2;have hb0:(Cq.ks.getD n0 0==0)=false:=by simpa using h0
  generalize Cq.ks.getD n0 0=z0 at *;have TD:∀ q,Step I17 w1 o1 (w1.drewN q) o1:=fun q=>(Step.refl _ w1 o1).drewN q;have ED:∀ q,DW (w1.drewN q) o1 rb p0 p1 p2 p3 p4 Cq:=fun q=>h7.step ((Step.refl (fun _=>False) w1 o1).drewN q) noF;clear hCq q0 q1 q2 q3 q4 hck dC zC kC dP zP dF hat hz hks l1 hn ho hok hsk HP SN1 NN lF wl hkk hlen HKO h7;go_enter Tryd.func30,Tryd.ntmps30;go_upto_region 1 with fail;rw[<-hw1,<-HG.out];clear hw1
  go_quiet (fail)
  have T3:=TD nq;have E3:=ED nq;clear TD ED;generalize w1.drewN nq=w3 at *;clear c0 c1 c2 c3 r7 rz;obtain⟨c0,c1,c2,c3⟩:=KK.out _ _ T3;obtain⟨o3,ho3⟩:∃o3,o3=o1:=⟨_,rfl⟩
  rw[<-ho3] at E3;have T3:Step I17 w1 o1 w3 o3:=by rw[ho3];exact T3
  clear ho3;go_wp2_with fail;refine(hP w3 o3 E3).mono ?_;rintro e w4 ⟨rfl,o4,E4,S4⟩;have T4:=T3.trans S4;clear S4 c0 c1 c2 c3 hP;obtain⟨c0,c1,c2,c3⟩:=KK.out _ _ T4;obtain⟨x0,x1,x2,x3⟩:Nd4 w4 b off x ak ck:=NK T4 not0;have HY:=hY w4 o4 (Sx.stepO T4 not0) (X1.step T4 not0) E4;go_wp2_with fail;refine HY.mono ?_;rintro e w5 ⟨rfl,o5,E5,S5⟩;have T5:=T4.trans S5;clear S5 c0 c1 c2 c3 x0 x1 x2 x3 HY hY;obtain⟨c0,c1,c2,c3⟩:=KK.out _ _ T5;go_wp2_with fail;refine(hQ w5 o5 E5).mono ?_;rintro e w6 ⟨rfl,o6,E6,S6⟩;have T6:=T5.trans S6;clear S6 c0 c1 c2 c3 hQ;obtain⟨c0,c1,c2,c3⟩:=KK.out _ _ T6;go_wp2_with fail;refine(hR w6 o6 E6).mono ?_;rintro e w7 ⟨rfl,o7,E7,S7⟩;have T7:=T6.trans S7;clear S7 c0 c1 c2 c3 hR;obtain⟨c0,c1,c2,c3⟩:=KK.out _ _ T7;go_wp2
  go_end0
  exact⟨rfl,o7,E7,S0.trans T7⟩
theorem dcmp_d (k n:Int)(nm:List UInt8)(a:Int)(ks:Fs)(ao:Option Addr)(cap ar:Nat)(w:World)(o:Nat->Nat)(rb:Nat)(p0 p1 p2 p3 p4:Value)(lv:List Int)(s:Dp)(m:Nat)(R:Dp)(hk:k=13\/k=14\/k=15\/k=16)(H:∀ wx ox',SnO wx ox' ks ao->DX wx ox' p4 lv->DW wx ox' rb p0 p1 p2 p3 p4 s->Calls Tryd.prog 29 #[pt0 rb,exN ⟨k,n,nm,a,ks⟩ ao cap,.int .i64 (ar:Nat)] wx (PosD wx ox' rb p0 p1 p2 p3 p4 R (.tuple #[])))(hlf:s.lg=false)(S:SnO w o ks ao)(X:DX w o p4 lv)(h:DW w o rb p0 p1 p2 p3 p4 s) :
  Calls Tryd.prog 14 #[pt0 rb,exN ⟨k,n,nm,a,ks⟩ ao cap,.int .i64 (ar:Nat)] w (PosD w o rb p0 p1 p2 p3 p4 (R) (.tuple #[])):=by
 obtain⟨w1,o1,g,hw1,HG,B1,E1,X1,SN1,S0⟩:=headD #[.int .i64 k,.int .i64 n,stv nm,.slice ao ks.len cap] h X S;have KK:=keepB B1;obtain⟨c0,c1,c2,c3⟩:=KK.out _ _ (Step.refl I17 w1 o1);obtain⟨l1,-⟩:=E1.cl;have T1:=Step.refl I17 w1 o1;clear B1 h X S;rw[exN_out];simp only;rw[hlf] at l1;have H1:=H w1 o1 SN1 X1 E1;rw[exN_out] at H1;simp only at H1;generalize ks.len=le at *;clear H SN1 X1 E1;rcases hk with rfl|rfl|rfl|rfl
 all_goals
  go_enter Tryd.func14,Tryd.ntmps14;go_upto_region 1 with fail;rw[<-hw1,<-HG.out];clear hw1;go_wp2_with fail;refine H1.mono ?_;rintro e w2 ⟨rfl,o2,E2,S2⟩;have T2:=T1.trans S2;clear S2 c0 c1 c2 c3 H1;obtain⟨c0,c1,c2,c3⟩:=KK.out _ _ T2;go_wp2
  go_end0
  exact⟨rfl,o2,E2,S0.trans T2⟩
theorem dcel_d (k n:Int)(nm:List UInt8)(a:Int)(ks:Fs)(ao:Option Addr)(cap ar:Nat)(w:World)(o:Nat->Nat)(rb:Nat)(p0 p1 p2 p3 p4:Value)(lv:List Int)(s:Dp)(m:Nat)(R:Dp)(hk:k=26)(H:∀ wx ox',SnO wx ox' ks ao->DX wx ox' p4 lv->DW wx ox' rb p0 p1 p2 p3 p4 s->Calls Tryd.prog 30 #[pt0 rb,exN ⟨k,n,nm,a,ks⟩ ao cap,.int .i64 (ar:Nat)] wx (PosD wx ox' rb p0 p1 p2 p3 p4 R (.tuple #[])))(hlf:s.lg=false)(S:SnO w o ks ao)(X:DX w o p4 lv)(h:DW w o rb p0 p1 p2 p3 p4 s) :
  Calls Tryd.prog 14 #[pt0 rb,exN ⟨k,n,nm,a,ks⟩ ao cap,.int .i64 (ar:Nat)] w (PosD w o rb p0 p1 p2 p3 p4 (R) (.tuple #[])):=by
 obtain⟨w1,o1,g,hw1,HG,B1,E1,X1,SN1,S0⟩:=headD #[.int .i64 k,.int .i64 n,stv nm,.slice ao ks.len cap] h X S;have KK:=keepB B1;obtain⟨c0,c1,c2,c3⟩:=KK.out _ _ (Step.refl I17 w1 o1);obtain⟨l1,-⟩:=E1.cl;have T1:=Step.refl I17 w1 o1;clear B1 h X S;rw[exN_out];simp only;rw[hlf] at l1;have H1:=H w1 o1 SN1 X1 E1;rw[exN_out] at H1;simp only at H1;generalize ks.len=le at *;clear H SN1 X1 E1;subst hk;go_enter Tryd.func14,Tryd.ntmps14;go_upto_region 1 with fail;rw[<-hw1,<-HG.out];clear hw1;go_wp2_with fail;refine H1.mono ?_;rintro e w2 ⟨rfl,o2,E2,S2⟩;have T2:=T1.trans S2;clear S2 c0 c1 c2 c3 H1;obtain⟨c0,c1,c2,c3⟩:=KK.out _ _ T2;go_wp2
 go_end0
 exact⟨rfl,o2,E2,S0.trans T2⟩
theorem dqua_d (k n:Int)(nm:List UInt8)(a:Int)(ks:Fs)(ao:Option Addr)(cap ar:Nat)(w:World)(o:Nat->Nat)(rb:Nat)(p0 p1 p2 p3 p4:Value)(lv:List Int)(s:Dp)(m:Nat)(R:Dp)(hk:k=21)(H:∀ wx ox',SnO wx ox' ks ao->DX wx ox' p4 lv->DW wx ox' rb p0 p1 p2 p3 p4 s->Calls Tryd.prog 31 #[pt0 rb,exN ⟨k,n,nm,a,ks⟩ ao cap,.int .i64 (ar:Nat)] wx (PosD wx ox' rb p0 p1 p2 p3 p4 R (.tuple #[])))(hlf:s.lg=false)(S:SnO w o ks ao)(X:DX w o p4 lv)(h:DW w o rb p0 p1 p2 p3 p4 s) :
  Calls Tryd.prog 14 #[pt0 rb,exN ⟨k,n,nm,a,ks⟩ ao cap,.int .i64 (ar:Nat)] w (PosD w o rb p0 p1 p2 p3 p4 (R) (.tuple #[])):=by
 obtain⟨w1,o1,g,hw1,HG,B1,E1,X1,SN1,S0⟩:=headD #[.int .i64 k,.int .i64 n,stv nm,.slice ao ks.len cap] h X S;have KK:=keepB B1;obtain⟨c0,c1,c2,c3⟩:=KK.out _ _ (Step.refl I17 w1 o1);obtain⟨l1,-⟩:=E1.cl;have T1:=Step.refl I17 w1 o1;clear B1 h X S;rw[exN_out];simp only;rw[hlf] at l1;have H1:=H w1 o1 SN1 X1 E1;rw[exN_out] at H1;simp only at H1;generalize ks.len=le at *;clear H SN1 X1 E1;subst hk;go_enter Tryd.func14,Tryd.ntmps14;go_upto_region 1 with fail;rw[<-hw1,<-HG.out];clear hw1;go_wp2_with fail;refine H1.mono ?_;rintro e w2 ⟨rfl,o2,E2,S2⟩;have T2:=T1.trans S2;clear S2 c0 c1 c2 c3 H1;obtain⟨c0,c1,c2,c3⟩:=KK.out _ _ T2;go_wp2
 go_end0
 exact⟨rfl,o2,E2,S0.trans T2⟩
theorem dcho_d (k n:Int)(nm:List UInt8)(a:Int)(ks:Fs)(ao:Option Addr)(cap ar:Nat)(w:World)(o:Nat->Nat)(rb:Nat)(p0 p1 p2 p3 p4:Value)(lv:List Int)(s:Dp)(m:Nat)(R:Dp)(hk:k=17\/k=18\/k=19)(H:∀ wx ox',SnO wx ox' ks ao->DX wx ox' p4 lv->DW wx ox' rb p0 p1 p2 p3 p4 s->Calls Tryd.prog 32 #[pt0 rb,exN ⟨k,n,nm,a,ks⟩ ao cap,.int .i64 (ar:Nat)] wx (PosD wx ox' rb p0 p1 p2 p3 p4 R (.tuple #[])))(hlf:s.lg=false)(S:SnO w o ks ao)(X:DX w o p4 lv)(h:DW w o rb p0 p1 p2 p3 p4 s) :
  Calls Tryd.prog 14 #[pt0 rb,exN ⟨k,n,nm,a,ks⟩ ao cap,.int .i64 (ar:Nat)] w (PosD w o rb p0 p1 p2 p3 p4 (R) (.tuple #[])):=by
 obtain⟨w1,o1,g,hw1,HG,B1,E1,X1,SN1,S0⟩:=headD #[.int .i64 k,.int .i64 n,stv nm,.slice ao ks.len cap] h X S;have KK:=keepB B1;obtain⟨c0,c1,c2,c3⟩:=KK.out _ _ (Step.refl I17 w1 o1);obtain⟨l1,-⟩:=E1.cl;have T1:=Step.refl I17 w1 o1;clear B1 h X S;rw[exN_out];simp only;rw[hlf] at l1;have H1:=H w1 o1 SN1 X1 E1;rw[exN_out] at H1;simp only at H1;generalize ks.len=le at *;clear H SN1 X1 E1;rcases hk with rfl|rfl|rfl
 all_goals
  go_enter Tryd.func14,Tryd.ntmps14;go_upto_region 1 with fail;rw[<-hw1,<-HG.out];clear hw1;go_wp2_with fail;refine H1.mono ?_;rintro e w2 ⟨rfl,o2,E2,S2⟩;have T2:=T1.trans S2;clear S2 c0 c1 c2 c3 H1;obtain⟨c0,c1,c2,c3⟩:=KK.out _ _ T2;go_wp2
  go_end0
  exact⟨rfl,o2,E2,S0.trans T2⟩
theorem plong_d (k n:Int)(nm:List UInt8)(a:Int)(ks:Fs)(ao:Option Addr)(cap ar:Nat)(w:World)(o:Nat->Nat)(rb:Nat)(p0 p1 p2 p3 p4:Value)(lv:List Int)(s:Dp)(m:Nat)(hlg:s.lg=true)(S:SnO w o ks ao)(X:DX w o p4 lv)(h:DW w o rb p0 p1 p2 p3 p4 s) :
  Calls Tryd.prog 14 #[pt0 rb,exN ⟨k,n,nm,a,ks⟩ ao cap,.int .i64 (ar:Nat)] w (PosD w o rb p0 p1 p2 p3 p4 (s) (.tuple #[])):=by
 obtain⟨w1,o1,g,hw1,HG,B1,E1,X1,SN1,S0⟩:=headD #[.int .i64 k,.int .i64 n,stv nm,.slice ao ks.len cap] h X S;have KK:=keepB B1;obtain⟨c0,c1,c2,c3⟩:=KK.out _ _ (Step.refl I17 w1 o1);obtain⟨l1,-⟩:=E1.cl;have T1:=Step.refl I17 w1 o1;clear B1 h X S;rw[exN_out];simp only;rw[hlg] at l1;clear SN1 X1 KK;go_enter Tryd.func14,Tryd.ntmps14;go_upto_region 1 with fail;rw[<-hw1,<-HG.out];clear hw1;go_wp2
 go_end0
 exact⟨rfl,o1,E1,S0.trans T1⟩
theorem partd_step (K:Nat->Int)(nc N:Nat)(HP:PartD K nc N):PartD K nc (N+1):=by
 intro e ao cap ar w o rb p0 p1 p2 p3 p4 lv s m hN ho hsk hlv hnc har hsz S hks hz hm X h;by_cases hlg:s.lg=true
 ·rw[deE_lg hsk.1 hlg];exact plong_d e.k e.n e.nm e.a e.kids ao cap ar w o rb p0 p1 p2 p3 p4 lv s m hlg S X h
 have hlf:s.lg=false:=by simpa using hlg
 obtain⟨k,n,nm,a,ks⟩:=e;obtain⟨hs1,-,hsf⟩:=hsk;simp only at hN hsf hs1 har hsz hm S;have hN':ks.size<=N:=by omega
 have hdl:=doc_len ho.1.1;have hdq:=doc_lenq ho.1.1;simp only at hdl hdq;have hkk:=docF_kind ho.1.1;simp only at hkk;unfold deE parD
 dsimp only
 rw[if_neg hs1,if_neg hlg];by_cases e1:k=1
 ·rw[if_pos e1];exact pval_d k n nm a ks ao cap ar w o rb p0 p1 p2 p3 p4 lv s m 1 (.inl ⟨e1,rfl⟩) hlf S hz (by omega) X h
 rw[if_neg e1];by_cases e2:k=2
 ·rw[if_pos e2];exact pval_d k n nm a ks ao cap ar w o rb p0 p1 p2 p3 p4 lv s m 2 (.inr ⟨e2,rfl⟩) hlf S hz (by omega) X h
 rw[if_neg e2];by_cases e3:k=3
 ·rw[if_pos e3];exact pvtx_d k n nm a ks ao cap ar w o rb p0 p1 p2 p3 p4 lv s m e3 hlf S hz (by omega) X h
 rw[if_neg e3];by_cases e5:k=5
 ·rw[if_pos e5];exact pvar_d k n nm a ks ao cap ar w o rb p0 p1 p2 p3 p4 lv s m e5 (hdl.2.2.2.2.2.1 (.inl e5)) hlf S hz (by omega) X h
 rw[if_neg e5];by_cases e6:6<=k/\k<=12
 ·rw[if_pos e6];exact pops_d K nc N HP k n nm a ks ao cap ar w o rb p0 p1 p2 p3 p4 lv s m e6 hN' ho hsf hlv hnc har hsz S hks hz hm X h hlf
 rw[if_neg e6];by_cases e13:13<=k/\k<=16
 ·rw[if_pos e13];exact dcmp_d k n nm a ks ao cap ar w o rb p0 p1 p2 p3 p4 lv s m _ (by omega) (fun wx ox S X E=>pcmp_d K nc N HP k n nm a ks ao cap ar wx ox rb p0 p1 p2 p3 p4 lv s m e13 hN' ho hsf hlv hnc har hsz S hks hz hm X E) hlf S X h
 rw[if_neg e13];by_cases e20:k=20
 ·rw[if_pos e20,deF_len];exact pcal_d K nc N HP k n nm a ks ao cap ar w o rb p0 p1 p2 p3 p4 lv s m e20 (by have:=hdl.2.2.2.2.1 e20;omega) hN' ho hsf hlv hnc har hsz S hks hz hm X h hlf
 rw[if_neg e20];by_cases e26:k=26
 ·rw[if_pos e26];subst e26;obtain⟨x,rfl⟩:=len_one (hdl.2.1 rfl);exact dcel_d 26 n nm a _ ao cap ar w o rb p0 p1 p2 p3 p4 lv s m _ rfl (fun wx ox S X E=>pcel_d K nc N HP n nm a x ao cap ar wx ox rb p0 p1 p2 p3 p4 lv s m hN' ho hsf hlv hnc har hsz S hks hz hm X E) hlf S X h
 rw[if_neg e26];by_cases e21:k=21
 ·rw[if_pos e21];subst e21;obtain⟨x,y,rfl⟩:=len_two (hdl.2.2.2.1 rfl).1;refine dqua_d 21 n nm a _ ao cap ar w o rb p0 p1 p2 p3 p4 lv s m _ rfl (fun wx ox S X E=>?_) hlf S X h;have hn:=(hdl.2.2.2.1 rfl).2;by_cases n1:n=1
  ·exact pqua1_d K nc N HP n nm a x y ao cap ar wx ox rb p0 p1 p2 p3 p4 lv s m n1 hN' ho hsf hlv hnc har hsz S hks hz hm X E
  by_cases n2:n=2
  ·exact pqua2_d K nc N HP n nm a x y ao cap ar wx ox rb p0 p1 p2 p3 p4 lv s m n2 hN' ho hsf hlv hnc har hsz S hks hz hm X E
  by_cases n3:n=3
  ·exact pqua3_d K nc N HP n nm a x y ao cap ar wx ox rb p0 p1 p2 p3 p4 lv s m n3 hN' ho hsf hlv hnc har hsz S hks hz hm X E
  by_cases n4:n=4
  ·exact pqua4_d K nc N HP n nm a x y ao cap ar wx ox rb p0 p1 p2 p3 p4 lv s m n4 hN' ho hsf hlv hnc har hsz S hks hz hm X E
  ·exact pqua5_d K nc N HP n nm a x y ao cap ar wx ox rb p0 p1 p2 p3 p4 lv s m (by omega) hN' ho hsf hlv hnc har hsz S hks hz hm X E
 rw[if_neg e21];have hk3:k=17\/k=18\/k=19:=by omega
 refine dcho_d k n nm a _ ao cap ar w o rb p0 p1 p2 p3 p4 lv s m _ hk3 (fun wx ox S X E=>?_) hlf S X h;rcases hk3 with e|e|e
 ·subst e;obtain⟨x,y,rfl⟩:=len_two (hdq.2.1 (by omega) (by omega));exact pcho17_d K nc N HP n nm a x y ao cap ar wx ox rb p0 p1 p2 p3 p4 lv s m hN' ho hsf hlv hnc har hsz S hks hz hm X E
 ·subst e;obtain⟨x,y,rfl⟩:=len_two (hdq.2.1 (by omega) (by omega));exact pcho18_d K nc N HP n nm a x y ao cap ar wx ox rb p0 p1 p2 p3 p4 lv s m hN' ho hsf hlv hnc har hsz S hks hz hm X E
 ·subst e;obtain⟨x,y,z,rfl⟩:=len_three (hdl.1 rfl);exact pcho19_d K nc N HP n nm a x y z ao cap ar wx ox rb p0 p1 p2 p3 p4 lv s m hN' ho hsf hlv hnc har hsz S hks hz hm X E
theorem partd_all (K:Nat->Int)(nc:Nat):∀ N,PartD K nc N
 | 0=>fun e ao cap ar w o rb p0 p1 p2 p3 p4 lv s m h=>by omega
 | N+1=>partd_step K nc N (partd_all K nc N)
theorem dig_r (r:Nat)(w:World)(hr:r<256) :
  Calls Tryd.prog 82 #[.int .u8 (r:Nat)] w fun e w'=>e=.returned (.bool (dig r))/\w'=w:=by
 by_cases h1:48<=r
 ·have g1:(48:Int)<=(r:Int):=by omega
  by_cases h2:r<=57
  ·have g2:(r:Int)<=57:=by omega
   have e0:dig r=true:=by simp[dig,h1,h2]
   rw[e0];clear e0;go_enter Tryd.func82,Tryd.ntmps82;go_wp2;go_ret;exact⟨rfl,rfl⟩
  ·have g2:¬(r:Int)<=57:=by omega
   have g3:decide ((r:Int)<=57)=false:=decide_eq_false g2;have e0:dig r=false:=by simp[dig];omega
   rw[e0];clear e0;go_enter Tryd.func82,Tryd.ntmps82;go_wp2;go_ret;exact⟨rfl,rfl⟩
 ·have g1:¬(48:Int)<=(r:Int):=by omega
  have e0:dig r=false:=by simp[dig];omega
  rw[e0];clear e0;go_enter Tryd.func82,Tryd.ntmps82;go_wp2;go_ret;exact⟨rfl,rfl⟩
theorem sml_r (r:Nat)(w:World)(hr:r<256) :
  Calls Tryd.prog 81 #[.int .u8 (r:Nat)] w fun e w'=>e=.returned (.bool (sml r))/\w'=w:=by
 by_cases h1:97<=r
 ·have g1:(97:Int)<=(r:Int):=by omega
  by_cases h2:r<=122
  ·have g2:(r:Int)<=122:=by omega
   have e0:sml r=true:=by simp[sml,h1,h2]
   rw[e0];clear e0;go_enter Tryd.func81,Tryd.ntmps81;go_wp2;go_ret;exact⟨rfl,rfl⟩
  ·have g2:¬(r:Int)<=122:=by omega
   have g3:decide ((r:Int)<=122)=false:=decide_eq_false g2;have e0:sml r=false:=by simp[sml];omega
   rw[e0];clear e0;go_enter Tryd.func81,Tryd.ntmps81;go_wp2;go_ret;exact⟨rfl,rfl⟩
 ·have g1:¬(97:Int)<=(r:Int):=by omega
  have e0:sml r=false:=by simp[sml];omega
  rw[e0];clear e0;go_enter Tryd.func81,Tryd.ntmps81;go_wp2;go_ret;exact⟨rfl,rfl⟩
abbrev wordsV:Array Value:=#[.string ⟨#[97,108,108]⟩,.string ⟨#[97,110,100]⟩,.string ⟨#[97,114,111,117,110,100]⟩,.string ⟨#[98,108,111,99,107]⟩,.string ⟨#[98,111,116,116,108,101,110,101,99,107]⟩,.string ⟨#[99,111,110,110,101,99,116,101,100]⟩,.string ⟨#[99,111,117,110,116]⟩,.string ⟨#[100,101,103,114,101,101]⟩,.string ⟨#[101,108,115,101]⟩,.string ⟨#[102,97,108,115,101]⟩,.string ⟨#[105,102]⟩,.string ⟨#[105,110]⟩,.string ⟨#[108,101,97,115,116]⟩,.string ⟨#[109,97,120]⟩,.string ⟨#[109,105,110]⟩,.string ⟨#[109,111,115,116]⟩,.string ⟨#[110,111,116]⟩,.string ⟨#[111,114]⟩,.string ⟨#[114,101,112]⟩,.string ⟨#[115,105,122,101]⟩,.string ⟨#[115,111,109,101]⟩,.string ⟨#[115,117,109]⟩,.string ⟨#[116,104,101,110]⟩,.string ⟨#[116,111,116,97,108]⟩,.string ⟨#[116,114,117,101]⟩,.string ⟨#[118,97,108,117,101]⟩,.string ⟨#[118,101,114,116,105,99,101,115]⟩]
theorem wordsV_at (k:Nat)(hk:k<27):wordsV[k]?=some (.string (wd k)):=by
 match k,hk with
 | 0,_=>rfl
 | 1,_=>rfl
 | 2,_=>rfl
 | 3,_=>rfl
 | 4,_=>rfl
 | 5,_=>rfl
 | 6,_=>rfl
 | 7,_=>rfl
 | 8,_=>rfl
 | 9,_=>rfl
 | 10,_=>rfl
 | 11,_=>rfl
 | 12,_=>rfl
 | 13,_=>rfl
 | 14,_=>rfl
 | 15,_=>rfl
 | 16,_=>rfl
 | 17,_=>rfl
 | 18,_=>rfl
 | 19,_=>rfl
 | 20,_=>rfl
 | 21,_=>rfl
 | 22,_=>rfl
 | 23,_=>rfl
 | 24,_=>rfl
 | 25,_=>rfl
 | 26,_=>rfl
 | n+27,h=>omega
theorem word_r (s:ByteArray)(w:World)(hs:s.size<=maxLen) :
  Calls Tryd.prog 83 #[.string s] w fun e w'=>e=.returned (.bool (wordB s.data.toList))/\Below w.heap.size w w':=by
 obtain⟨w1,hw1⟩:∃w1,w1=w.alloc (.cells wordsV 9):=⟨_,rfl⟩
 have hce:∀ k,k<27->w1.cell? ⟨w.heap.size,k,none⟩=some (.string (wd k)):=fun k hk=>by
  rw[hw1,cell_of_row _ _ _ _ _ _ (heap_alloc_new w _),wordsV_at k hk]
 have hbe:Below w.heap.size w w1:=by rw[hw1];exact b1 _ _
 have HW:Hid (w1=w.alloc (.cells wordsV 9)):=hw1;have HC:=Lib.hid hce;clear hw1 hce;go_enter Tryd.func83,Tryd.ntmps83;go_upto_region 2 with fail;rw[show w.alloc _=w1 from HW.out.symm];clear HW;go_wp2_with fail;go_loopw [4] (fun v wr=>∃k:Nat,k<=27/\v=.int .i64 (k:Nat)/\(∀ j,j<k->s≠wd j)/\wr=w1) (fun v _=>27-(intOf v).toNat)
 case atStart=>exact⟨0,by omega,by go_num,fun j hj=>by omega,rfl⟩
 case round =>
  obtain⟨k,hk,rfl,hin,rfl⟩:=hrel;by_cases hlt:k<27
  ·have ix:=HC.out k hlt;have hkI:(k:Int)<27:=by omega
   by_cases he:s=wd k
   ·have fin:wordB s.data.toList=true:=wordB_yes k hlt (by rw[he];rfl);rw[<-he] at ix;clear he HC hin;go_wp2;go_ret;exact⟨by rw[fin];rfl,hbe⟩
   ·have hin':∀ j,j<k+1->s≠wd j:=fun j hj=>by
     by_cases e:j=k
     ·subst e;exact he
     ·exact hin j (by omega)
    have heb:((wd k).toList==s.toList)=false:=str_ne (fun e=>he e.symm);generalize wd k=t at ix he heb;clear HC hin;go_wp2;go_roundw
    case rel=>(try ((repeat apply Exists.intro);refine⟨?_,rfl⟩));exact⟨k+1,by omega,by go_num,hin',by trivial⟩
    case measure=>simp[intOf];omega
  ·obtain rfl:k=27:=by omega
   clear HC;have fin:wordB s.data.toList=false:=wordB_no fun j hj e=>hin j hj (bytes_eq.1 (by rw[e];rfl));go_wp2;go_ret;exact⟨by rw[fin];rfl,hbe⟩
theorem name_r (s:ByteArray)(w:World)(hs:s.size<=maxLen) :
  Calls Tryd.prog 65 #[.string s] w fun e w'=>e=.returned (.bool (nameB s.data.toList))/\Below w.heap.size w w':=by
 have hs':=hs;unfold maxLen at hs;have HL:Hid (s.data.toList.length=s.size):=data_len s;by_cases h0:s.size<1
 ·have fin:nameB s.data.toList=false:=by rw[<-Bool.not_eq_true,nameB_iff];rintro ⟨h,_⟩;have:=HL.out;omega
  rw[fin];clear fin;have h0I:(s.size:Int)<1:=by omega
  go_enter Tryd.func65,Tryd.ntmps65;go_wp2;go_ret;exact⟨rfl,b0 _⟩
 ·have h0I:¬(s.size:Int)<1:=by omega
  by_cases h12:12<s.size
  ·have fin:nameB s.data.toList=false:=by rw[<-Bool.not_eq_true,nameB_iff];rintro ⟨_,h,_⟩;have:=HL.out;omega
   rw[fin];clear fin;have h12I:(12:Int)<(s.size:Int):=by omega
   go_enter Tryd.func65,Tryd.ntmps65;go_wp2;go_ret;exact⟨rfl,b0 _⟩
  ·have h12I:¬(12:Int)<(s.size:Int):=by omega
   have hpos:0<s.size:=by omega
   have hpl:0<s.data.toList.length:=by have:=HL.out;omega
   have hb0:(s[0]'hpos).toNat<256:=UInt8.toNat_lt _;cases h1:sml (s[0]'hpos).toNat
   ·have fin:nameB s.data.toList=false:=nameB_not 0 hpl (by rw[data_get s 0 hpos hpl];simp[nmc,h1]);rw[fin];clear fin;go_enter Tryd.func65,Tryd.ntmps65;go_wp2_with (go_at_call 81;refine(sml_r _ _ hb0).mono ?_;rw[h1];rintro e w1 ⟨rfl,rfl⟩);go_ret;exact⟨rfl,b0 _⟩
   ·have H0:Hid (nmc 0 s[0]=true):=by show _=_;simp[nmc,h1]
    go_enter Tryd.func65,Tryd.ntmps65;go_wp2_with (go_at_call 81;refine(sml_r _ _ hb0).mono ?_;rw[h1];rintro e w1 ⟨rfl,rfl⟩);go_loopw [3] (fun v wr=>∃k:Nat,v=.int .i64 (k:Nat)/\k<=s.size/\(∀ j (h:j<s.data.toList.length),j<k->nmc j s.data.toList[j]=true)/\wr=w1) (fun v _=>s.size-(intOf v).toNat)
    case atStart=>exact⟨0,by go_num,by omega,fun j _ h=>by omega,rfl⟩
    case round =>
     obtain⟨k,rfl,hk,hin,rfl⟩:=hrel;by_cases hlt:k<s.size
     ·have hkl:k<s.data.toList.length:=by have:=HL.out;omega
      have hkI:(k:Int)<(s.size:Int):=by omega
      have hbk:(s[k]'hlt).toNat<256:=UInt8.toNat_lt _;have hex:nmc k s.data.toList[k]=nmc k s[k]:=by rw[data_get s k hlt hkl]
      have hcase:nmc k s[k]=(sml (s[k]).toNat||dig (s[k]).toNat||(s[k]).toNat==95):=by
       by_cases hk0:k=0
       ·subst hk0;rw[H0.out,h1];rfl
       ·have hb:(k != 0)=true:=by simpa using hk0
        simp[nmc,hb,Bool.or_assoc]
      have hgo:(sml (s[k]).toNat||dig (s[k]).toNat||(s[k]).toNat==95)=true->∀ j (h:j<s.data.toList.length),j<k+1->nmc j s.data.toList[j]=true:=fun hx j h hj=>by
       by_cases e:j=k
       ·subst e;rw[hex,hcase];exact hx
       ·exact hin j h (by omega)
      have hno:(sml (s[k]).toNat||dig (s[k]).toNat||(s[k]).toNat==95)=false->nameB s.data.toList=false:=fun hx=>nameB_not k hkl (by rw[hex,hcase];exact hx);have HG:Hid (((sml (s[k]).toNat||dig (s[k]).toNat||(s[k]).toNat==95)=true->∀ j (h:j<s.data.toList.length),j<k+1->nmc j s.data.toList[j]=true)/\((sml (s[k]).toNat||dig (s[k]).toNat||(s[k]).toNat==95)=false->nameB s.data.toList=false)):=⟨hgo,hno⟩
      clear hex hcase hgo hno hin;cases h2:sml (s[k]'hlt).toNat
      ·cases h3:dig (s[k]'hlt).toNat
       ·by_cases h4:(s[k]'hlt).toNat=95
        ·have RL:=HG.out.1 (by simp[h4]);have H4:=Lib.hid h4;clear HG h4;go_wp2_with (first|(go_at_call 81;refine(sml_r _ _ hbk).mono ?_;rw[h2];rintro e w1 ⟨rfl,rfl⟩)|(go_at_call 82;refine(dig_r _ _ hbk).mono ?_;rw[h3];rintro e w1 ⟨rfl,rfl⟩;have h4:=H4.out;clear h2 h3 hbk));go_roundw
         case rel=>(try ((repeat apply Exists.intro);refine⟨?_,rfl⟩));exact⟨k+1,by go_num,by omega,RL,by trivial⟩
         case measure=>simp[intOf];omega
        ·have fin:nameB s.data.toList=false:=HG.out.2 (by simp[h2,h3,h4]);have h4I:¬((s[k]'hlt).toNat:Int)=95:=by omega
         have h4b:(((s[k]'hlt).toNat:Int)==95)=false:=by simpa using h4I
         clear HG h4;go_wp2_with (first|(go_at_call 81;refine(sml_r _ _ hbk).mono ?_;rw[h2];rintro e w1 ⟨rfl,rfl⟩)|(go_at_call 82;refine(dig_r _ _ hbk).mono ?_;rw[h3];rintro e w1 ⟨rfl,rfl⟩));go_ret;exact⟨by rw[fin];rfl,b0 _⟩
       ·have RL:=HG.out.1 (by simp[h3]);clear HG;go_wp2_with (first|(go_at_call 81;refine(sml_r _ _ hbk).mono ?_;rw[h2];rintro e w1 ⟨rfl,rfl⟩)|(go_at_call 82;refine(dig_r _ _ hbk).mono ?_;rw[h3];rintro e w1 ⟨rfl,rfl⟩));go_roundw
        case rel=>(try ((repeat apply Exists.intro);refine⟨?_,rfl⟩));exact⟨k+1,by go_num,by omega,RL,by trivial⟩
        case measure=>simp[intOf];omega
      ·have RL:=HG.out.1 (by simp[h2]);clear HG;go_wp2_with (go_at_call 81;refine(sml_r _ _ hbk).mono ?_;rw[h2];rintro e w1 ⟨rfl,rfl⟩);go_roundw
       case rel=>(try ((repeat apply Exists.intro);refine⟨?_,rfl⟩));exact⟨k+1,by go_num,by omega,RL,by trivial⟩
       case measure=>simp[intOf];omega
     ·obtain rfl:k=s.size:=by omega
      have fin:nameB s.data.toList=!wordB s.data.toList:=by
       have hl:=HL.out;cases hw:wordB s.data.toList
       ·exact(nameB_iff _).2 ⟨by omega,by omega,fun j h=>hin j h (by omega),hw⟩
       ·show _=false;rw[<-Bool.not_eq_true,nameB_iff];rintro ⟨_,_,_,h⟩;rw[hw] at h;cases h
      clear hin;go_wp2_with (go_at_call 83;refine(word_r s _ hs').mono ?_;rintro e w1 ⟨rfl,hbx⟩);go_ret;exact⟨by rw[fin];rfl,hbx⟩
theorem emp_beq {nm:List UInt8}{b:Bool}(h:(nm==[])=b):((⟨nm.toArray⟩:ByteArray)==⟨#[]⟩)=b:=by
 rw[<-h];cases nm with
 | nil=>rfl
 | cons x r =>
  show (List.toArray (x::r)==#[])=((x::r)==[]);rw[Bool.eq_iff_iff];simp
theorem form_q (e:Ex)(ao:Option Addr)(cap:Nat)(w:World)(hnm:e.nm.length<=maxLen) :
  Calls Tryd.prog 42 #[exN e ao cap] w fun x w'=>x=.returned (.bool (docF e.k e.n e.nm e.kids.len))/\Below w.heap.size w w':=by
 obtain⟨k0,n,nm,a,f⟩:=e;simp only at hnm;obtain⟨W,hW⟩:∃W,W=docF k0 n nm f.len:=⟨_,rfl⟩
 simp only;rw[<-hW];have HW:Hid (W=docF k0 n nm f.len):=hW;clear hW;have B0:Below w.heap.size w (w.alloc (.cells #[.int .i64 k0,.int .i64 n,stv nm,.slice ao f.len cap] 24)):=(Below.refl _ w).alloc (Nat.le_refl _) _;have E0:(w.alloc (.cells #[.int .i64 k0,.int .i64 n,stv nm,.slice ao f.len cap] 24)).heap[w.heap.size]?=some (.cells #[.int .i64 k0,.int .i64 n,stv nm,.slice ao f.len cap] 24):=heap_alloc_new w _;rw[exN_out];go_enter Tryd.func42,Tryd.ntmps42;go_upto_region 1 with fail;generalize w.alloc (.cells #[.int .i64 k0,.int .i64 n,stv nm,.slice ao f.len cap] 24)=w0 at *;obtain⟨bx,hbx⟩:∃bx,bx=w.heap.size:=⟨_,rfl⟩
 rw[<-hbx] at E0 B0 ⊢;have HB:Hid (bx=w.heap.size):=hbx;clear hbx;obtain⟨p0,p1,p2,p3,pf⟩:=box4 E0;have FIN:∀ {b:Bool},W=b->Value.bool b=.bool W:=fun h=>by rw[h]
 by_cases hkk:(1<=k0/\k0<=3)\/(5<=k0/\k0<=26)
 case neg =>
  have HZ:Hid (W=false):=by
   show W=_;rw[HW.out];cases hd:docF k0 n nm f.len with
   | false=>rfl
   | true=>have:=docF_kind hd;omega
  have b1:∀ c:Int,(1<=c/\c<=3)\/(5<=c/\c<=26)->(k0==c)=false:=fun c hc=>by simp;omega
  have c1:=b1 1 (by omega);have c2:=b1 2 (by omega);have c3:=b1 3 (by omega);have c5:=b1 5 (by omega);have c6:=b1 6 (by omega);have c7:=b1 7 (by omega);have c8:=b1 8 (by omega);have c9:=b1 9 (by omega);have c10:=b1 10 (by omega);have c11:=b1 11 (by omega);have c12:=b1 12 (by omega);have c13:=b1 13 (by omega);have c14:=b1 14 (by omega);have c15:=b1 15 (by omega);have c16:=b1 16 (by omega);have c17:=b1 17 (by omega);have c18:=b1 18 (by omega);have c19:=b1 19 (by omega);have c20:=b1 20 (by omega);have c21:=b1 21 (by omega);have c22:=b1 22 (by omega);have c23:=b1 23 (by omega);have c24:=b1 24 (by omega);have c25:=b1 25 (by omega);have c26:=b1 26 (by omega);clear HW E0 p1 p2 p3 hkk b1;go_wp2;go_ret;rw[HZ.out];exact⟨rfl,by rw[<-HB.out];exact B0⟩
 case pos =>
 have hc:k0=1\/k0=2\/k0=3\/k0=5\/k0=6\/k0=7\/k0=8\/k0=9\/k0=10\/k0=11\/k0=12\/k0=13\/k0=14\/k0=15\/k0=16\/k0=17\/k0=18\/k0=19\/k0=20\/k0=21\/k0=22\/k0=23\/k0=24\/k0=25\/k0=26:=by omega
 clear hkk E0;rcases hc with rfl|rfl|rfl|rfl|rfl|rfl|rfl|rfl|rfl|rfl|rfl|rfl|rfl|rfl|rfl|rfl|rfl|rfl|rfl|rfl|rfl|rfl|rfl|rfl|rfl
 ·cases g0:(nm==[]) with
  | false =>
   have g0b:=emp_beq g0;have HZ:Hid (W=false):=by show W=_;rw[HW.out];simp[docF,g0]
   clear HW;go_wp2;go_ret;rw[HZ.out];exact⟨rfl,by rw[<-HB.out];exact B0⟩
  | true =>
   have g0b:=emp_beq g0;cases g1:((f.len:Int)==0) with
   | false =>
    have g1b:(f.len==0)=false:=by have h:=g1;rw[Bool.eq_iff_iff] at h ⊢;simp at h ⊢;omega
    have HZ:Hid (W=false):=by show W=_;rw[HW.out];simp[docF,g0,g1b]
    clear HW;go_wp2;go_ret;rw[HZ.out];exact⟨rfl,by rw[<-HB.out];exact B0⟩
   | true =>
    have g1b:(f.len==0)=true:=by have h:=g1;rw[Bool.eq_iff_iff] at h ⊢;simp at h ⊢;omega
    have HZ:Hid (W=true):=by show W=_;rw[HW.out];simp[docF,g0,g1b]
    clear HW;go_wp2;go_ret;rw[HZ.out];exact⟨rfl,by rw[<-HB.out];exact B0⟩
 ·cases g0:(n==0) with
  | true =>
   cases g1:(nm==[]) with
   | false =>
    have g1b:=emp_beq g1;have HZ:Hid (W=false):=by show W=_;rw[HW.out];simp[docF,g0,g1]
    clear HW;go_wp2;go_ret;rw[HZ.out];exact⟨rfl,by rw[<-HB.out];exact B0⟩
   | true =>
    have g1b:=emp_beq g1;have HZ:Hid (W=((f.len:Int)==0)):=by show W=_;rw[HW.out];rw[Bool.eq_iff_iff];simp[docF,g0,g1]
    clear HW;go_wp2;go_ret;rw[HZ.out];exact⟨rfl,by rw[<-HB.out];exact B0⟩
  | false =>
   cases g2:(n==1) with
   | false =>
    have HZ:Hid (W=false):=by show W=_;rw[HW.out];simp[docF,g0,g2]
    clear HW;go_wp2;go_ret;rw[HZ.out];exact⟨rfl,by rw[<-HB.out];exact B0⟩
   | true =>
    cases g1:(nm==[]) with
    | false =>
     have g1b:=emp_beq g1;have HZ:Hid (W=false):=by show W=_;rw[HW.out];simp[docF,g0,g1]
     clear HW;go_wp2;go_ret;rw[HZ.out];exact⟨rfl,by rw[<-HB.out];exact B0⟩
    | true =>
     have g1b:=emp_beq g1;have HZ:Hid (W=((f.len:Int)==0)):=by show W=_;rw[HW.out];rw[Bool.eq_iff_iff];simp[docF,g0,g1,g2]
     clear HW;go_wp2;go_ret;rw[HZ.out];exact⟨rfl,by rw[<-HB.out];exact B0⟩
 ·cases g0:decide (0<=n) with
  | false =>
   have g0b:=of_decide_eq_false g0;have HZ:Hid (W=false):=by show W=_;rw[HW.out];simp[docF,g0b]
   clear HW;go_wp2;go_ret;rw[HZ.out];exact⟨rfl,by rw[<-HB.out];exact B0⟩
  | true =>
   have g0b:=of_decide_eq_true g0;cases g1:(nm==[]) with
   | false =>
    have g1b:=emp_beq g1;have HZ:Hid (W=false):=by show W=_;rw[HW.out];simp[docF,g0b,g1]
    clear HW;go_wp2;go_ret;rw[HZ.out];exact⟨rfl,by rw[<-HB.out];exact B0⟩
   | true =>
    have g1b:=emp_beq g1;cases g2:((f.len:Int)==0) with
    | false =>
     have g2b:(f.len==0)=false:=by have h:=g2;rw[Bool.eq_iff_iff] at h ⊢;simp at h ⊢;omega
     have HZ:Hid (W=false):=by show W=_;rw[HW.out];simp[docF,g0b,g1,g2b]
     clear HW;go_wp2;go_ret;rw[HZ.out];exact⟨rfl,by rw[<-HB.out];exact B0⟩
    | true =>
     have g2b:(f.len==0)=true:=by have h:=g2;rw[Bool.eq_iff_iff] at h ⊢;simp at h ⊢;omega
     have HZ:Hid (W=true):=by show W=_;rw[HW.out];simp[docF,g0b,g1,g2b]
     clear HW;go_wp2;go_ret;rw[HZ.out];exact⟨rfl,by rw[<-HB.out];exact B0⟩
 ·cases g0:decide (0<=n) with
  | false =>
   have g0b:=of_decide_eq_false g0;have HZ:Hid (W=false):=by show W=_;rw[HW.out];simp[docF,g0b]
   clear HW;go_wp2;go_ret;rw[HZ.out];exact⟨rfl,by rw[<-HB.out];exact B0⟩
  | true =>
   have g0b:=of_decide_eq_true g0;cases g1:(nm==[]) with
   | false =>
    have g1b:=emp_beq g1;have HZ:Hid (W=false):=by show W=_;rw[HW.out];simp[docF,g0b,g1]
    clear HW;go_wp2;go_ret;rw[HZ.out];exact⟨rfl,by rw[<-HB.out];exact B0⟩
   | true =>
    have g1b:=emp_beq g1;cases g2:((f.len:Int)==0) with
    | false =>
     have g2b:(f.len==0)=false:=by have h:=g2;rw[Bool.eq_iff_iff] at h ⊢;simp at h ⊢;omega
     have HZ:Hid (W=false):=by show W=_;rw[HW.out];simp[docF,g0b,g1,g2b]
     clear HW;go_wp2;go_ret;rw[HZ.out];exact⟨rfl,by rw[<-HB.out];exact B0⟩
    | true =>
     have g2b:(f.len==0)=true:=by have h:=g2;rw[Bool.eq_iff_iff] at h ⊢;simp at h ⊢;omega
     have HZ:Hid (W=true):=by show W=_;rw[HW.out];simp[docF,g0b,g1,g2b]
     clear HW;go_wp2;go_ret;rw[HZ.out];exact⟨rfl,by rw[<-HB.out];exact B0⟩
 ·cases g0:(n==0) with
  | false =>
   have HZ:Hid (W=false):=by show W=_;rw[HW.out];simp[docF,g0]
   clear HW;go_wp2;go_ret;rw[HZ.out];exact⟨rfl,by rw[<-HB.out];exact B0⟩
  | true =>
   cases g1:(nm==[]) with
   | false =>
    have g1b:=emp_beq g1;have HZ:Hid (W=false):=by show W=_;rw[HW.out];simp[docF,g0,g1]
    clear HW;go_wp2;go_ret;rw[HZ.out];exact⟨rfl,by rw[<-HB.out];exact B0⟩
   | true =>
    have g1b:=emp_beq g1;cases g2:((f.len:Int)==1) with
    | false =>
     have g2b:(f.len==1)=false:=by have h:=g2;rw[Bool.eq_iff_iff] at h ⊢;simp at h ⊢;omega
     have HZ:Hid (W=false):=by show W=_;rw[HW.out];simp[docF,g0,g1,g2b]
     clear HW;go_wp2;go_ret;rw[HZ.out];exact⟨rfl,by rw[<-HB.out];exact B0⟩
    | true =>
     have g2b:(f.len==1)=true:=by have h:=g2;rw[Bool.eq_iff_iff] at h ⊢;simp at h ⊢;omega
     have HZ:Hid (W=true):=by show W=_;rw[HW.out];simp[docF,g0,g1,g2b]
     clear HW;go_wp2;go_ret;rw[HZ.out];exact⟨rfl,by rw[<-HB.out];exact B0⟩
 ·cases g0:(n==0) with
  | false =>
   have HZ:Hid (W=false):=by show W=_;rw[HW.out];simp[docF,g0]
   clear HW;go_wp2;go_ret;rw[HZ.out];exact⟨rfl,by rw[<-HB.out];exact B0⟩
  | true =>
   cases g1:(nm==[]) with
   | false =>
    have g1b:=emp_beq g1;have HZ:Hid (W=false):=by show W=_;rw[HW.out];simp[docF,g0,g1]
    clear HW;go_wp2;go_ret;rw[HZ.out];exact⟨rfl,by rw[<-HB.out];exact B0⟩
   | true =>
    have g1b:=emp_beq g1;cases g2:((f.len:Int)==1) with
    | false =>
     have g2b:(f.len==1)=false:=by have h:=g2;rw[Bool.eq_iff_iff] at h ⊢;simp at h ⊢;omega
     have HZ:Hid (W=false):=by show W=_;rw[HW.out];simp[docF,g0,g1,g2b]
     clear HW;go_wp2;go_ret;rw[HZ.out];exact⟨rfl,by rw[<-HB.out];exact B0⟩
    | true =>
     have g2b:(f.len==1)=true:=by have h:=g2;rw[Bool.eq_iff_iff] at h ⊢;simp at h ⊢;omega
     have HZ:Hid (W=true):=by show W=_;rw[HW.out];simp[docF,g0,g1,g2b]
     clear HW;go_wp2;go_ret;rw[HZ.out];exact⟨rfl,by rw[<-HB.out];exact B0⟩
 ·cases g0:(n==0) with
  | false =>
   have HZ:Hid (W=false):=by show W=_;rw[HW.out];simp[docF,g0]
   clear HW;go_wp2;go_ret;rw[HZ.out];exact⟨rfl,by rw[<-HB.out];exact B0⟩
  | true =>
   cases g1:(nm==[]) with
   | false =>
    have g1b:=emp_beq g1;have HZ:Hid (W=false):=by show W=_;rw[HW.out];simp[docF,g0,g1]
    clear HW;go_wp2;go_ret;rw[HZ.out];exact⟨rfl,by rw[<-HB.out];exact B0⟩
   | true =>
    have g1b:=emp_beq g1;cases g2:((f.len:Int)==2) with
    | false =>
     have g2b:(f.len==2)=false:=by have h:=g2;rw[Bool.eq_iff_iff] at h ⊢;simp at h ⊢;omega
     have HZ:Hid (W=false):=by show W=_;rw[HW.out];simp[docF,g0,g1,g2b]
     clear HW;go_wp2;go_ret;rw[HZ.out];exact⟨rfl,by rw[<-HB.out];exact B0⟩
    | true =>
     have g2b:(f.len==2)=true:=by have h:=g2;rw[Bool.eq_iff_iff] at h ⊢;simp at h ⊢;omega
     have HZ:Hid (W=true):=by show W=_;rw[HW.out];simp[docF,g0,g1,g2b]
     clear HW;go_wp2;go_ret;rw[HZ.out];exact⟨rfl,by rw[<-HB.out];exact B0⟩
 ·cases g0:(n==0) with
  | false =>
   have HZ:Hid (W=false):=by show W=_;rw[HW.out];simp[docF,g0]
   clear HW;go_wp2;go_ret;rw[HZ.out];exact⟨rfl,by rw[<-HB.out];exact B0⟩
  | true =>
   cases g1:(nm==[]) with
   | false =>
    have g1b:=emp_beq g1;have HZ:Hid (W=false):=by show W=_;rw[HW.out];simp[docF,g0,g1]
    clear HW;go_wp2;go_ret;rw[HZ.out];exact⟨rfl,by rw[<-HB.out];exact B0⟩
   | true =>
    have g1b:=emp_beq g1;cases g2:((f.len:Int)==2) with
    | false =>
     have g2b:(f.len==2)=false:=by have h:=g2;rw[Bool.eq_iff_iff] at h ⊢;simp at h ⊢;omega
     have HZ:Hid (W=false):=by show W=_;rw[HW.out];simp[docF,g0,g1,g2b]
     clear HW;go_wp2;go_ret;rw[HZ.out];exact⟨rfl,by rw[<-HB.out];exact B0⟩
    | true =>
     have g2b:(f.len==2)=true:=by have h:=g2;rw[Bool.eq_iff_iff] at h ⊢;simp at h ⊢;omega
     have HZ:Hid (W=true):=by show W=_;rw[HW.out];simp[docF,g0,g1,g2b]
     clear HW;go_wp2;go_ret;rw[HZ.out];exact⟨rfl,by rw[<-HB.out];exact B0⟩
 ·cases g0:(n==0) with
  | false =>
   have HZ:Hid (W=false):=by show W=_;rw[HW.out];simp[docF,g0]
   clear HW;go_wp2;go_ret;rw[HZ.out];exact⟨rfl,by rw[<-HB.out];exact B0⟩
  | true =>
   cases g1:(nm==[]) with
   | false =>
    have g1b:=emp_beq g1;have HZ:Hid (W=false):=by show W=_;rw[HW.out];simp[docF,g0,g1]
    clear HW;go_wp2;go_ret;rw[HZ.out];exact⟨rfl,by rw[<-HB.out];exact B0⟩
   | true =>
    have g1b:=emp_beq g1;cases g2:((f.len:Int)==2) with
    | false =>
     have g2b:(f.len==2)=false:=by have h:=g2;rw[Bool.eq_iff_iff] at h ⊢;simp at h ⊢;omega
     have HZ:Hid (W=false):=by show W=_;rw[HW.out];simp[docF,g0,g1,g2b]
     clear HW;go_wp2;go_ret;rw[HZ.out];exact⟨rfl,by rw[<-HB.out];exact B0⟩
    | true =>
     have g2b:(f.len==2)=true:=by have h:=g2;rw[Bool.eq_iff_iff] at h ⊢;simp at h ⊢;omega
     have HZ:Hid (W=true):=by show W=_;rw[HW.out];simp[docF,g0,g1,g2b]
     clear HW;go_wp2;go_ret;rw[HZ.out];exact⟨rfl,by rw[<-HB.out];exact B0⟩
 ·cases g0:(n==0) with
  | false =>
   have HZ:Hid (W=false):=by show W=_;rw[HW.out];simp[docF,g0]
   clear HW;go_wp2;go_ret;rw[HZ.out];exact⟨rfl,by rw[<-HB.out];exact B0⟩
  | true =>
   cases g1:(nm==[]) with
   | false =>
    have g1b:=emp_beq g1;have HZ:Hid (W=false):=by show W=_;rw[HW.out];simp[docF,g0,g1]
    clear HW;go_wp2;go_ret;rw[HZ.out];exact⟨rfl,by rw[<-HB.out];exact B0⟩
   | true =>
    have g1b:=emp_beq g1;cases g2:((f.len:Int)==2) with
    | false =>
     have g2b:(f.len==2)=false:=by have h:=g2;rw[Bool.eq_iff_iff] at h ⊢;simp at h ⊢;omega
     have HZ:Hid (W=false):=by show W=_;rw[HW.out];simp[docF,g0,g1,g2b]
     clear HW;go_wp2;go_ret;rw[HZ.out];exact⟨rfl,by rw[<-HB.out];exact B0⟩
    | true =>
     have g2b:(f.len==2)=true:=by have h:=g2;rw[Bool.eq_iff_iff] at h ⊢;simp at h ⊢;omega
     have HZ:Hid (W=true):=by show W=_;rw[HW.out];simp[docF,g0,g1,g2b]
     clear HW;go_wp2;go_ret;rw[HZ.out];exact⟨rfl,by rw[<-HB.out];exact B0⟩
 ·cases g0:(n==0) with
  | false =>
   have HZ:Hid (W=false):=by show W=_;rw[HW.out];simp[docF,g0]
   clear HW;go_wp2;go_ret;rw[HZ.out];exact⟨rfl,by rw[<-HB.out];exact B0⟩
  | true =>
   cases g1:(nm==[]) with
   | false =>
    have g1b:=emp_beq g1;have HZ:Hid (W=false):=by show W=_;rw[HW.out];simp[docF,g0,g1]
    clear HW;go_wp2;go_ret;rw[HZ.out];exact⟨rfl,by rw[<-HB.out];exact B0⟩
   | true =>
    have g1b:=emp_beq g1;cases g2:((f.len:Int)==2) with
    | false =>
     have g2b:(f.len==2)=false:=by have h:=g2;rw[Bool.eq_iff_iff] at h ⊢;simp at h ⊢;omega
     have HZ:Hid (W=false):=by show W=_;rw[HW.out];simp[docF,g0,g1,g2b]
     clear HW;go_wp2;go_ret;rw[HZ.out];exact⟨rfl,by rw[<-HB.out];exact B0⟩
    | true =>
     have g2b:(f.len==2)=true:=by have h:=g2;rw[Bool.eq_iff_iff] at h ⊢;simp at h ⊢;omega
     have HZ:Hid (W=true):=by show W=_;rw[HW.out];simp[docF,g0,g1,g2b]
     clear HW;go_wp2;go_ret;rw[HZ.out];exact⟨rfl,by rw[<-HB.out];exact B0⟩
 ·cases g0:(n==0) with
  | false =>
   have HZ:Hid (W=false):=by show W=_;rw[HW.out];simp[docF,g0]
   clear HW;go_wp2;go_ret;rw[HZ.out];exact⟨rfl,by rw[<-HB.out];exact B0⟩
  | true =>
   cases g1:(nm==[]) with
   | false =>
    have g1b:=emp_beq g1;have HZ:Hid (W=false):=by show W=_;rw[HW.out];simp[docF,g0,g1]
    clear HW;go_wp2;go_ret;rw[HZ.out];exact⟨rfl,by rw[<-HB.out];exact B0⟩
   | true =>
    have g1b:=emp_beq g1;cases g2:((f.len:Int)==2) with
    | false =>
     have g2b:(f.len==2)=false:=by have h:=g2;rw[Bool.eq_iff_iff] at h ⊢;simp at h ⊢;omega
     have HZ:Hid (W=false):=by show W=_;rw[HW.out];simp[docF,g0,g1,g2b]
     clear HW;go_wp2;go_ret;rw[HZ.out];exact⟨rfl,by rw[<-HB.out];exact B0⟩
    | true =>
     have g2b:(f.len==2)=true:=by have h:=g2;rw[Bool.eq_iff_iff] at h ⊢;simp at h ⊢;omega
     have HZ:Hid (W=true):=by show W=_;rw[HW.out];simp[docF,g0,g1,g2b]
     clear HW;go_wp2;go_ret;rw[HZ.out];exact⟨rfl,by rw[<-HB.out];exact B0⟩
 ·cases g0:(n==0) with
  | false =>
   have HZ:Hid (W=false):=by show W=_;rw[HW.out];simp[docF,g0]
   clear HW;go_wp2;go_ret;rw[HZ.out];exact⟨rfl,by rw[<-HB.out];exact B0⟩
  | true =>
   cases g1:(nm==[]) with
   | false =>
    have g1b:=emp_beq g1;have HZ:Hid (W=false):=by show W=_;rw[HW.out];simp[docF,g0,g1]
    clear HW;go_wp2;go_ret;rw[HZ.out];exact⟨rfl,by rw[<-HB.out];exact B0⟩
   | true =>
    have g1b:=emp_beq g1;cases g2:((f.len:Int)==2) with
    | false =>
     have g2b:(f.len==2)=false:=by have h:=g2;rw[Bool.eq_iff_iff] at h ⊢;simp at h ⊢;omega
     have HZ:Hid (W=false):=by show W=_;rw[HW.out];simp[docF,g0,g1,g2b]
     clear HW;go_wp2;go_ret;rw[HZ.out];exact⟨rfl,by rw[<-HB.out];exact B0⟩
    | true =>
     have g2b:(f.len==2)=true:=by have h:=g2;rw[Bool.eq_iff_iff] at h ⊢;simp at h ⊢;omega
     have HZ:Hid (W=true):=by show W=_;rw[HW.out];simp[docF,g0,g1,g2b]
     clear HW;go_wp2;go_ret;rw[HZ.out];exact⟨rfl,by rw[<-HB.out];exact B0⟩
 ·cases g0:(n==0) with
  | false =>
   have HZ:Hid (W=false):=by show W=_;rw[HW.out];simp[docF,g0]
   clear HW;go_wp2;go_ret;rw[HZ.out];exact⟨rfl,by rw[<-HB.out];exact B0⟩
  | true =>
   cases g1:(nm==[]) with
   | false =>
    have g1b:=emp_beq g1;have HZ:Hid (W=false):=by show W=_;rw[HW.out];simp[docF,g0,g1]
    clear HW;go_wp2;go_ret;rw[HZ.out];exact⟨rfl,by rw[<-HB.out];exact B0⟩
   | true =>
    have g1b:=emp_beq g1;cases g2:((f.len:Int)==2) with
    | false =>
     have g2b:(f.len==2)=false:=by have h:=g2;rw[Bool.eq_iff_iff] at h ⊢;simp at h ⊢;omega
     have HZ:Hid (W=false):=by show W=_;rw[HW.out];simp[docF,g0,g1,g2b]
     clear HW;go_wp2;go_ret;rw[HZ.out];exact⟨rfl,by rw[<-HB.out];exact B0⟩
    | true =>
     have g2b:(f.len==2)=true:=by have h:=g2;rw[Bool.eq_iff_iff] at h ⊢;simp at h ⊢;omega
     have HZ:Hid (W=true):=by show W=_;rw[HW.out];simp[docF,g0,g1,g2b]
     clear HW;go_wp2;go_ret;rw[HZ.out];exact⟨rfl,by rw[<-HB.out];exact B0⟩
 ·cases g0:(n==0) with
  | false =>
   have HZ:Hid (W=false):=by show W=_;rw[HW.out];simp[docF,g0]
   clear HW;go_wp2;go_ret;rw[HZ.out];exact⟨rfl,by rw[<-HB.out];exact B0⟩
  | true =>
   cases g1:(nm==[]) with
   | false =>
    have g1b:=emp_beq g1;have HZ:Hid (W=false):=by show W=_;rw[HW.out];simp[docF,g0,g1]
    clear HW;go_wp2;go_ret;rw[HZ.out];exact⟨rfl,by rw[<-HB.out];exact B0⟩
   | true =>
    have g1b:=emp_beq g1;cases g2:((f.len:Int)==2) with
    | false =>
     have g2b:(f.len==2)=false:=by have h:=g2;rw[Bool.eq_iff_iff] at h ⊢;simp at h ⊢;omega
     have HZ:Hid (W=false):=by show W=_;rw[HW.out];simp[docF,g0,g1,g2b]
     clear HW;go_wp2;go_ret;rw[HZ.out];exact⟨rfl,by rw[<-HB.out];exact B0⟩
    | true =>
     have g2b:(f.len==2)=true:=by have h:=g2;rw[Bool.eq_iff_iff] at h ⊢;simp at h ⊢;omega
     have HZ:Hid (W=true):=by show W=_;rw[HW.out];simp[docF,g0,g1,g2b]
     clear HW;go_wp2;go_ret;rw[HZ.out];exact⟨rfl,by rw[<-HB.out];exact B0⟩
 ·cases g0:(n==0) with
  | false =>
   have HZ:Hid (W=false):=by show W=_;rw[HW.out];simp[docF,g0]
   clear HW;go_wp2;go_ret;rw[HZ.out];exact⟨rfl,by rw[<-HB.out];exact B0⟩
  | true =>
   cases g1:(nm==[]) with
   | false =>
    have g1b:=emp_beq g1;have HZ:Hid (W=false):=by show W=_;rw[HW.out];simp[docF,g0,g1]
    clear HW;go_wp2;go_ret;rw[HZ.out];exact⟨rfl,by rw[<-HB.out];exact B0⟩
   | true =>
    have g1b:=emp_beq g1;cases g2:((f.len:Int)==2) with
    | false =>
     have g2b:(f.len==2)=false:=by have h:=g2;rw[Bool.eq_iff_iff] at h ⊢;simp at h ⊢;omega
     have HZ:Hid (W=false):=by show W=_;rw[HW.out];simp[docF,g0,g1,g2b]
     clear HW;go_wp2;go_ret;rw[HZ.out];exact⟨rfl,by rw[<-HB.out];exact B0⟩
    | true =>
     have g2b:(f.len==2)=true:=by have h:=g2;rw[Bool.eq_iff_iff] at h ⊢;simp at h ⊢;omega
     have HZ:Hid (W=true):=by show W=_;rw[HW.out];simp[docF,g0,g1,g2b]
     clear HW;go_wp2;go_ret;rw[HZ.out];exact⟨rfl,by rw[<-HB.out];exact B0⟩
 ·cases g0:(n==0) with
  | false =>
   have HZ:Hid (W=false):=by show W=_;rw[HW.out];simp[docF,g0]
   clear HW;go_wp2;go_ret;rw[HZ.out];exact⟨rfl,by rw[<-HB.out];exact B0⟩
  | true =>
   cases g1:(nm==[]) with
   | false =>
    have g1b:=emp_beq g1;have HZ:Hid (W=false):=by show W=_;rw[HW.out];simp[docF,g0,g1]
    clear HW;go_wp2;go_ret;rw[HZ.out];exact⟨rfl,by rw[<-HB.out];exact B0⟩
   | true =>
    have g1b:=emp_beq g1;cases g2:((f.len:Int)==2) with
    | false =>
     have g2b:(f.len==2)=false:=by have h:=g2;rw[Bool.eq_iff_iff] at h ⊢;simp at h ⊢;omega
     have HZ:Hid (W=false):=by show W=_;rw[HW.out];simp[docF,g0,g1,g2b]
     clear HW;go_wp2;go_ret;rw[HZ.out];exact⟨rfl,by rw[<-HB.out];exact B0⟩
    | true =>
     have g2b:(f.len==2)=true:=by have h:=g2;rw[Bool.eq_iff_iff] at h ⊢;simp at h ⊢;omega
     have HZ:Hid (W=true):=by show W=_;rw[HW.out];simp[docF,g0,g1,g2b]
     clear HW;go_wp2;go_ret;rw[HZ.out];exact⟨rfl,by rw[<-HB.out];exact B0⟩
 ·cases g0:(n==0) with
  | false =>
   have HZ:Hid (W=false):=by show W=_;rw[HW.out];simp[docF,g0]
   clear HW;go_wp2;go_ret;rw[HZ.out];exact⟨rfl,by rw[<-HB.out];exact B0⟩
  | true =>
   cases g1:(nm==[]) with
   | false =>
    have g1b:=emp_beq g1;have HZ:Hid (W=false):=by show W=_;rw[HW.out];simp[docF,g0,g1]
    clear HW;go_wp2;go_ret;rw[HZ.out];exact⟨rfl,by rw[<-HB.out];exact B0⟩
   | true =>
    have g1b:=emp_beq g1;cases g2:((f.len:Int)==3) with
    | false =>
     have g2b:(f.len==3)=false:=by have h:=g2;rw[Bool.eq_iff_iff] at h ⊢;simp at h ⊢;omega
     have HZ:Hid (W=false):=by show W=_;rw[HW.out];simp[docF,g0,g1,g2b]
     clear HW;go_wp2;go_ret;rw[HZ.out];exact⟨rfl,by rw[<-HB.out];exact B0⟩
    | true =>
     have g2b:(f.len==3)=true:=by have h:=g2;rw[Bool.eq_iff_iff] at h ⊢;simp at h ⊢;omega
     have HZ:Hid (W=true):=by show W=_;rw[HW.out];simp[docF,g0,g1,g2b]
     clear HW;go_wp2;go_ret;rw[HZ.out];exact⟨rfl,by rw[<-HB.out];exact B0⟩
 ·cases g0:(nm==[]) with
  | false =>
   have g0b:=emp_beq g0;have HZ:Hid (W=false):=by show W=_;rw[HW.out];simp[docF,g0]
   clear HW;go_wp2;go_ret;rw[HZ.out];exact⟨rfl,by rw[<-HB.out];exact B0⟩
  | true =>
   have g0b:=emp_beq g0;have HC:Hid (W=((decide (1<=n)&&decide (n<=3)&&f.len==2)||(decide (4<=n)&&decide (n<=10)&&f.len==1))):=by show W=_;rw[HW.out];simp[docF,g0]
   clear HW;by_cases h1:1<=n/\n<=3
   ·obtain⟨h1,h3⟩:=h1;cases g1:((f.len:Int)==2) with
    | true =>
     have HZ:Hid (W=true):=by show W=_;rw[HC.out];simp at g1 ⊢;omega
     clear HC;go_wp2;go_ret;rw[HZ.out];exact⟨rfl,by rw[<-HB.out];exact B0⟩
    | false =>
     have h4:¬(4:Int)<=n:=by omega
     have HZ:Hid (W=false):=by show W=_;rw[HC.out];simp at g1 ⊢;omega
     clear HC;go_wp2;go_ret;rw[HZ.out];exact⟨rfl,by rw[<-HB.out];exact B0⟩
   ·by_cases h2:4<=n/\n<=10
    ·obtain⟨h4,h5⟩:=h2;have h6:¬n<=3:=by omega
     have h7:(1:Int)<=n:=by omega
     have HZ:Hid (W=((f.len:Int)==1)):=by show W=_;rw[HC.out,Bool.eq_iff_iff];simp;omega
     clear HC h1;go_wp2;go_ret;rw[HZ.out];exact⟨rfl,by rw[<-HB.out];exact B0⟩
    ·have HZ:Hid (W=false):=by show W=_;rw[HC.out];simp;omega
     clear HC;by_cases h3:1<=n
     ·have h4:¬n<=3:=by omega
      have h5:(4:Int)<=n:=by omega
      have h6:¬n<=10:=by omega
      clear h1 h2;go_wp2;go_ret;rw[HZ.out];exact⟨rfl,by rw[<-HB.out];exact B0⟩
     ·have h5:¬(4:Int)<=n:=by omega
      clear h1 h2;go_wp2;go_ret;rw[HZ.out];exact⟨rfl,by rw[<-HB.out];exact B0⟩
 ·cases g0:decide (1<=n) with
  | false =>
   have g0b:=of_decide_eq_false g0;have HZ:Hid (W=false):=by show W=_;rw[HW.out];simp[docF,g0b]
   clear HW;go_wp2;go_ret;rw[HZ.out];exact⟨rfl,by rw[<-HB.out];exact B0⟩
  | true =>
   have g0b:=of_decide_eq_true g0;cases g1:decide (n<=6) with
   | false =>
    have g1b:=of_decide_eq_false g1;have HZ:Hid (W=false):=by show W=_;rw[HW.out];simp[docF,g0b,g1b]
    clear HW;go_wp2;go_ret;rw[HZ.out];exact⟨rfl,by rw[<-HB.out];exact B0⟩
   | true =>
    have g1b:=of_decide_eq_true g1;cases g2:(nm==[]) with
    | false =>
     have g2b:=emp_beq g2;have HZ:Hid (W=false):=by show W=_;rw[HW.out];simp[docF,g0b,g1b,g2]
     clear HW;go_wp2;go_ret;rw[HZ.out];exact⟨rfl,by rw[<-HB.out];exact B0⟩
    | true =>
     have g2b:=emp_beq g2;cases g3:((f.len:Int)==2) with
     | false =>
      have g3b:(f.len==2)=false:=by have h:=g3;rw[Bool.eq_iff_iff] at h ⊢;simp at h ⊢;omega
      have HZ:Hid (W=false):=by show W=_;rw[HW.out];simp[docF,g0b,g1b,g2,g3b]
      clear HW;go_wp2;go_ret;rw[HZ.out];exact⟨rfl,by rw[<-HB.out];exact B0⟩
     | true =>
      have g3b:(f.len==2)=true:=by have h:=g3;rw[Bool.eq_iff_iff] at h ⊢;simp at h ⊢;omega
      have HZ:Hid (W=true):=by show W=_;rw[HW.out];simp[docF,g0b,g1b,g2,g3b]
      clear HW;go_wp2;go_ret;rw[HZ.out];exact⟨rfl,by rw[<-HB.out];exact B0⟩
 ·cases g0:(n==0) with
  | false =>
   have HZ:Hid (W=false):=by show W=_;rw[HW.out];simp[docF,g0]
   clear HW;go_wp2;go_ret;rw[HZ.out];exact⟨rfl,by rw[<-HB.out];exact B0⟩
  | true =>
   cases g1:(nm==[]) with
   | false =>
    have g1b:=emp_beq g1;have HZ:Hid (W=false):=by show W=_;rw[HW.out];simp[docF,g0,g1]
    clear HW;go_wp2;go_ret;rw[HZ.out];exact⟨rfl,by rw[<-HB.out];exact B0⟩
   | true =>
    have g1b:=emp_beq g1;cases g2:((f.len:Int)==0) with
    | false =>
     have g2b:(f.len==0)=false:=by have h:=g2;rw[Bool.eq_iff_iff] at h ⊢;simp at h ⊢;omega
     have HZ:Hid (W=false):=by show W=_;rw[HW.out];simp[docF,g0,g1,g2b]
     clear HW;go_wp2;go_ret;rw[HZ.out];exact⟨rfl,by rw[<-HB.out];exact B0⟩
    | true =>
     have g2b:(f.len==0)=true:=by have h:=g2;rw[Bool.eq_iff_iff] at h ⊢;simp at h ⊢;omega
     have HZ:Hid (W=true):=by show W=_;rw[HW.out];simp[docF,g0,g1,g2b]
     clear HW;go_wp2;go_ret;rw[HZ.out];exact⟨rfl,by rw[<-HB.out];exact B0⟩
 ·cases g0:(n==0) with
  | false =>
   have HZ:Hid (W=false):=by show W=_;rw[HW.out];simp[docF,g0]
   clear HW;go_wp2;go_ret;rw[HZ.out];exact⟨rfl,by rw[<-HB.out];exact B0⟩
  | true =>
   cases g1:((f.len:Int)==0) with
   | false =>
    have g1b:(f.len==0)=false:=by have h:=g1;rw[Bool.eq_iff_iff] at h ⊢;simp at h ⊢;omega
    have HZ:Hid (W=false):=by show W=_;rw[HW.out];simp[docF,g0,g1b]
    clear HW;go_wp2;go_ret;rw[HZ.out];exact⟨rfl,by rw[<-HB.out];exact B0⟩
   | true =>
    have g1b:(f.len==0)=true:=by have h:=g1;rw[Bool.eq_iff_iff] at h ⊢;simp at h ⊢;omega
    have HZ:Hid (W=nameB nm):=by show W=_;rw[HW.out];simp[docF,g0,g1b]
    have c1:=fun w=>name_r ⟨nm.toArray⟩ w (by show nm.toArray.size<=maxLen;simpa using hnm);clear HW;go_wp2_with (go_at_call 65;refine(c1 _).mono ?_;rintro x w1 ⟨rfl,b1⟩);have B1:=B0.trans (b1.mono (by have:=HB.out;have:=B0.size;omega));clear c1 p0 p1 p2 p3 pf;go_wp2;go_ret;rw[HZ.out];exact⟨rfl,by rw[<-HB.out];exact B1⟩
 ·cases g0:(n==0) with
  | false =>
   have HZ:Hid (W=false):=by show W=_;rw[HW.out];simp[docF,g0]
   clear HW;go_wp2;go_ret;rw[HZ.out];exact⟨rfl,by rw[<-HB.out];exact B0⟩
  | true =>
   cases g1:(nm==[]) with
   | false =>
    have g1b:=emp_beq g1;have HZ:Hid (W=false):=by show W=_;rw[HW.out];simp[docF,g0,g1]
    clear HW;go_wp2;go_ret;rw[HZ.out];exact⟨rfl,by rw[<-HB.out];exact B0⟩
   | true =>
    have g1b:=emp_beq g1;cases g2:((f.len:Int)==1) with
    | false =>
     have g2b:(f.len==1)=false:=by have h:=g2;rw[Bool.eq_iff_iff] at h ⊢;simp at h ⊢;omega
     have HZ:Hid (W=false):=by show W=_;rw[HW.out];simp[docF,g0,g1,g2b]
     clear HW;go_wp2;go_ret;rw[HZ.out];exact⟨rfl,by rw[<-HB.out];exact B0⟩
    | true =>
     have g2b:(f.len==1)=true:=by have h:=g2;rw[Bool.eq_iff_iff] at h ⊢;simp at h ⊢;omega
     have HZ:Hid (W=true):=by show W=_;rw[HW.out];simp[docF,g0,g1,g2b]
     clear HW;go_wp2;go_ret;rw[HZ.out];exact⟨rfl,by rw[<-HB.out];exact B0⟩
 ·cases g0:(n==0) with
  | false =>
   have HZ:Hid (W=false):=by show W=_;rw[HW.out];simp[docF,g0]
   clear HW;go_wp2;go_ret;rw[HZ.out];exact⟨rfl,by rw[<-HB.out];exact B0⟩
  | true =>
   cases g1:(nm==[]) with
   | false =>
    have g1b:=emp_beq g1;have HZ:Hid (W=false):=by show W=_;rw[HW.out];simp[docF,g0,g1]
    clear HW;go_wp2;go_ret;rw[HZ.out];exact⟨rfl,by rw[<-HB.out];exact B0⟩
   | true =>
    have g1b:=emp_beq g1;have HZ:Hid (W=true):=by show W=_;rw[HW.out];simp[docF,g0,g1]
    clear HW;go_wp2;go_ret;rw[HZ.out];exact⟨rfl,by rw[<-HB.out];exact B0⟩
 ·cases g0:(nm==[]) with
  | false =>
   have g0b:=emp_beq g0;have HZ:Hid (W=false):=by show W=_;rw[HW.out];simp[docF,g0]
   clear HW;go_wp2;go_ret;rw[HZ.out];exact⟨rfl,by rw[<-HB.out];exact B0⟩
  | true =>
   have g0b:=emp_beq g0;cases g1:((f.len:Int)==1) with
   | false =>
    have g1b:(f.len==1)=false:=by have h:=g1;rw[Bool.eq_iff_iff] at h ⊢;simp at h ⊢;omega
    have HZ:Hid (W=false):=by show W=_;rw[HW.out];simp[docF,g0,g1b]
    clear HW;go_wp2;go_ret;rw[HZ.out];exact⟨rfl,by rw[<-HB.out];exact B0⟩
   | true =>
    have g1b:(f.len==1)=true:=by have h:=g1;rw[Bool.eq_iff_iff] at h ⊢;simp at h ⊢;omega
    have HZ:Hid (W=true):=by show W=_;rw[HW.out];simp[docF,g0,g1b]
    clear HW;go_wp2;go_ret;rw[HZ.out];exact⟨rfl,by rw[<-HB.out];exact B0⟩
abbrev InA (w:World)(v:Value)(xs:List Int):Prop:=Inw w (fun _=>True) v xs
def nlB (c:Int):Bool:=decide (c<0)||decide (4<c)
theorem infoInt3:(Tryd.prog.info? 3).map (fun i=>(i.zero,i.size,i.bytes))=some (some (.int .i64 0),1,8):=by kernel_rfl
end Go.Proofs.YtejnhibajmncaaaDoor

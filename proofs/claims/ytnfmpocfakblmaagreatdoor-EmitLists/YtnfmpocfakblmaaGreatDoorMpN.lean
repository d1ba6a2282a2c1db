import Derived.Test.YtnfmpocfakblmaaGreatDoorWrqL
import Derived.Maps.OwnSet
import Derived.DeepKeys4
set_option maxRecDepth 100000
set_option maxHeartbeats 8000000
namespace Go.Proofs.YtnfmpocfakblmaaGreatDoor
open Go.ChangeShapes Go.WideShapes Go.ChangeAt Go.RowKit
set_option linter.unusedVariables false
set_option linter.unusedSimpArgs false
abbrev tupT (t:Int × Nat × Int):Value:=.tuple #[.int .i64 t.1,.int .i64 (t.2.1:Nat),.int .i64 t.2.2]
theorem writA_ok {e:Ex}(hf:e.fit){t:List UInt8}(h:writA e=some t):e.okA/\e.kids.size<=2000/\isSetK e.k=false:=by
 unfold writA at h;by_cases hs:isSetK e.k=true
 ·rw[if_pos hs] at h;cases h
 ·rw[if_neg hs] at h;cases hh:hE e 0 with
  | none=>rw[hh] at h;cases h
  | some c =>
   obtain⟨h1,h2,h3⟩:=hE_ok hf hh;exact⟨h1,by omega,by simpa using hs⟩
theorem writA_stk {e:Ex}{t:List UInt8}(h:writA e=some t):e.kids.stk (e.k==21):=by
 unfold writA at h;split at h
 ·cases h
 ·cases hh:hE e 0 with
  | none=>rw[hh] at h;cases h
  | some c=>exact hE_stk hh
theorem rcheck_q (e:Ex)(ao:Option Addr)(cap:Nat)(w:World)(hf:e.fit)(S:SlT w e.kids ao) :
  Calls Tryz.prog 47 #[exV e ao cap] w fun x w'=>x=.returned (tupT (typA e))/\Below w.heap.size w w':=by
 obtain⟨T,hT⟩:∃T,T=typA e:=⟨_,rfl⟩
 rw[<-hT];have HT:Hid (T=typA e):=hT;clear hT;have B0:Below w.heap.size w (w.alloc (.cells #[.int .i64 e.k,.int .i64 e.n,stv e.nm,.slice ao e.kids.len cap,.int .i64 e.a] 25)):=(Below.refl _ w).alloc (Nat.le_refl _) _;have E0:(w.alloc (.cells #[.int .i64 e.k,.int .i64 e.n,stv e.nm,.slice ao e.kids.len cap,.int .i64 e.a] 25)).heap[w.heap.size]?=some (.cells #[.int .i64 e.k,.int .i64 e.n,stv e.nm,.slice ao e.kids.len cap,.int .i64 e.a] 25):=heap_alloc_new w _;have S0:=SlT.below S B0;rw[exV_out];go_enter Tryz.func47,Tryz.ntmps47;go_upto_region 1 with fail;generalize w.alloc (.cells #[.int .i64 e.k,.int .i64 e.n,stv e.nm,.slice ao e.kids.len cap,.int .i64 e.a] 25)=w0 at *;obtain⟨bx,hbx⟩:∃bx,bx=w.heap.size:=⟨_,rfl⟩
 rw[<-hbx] at E0 B0 ⊢;have HB:Hid (bx=w.heap.size):=hbx;clear hbx;obtain⟨p0,p1,p2,p3,p4,pf⟩:=box5 E0;have hbx0:=lt_of_block E0;have c1:=right_q e ao cap w0 hf S0;rw[exV_out] at c1;go_wp2_with fail;refine c1.mono ?_;rintro x w1 ⟨rfl,b1⟩;have E1:=(b1.block _ hbx0).trans E0;have B1:Below bx w w1:=B0.trans (b1.mono (Nat.le_of_lt hbx0));have S1:=SlT.below S0 b1;clear c1 b1 p0 p1 p2 p3 p4 pf E0 B0 S0 S;cases hw:writA e with
 | none =>
  have FIN:Hid (T=(0,122,0)):=by show T=_;rw[HT.out];unfold typA;rw[hw]
  simp only[Option.isSome_none];clear HT hw;go_wp2;refine bodyPost_ret (v:=tupT (0,122,0)) (by simp[results,Tryz.results47,go_sem]) rfl ⟨by rw[FIN.out],?_⟩;rw[<-HB.out];exact B1
 | some t =>
  obtain⟨hok,hsz,hset⟩:=writA_ok hf hw;have hsk:=writA_stk hw;simp only[Option.isSome_some];have HT2:Hid (T=(match chkE e [] with | .inl (er,a)=>(0,er,a) | .inr k=>(k,0,0))):=by
   show T=_;rw[HT.out];unfold typA;rw[hw];simp only;cases chkE e [] with
   | inl z=>obtain⟨er,a⟩:=z;rfl
   | inr k=>rfl
  clear HT hw;have b2:Below w1.heap.size w1 (w1.alloc (.cells #[.slice none 0 0,.int .i64 0,.int .i64 0] 145)):=(Below.refl _ w1).alloc (Nat.le_refl _) _;have W2:Wk (w1.alloc (.cells #[.slice none 0 0,.int .i64 0,.int .i64 0] 145)) w1.heap.size (.slice none 0 0) none:=⟨heap_alloc_new w1 _,StOk.none⟩
  have E2:=(b2.block _ (lt_of_block E1)).trans E1;have B2:=B1.trans (b2.mono (Nat.le_of_lt (lt_of_block E1)));have S2:Sl (w1.alloc (.cells #[.slice none 0 0,.int .i64 0,.int .i64 0] 145)) (Nf w1.heap.size) e.kids ao:=S1.mono (fun i _ hl=>b2.block i hl) b2.size (fun i _ hl=>by show i≠_;omega);have hwb:bx<w1.heap.size:=lt_of_block E1;go_upto_region 5 with fail;generalize w1.alloc (.cells #[.slice none 0 0,.int .i64 0,.int .i64 0] 145)=w2 at *;generalize w1.heap.size=wb at *;obtain⟨p0,p1,p2,p3,p4,pf⟩:=box5 E2;have c4:=kind_ok (e.kids.size+1) e ao cap wb (.slice none 0 0) [] w2 ⟨by omega,hok,hset,hsk,hf.len,hf.sh,by simp;omega⟩ W2 ⟨Nms.nil w2,fun g off n c h=>by cases h⟩ S2;rw[exV_out] at c4;have hwb2:=lt_of_block W2.blk;clear b2 E1 B1 S1 S2 W2;go_wp2_with fail;refine c4.mono ?_;rintro x w4 ⟨⟨k',rfl,hk'⟩,W4,K4⟩;have HZ:Hid (Below bx w w4):=B2.trans (K4.below (Nat.le_of_lt hwb) hwb2);clear c4 K4 p0 p1 p2 p3 p4 pf;obtain⟨q0,q1,q2,qf⟩:=box3 W4.blk;cases hc:chkE e [] with
  | inl z =>
   obtain⟨er,a⟩:=z;have her:=chkE_er hc;rw[hc] at q1 q2;simp only[stS,erO,plO] at q1 q2;have hne:((er:Int) != 0)=true:=by simp;omega
   have FIN:Hid (T=(0,er,a)):=by show T=_;rw[HT2.out,hc]
   clear HT2 hc her hk' W4;go_wp2_with fail
   go_quiet (fail)
   go_wp2;refine bodyPost_ret (v:=tupT (0,er,a)) (by simp[results,Tryz.results47,go_sem]) rfl ⟨by rw[FIN.out],?_⟩;rw[<-HB.out];exact HZ.out.trans ⟨rfl,rfl,rfl,Nat.le_refl _,fun _ _=>rfl⟩
  | inr k =>
   obtain rfl:=hk' k hc;rw[hc] at q1 q2;simp only[stS,erO,plO] at q1 q2;have FIN:Hid (T=(k',0,0)):=by show T=_;rw[HT2.out,hc]
   clear HT2 hc hk' W4;go_wp2;refine bodyPost_ret (v:=tupT (k',0,0)) (by simp[results,Tryz.results47,go_sem]) rfl ⟨by rw[FIN.out],?_⟩;rw[<-HB.out];exact HZ.out
def sameF:Fs->Fs->Bool
 | ⟨none⟩,⟨none⟩=>true
 | ⟨some ⟨k,n,nm,_,ks,r⟩⟩,⟨some ⟨k',n',nm',_,ks',r'⟩⟩=>k==k'&&n==n'&&nm==nm'&&sameF ks ks'&&sameF r r'
 | _,_=>false
def sameE (a b:Ex):Bool:=a.k==b.k&&a.n==b.n&&a.nm==b.nm&&sameF a.kids b.kids
theorem sameF_len:∀ (x y:Fs),x.len≠y.len->sameF x y=false
 | ⟨none⟩,⟨none⟩,h=>absurd rfl h
 | ⟨none⟩,⟨some ⟨k',n',nm',a',ks',r'⟩⟩,h=>rfl
 | ⟨some ⟨k,n,nm,a,ks,r⟩⟩,⟨none⟩,h=>rfl
 | ⟨some ⟨k,n,nm,a,ks,r⟩⟩,⟨some ⟨k',n',nm',a',ks',r'⟩⟩,h=>by
  have h2:r.len≠r'.len:=fun e=>h (by simp only[Fs.len,e]);simp only[sameF,sameF_len r r' h2,Bool.and_false]
def nmP (k:Int)(nm:List UInt8):Bool:=if k==23 then nameB nm else nm==[]
def nuP (nc:Nat)(k n:Int)(ar:Nat):Bool :=
 if k==1 then true else if k==2 then n==0||n==1 else if k==3 then decide (0<=n) else if k==5 then decide (0<=n)&&decide (n<(ar:Int))
 else if k==20 then decide (1<=n)&&decide (n<=10) else if k==21 then decide (1<=n)&&decide (n<=6) else if k==26 then decide (0<=n)&&decide (n<(nc:Int)) else n==0
def wkP (ks:List Int)(i:Nat):Int :=
 match ks[i]? with
 | some k=>if k=4 then 0 else k
 | none=>0
def formP (k n:Int)(ks:List Int):List Int × Int :=
 if k=1 then ([],1) else if k=2 then ([],2) else if k=3\/k=5 then ([],3) else if k=6 then ([1],1) else if k=7 then ([2],2)
 else if 8<=k/\k<=12 then ([1,1],1) else if k=15\/k=16 then ([1,1],2) else if k=17\/k=18 then ([2,2],2)
 else if k=13\/k=14 then ([wkP ks 0,wkP ks 0],2) else if k=19 then ([2,wkP ks 1,wkP ks 1],wkP ks 1)
 else if k=20 then (if n=1\/n=2 then ([3,3],2) else if n=3 then ([3,3],1) else if n=10 then ([3],3) else ([3],1))
 else if k=21 then (if n=1\/n=2 then ([4,2],2) else if n=3 then ([4,2],1) else ([4,1],1))
 else if k=26 then ([wkP ks 0],wkP ks 0) else if k=22\/k=23 then ([],4) else if k=24 then ([3],4) else if k=25 then (List.replicate ks.length 3,4) else ([],0)
def hgF:Fs->Int->Int
 | ⟨none⟩,_=>0
 | ⟨some ⟨k,n,_,_,ks,r⟩⟩,ar=>max (max (if k=5/\n<ar then n+1 else 0) (hgF ks ar)) (hgF r ar)
def hgE (e:Ex)(ar:Int):Int:=max (if e.k=5/\e.n<ar then e.n+1 else 0) (hgF e.kids ar)
abbrev Rg:=Nat × (Nat->Option Ex)
def spotP (pk:Int)(i ar wi:Nat):Nat × Nat:=if pk=21 then (if i=0 then ar else ar+1,wi+1) else (ar,wi)
def keepP (cells:List Int)(n:Int)(ks:Fs)(ar:Nat)(s:Rg):Option Rg :=
 match cells[n.toNat]? with
 | none=>none
 | some lv =>
  if (ar:Int)<lv\/lv<hgE ks.head ar then none else
  match s.2 n.toNat with
  | none=>some (s.1,fun i=>if i=n.toNat then some ks.head else s.2 i)
  | some x=>if sameE x ks.head then some s else none
def rgF (cells:List Int):Fs->Int->Nat->Nat->Nat->Rg->Option (Rg × List Int)
 | ⟨none⟩,_,_,_,_,s=>some (s,[])
 | ⟨some ⟨k,n,nm,a,ks,r⟩⟩,pk,i,ar,wi,s =>
  if 4096<s.1+1\/4<(spotP pk i ar wi).2\/nmP k nm=false\/nuP cells.length k n (spotP pk i ar wi).1=false then none else
  match rgF cells ks k 0 (spotP pk i ar wi).1 (spotP pk i ar wi).2 (s.1+1,s.2) with
  | none=>none
  | some (s1,kd) =>
   if (formP k n kd).2=0\/(formP k n kd).1≠kd then none else
   match (if k=26 then keepP cells n ks (spotP pk i ar wi).1 s1 else some s1) with
   | none=>none
   | some s2 =>
    match rgF cells r pk (i+1) ar wi s2 with
    | none=>none
    | some (s3,rest)=>some (s3,(formP k n kd).2::rest)
def kindP (cells:List Int)(e:Ex):Int :=
 if 256<cells.length\/cells.any (fun c=>decide (c<0)||decide (4<c))=true then 0 else
 match rgF cells (one e) 0 0 0 0 (0,fun _=>none) with
 | some (_,[k])=>if k=4 then 0 else k
 | _=>0
theorem rgF_len (cells:List Int):∀ (f:Fs) (pk:Int) (i ar wi:Nat) (s s':Rg) (kd:List Int),rgF cells f pk i ar wi s=some (s',kd)->kd.length=f.len
 | ⟨none⟩,pk,i,ar,wi,s,s',kd,h=>by
  simp only[rgF] at h;injection h with h
  injection h with h1 h2
  subst h2;rfl
 | ⟨some ⟨k,n,nm,a,ks,r⟩⟩,pk,i,ar,wi,s,s',kd,h=>by
  unfold rgF at h;split at h
  ·cases h
  ·split at h
   ·cases h
   ·split at h
    ·cases h
    ·split at h
     ·cases h
     ·split at h
      ·cases h
      ·rename_i s3 rest h5
       injection h with h
       injection h with h1 h2
       subst h2
       have:=rgF_len cells r pk (i+1) ar wi _ _ _ h5
       simp only[List.length_cons,Fs.len];omega
def rgE (cells:List Int)(e:Ex)(ar wi:Nat)(s:Rg):Option (Rg × Int) :=
 if 4096<s.1+1\/4<wi\/nmP e.k e.nm=false\/nuP cells.length e.k e.n ar=false then none else
 match rgF cells e.kids e.k 0 ar wi (s.1+1,s.2) with
 | none=>none
 | some (s1,kd) =>
  if (formP e.k e.n kd).2=0\/(formP e.k e.n kd).1≠kd then none else
  match (if e.k=26 then keepP cells e.n e.kids ar s1 else some s1) with
  | none=>none
  | some s2=>some (s2,(formP e.k e.n kd).2)
theorem rg_ex (cells:List Int)(x:Ex)(r:Fs)(pk:Int)(i ar wi:Nat)(s:Rg) :
  rgF cells (Fs.ex x r) pk i ar wi s=(match rgE cells x (spotP pk i ar wi).1 (spotP pk i ar wi).2 s with
   | none=>none
   | some (s2,k)=>match rgF cells r pk (i+1) ar wi s2 with
    | none=>none
    | some (s3,rest)=>some (s3,k::rest)):=by
 obtain⟨k,n,nm,a,ks⟩:=x;unfold Fs.ex
 conv=>lhs;unfold rgF
 unfold rgE;simp only;by_cases h1:4096<s.1+1\/4<(spotP pk i ar wi).2\/nmP k nm=false\/nuP cells.length k n (spotP pk i ar wi).1=false
 ·rw[if_pos h1,if_pos h1]
 ·rw[if_neg h1,if_neg h1];cases rgF cells ks k 0 (spotP pk i ar wi).1 (spotP pk i ar wi).2 (s.1+1,s.2) with
  | none=>rfl
  | some z =>
   obtain⟨s1,kd⟩:=z;simp only;by_cases h2:(formP k n kd).2=0\/(formP k n kd).1≠kd
   ·rw[if_pos h2,if_pos h2]
   ·rw[if_neg h2,if_neg h2];cases (if k=26 then keepP cells n ks (spotP pk i ar wi).1 s1 else some s1) with
    | none=>rfl
    | some s2=>rfl
theorem rgE_pos {cells:List Int}{e:Ex}{ar wi:Nat}{s s':Rg}{k:Int}(h:rgE cells e ar wi s=some (s',k)):k≠0:=by
 unfold rgE at h;split at h
 ·cases h
 ·split at h
  ·cases h
  ·split at h
   ·cases h
   ·rename_i h2
    split at h
    ·cases h
    ·injection h with h
     injection h with _ h
     intro h3;exact h2 (.inl (h.trans h3))
def gdE (cells:List Int)(e:Ex)(ar wi:Nat)(s:Rg):Prop:=¬(4096<s.1+1\/4<wi\/nmP e.k e.nm=false\/nuP cells.length e.k e.n ar=false)
theorem gd_bad {cells:List Int}{e:Ex}{ar wi:Nat}{s:Rg}(h:¬gdE cells e ar wi s):rgE cells e ar wi s=none:=by
 unfold rgE;unfold gdE at h;rw[if_pos (Classical.not_not.1 h)]
def docF (k n:Int)(nm:List UInt8)(len:Nat):Bool :=
 if k=1 then nm==[]&&len==0
 else if k=2 then (n==0||n==1)&&(nm==[]&&len==0)
 else if k=3\/k=5 then decide (0<=n)&&(nm==[]&&len==0)
 else if k=6\/k=7\/k=24 then n==0&&(nm==[]&&len==1)
 else if 8<=k/\k<=18 then n==0&&(nm==[]&&len==2)
 else if k=19 then n==0&&(nm==[]&&len==3)
 else if k=20 then nm==[]&&((decide (1<=n)&&decide (n<=3)&&len==2)||(decide (4<=n)&&decide (n<=10)&&len==1))
 else if k=21 then decide (1<=n)&&(decide (n<=6)&&(nm==[]&&len==2))
 else if k=22 then n==0&&(nm==[]&&len==0)
 else if k=23 then n==0&&(len==0&&nameB nm)
 else if k=25 then n==0&&nm==[]
 else if k=26 then nm==[]&&len==1
 else false
theorem rgE_inv {cells:List Int}{e:Ex}{ar wi:Nat}{s s':Rg}{k:Int}(h:rgE cells e ar wi s=some (s',k)) :
  gdE cells e ar wi s/\∃s1 kd,rgF cells e.kids e.k 0 ar wi (s.1+1,s.2)=some (s1,kd)/\kd.length=e.kids.len/\(formP e.k e.n kd).2≠0/\(formP e.k e.n kd).1=kd/\k=(formP e.k e.n kd).2/\(if e.k=26 then keepP cells e.n e.kids ar s1 else some s1)=some s':=by
 unfold rgE at h;split at h
 ·cases h
 ·rename_i hg
  split at h
  ·cases h
  ·rename_i s1 kd hr
   split at h
   ·cases h
   ·rename_i h2
    split at h
    ·cases h
    ·rename_i s2 h3
     injection h with h
     injection h with h4 h5
     subst h4;exact⟨hg,s1,kd,hr,rgF_len _ _ _ _ _ _ _ _ _ hr,fun h=>h2 (.inl h),Classical.not_not.1 (fun h=>h2 (.inr h)),h5.symm,h3⟩
theorem formP_kind {k n:Int}{kd:List Int}(h:(formP k n kd).2≠0):(1<=k/\k<=3)\/(5<=k/\k<=26):=by
 apply Classical.byContradiction;intro hc;apply h;unfold formP
 repeat rw[if_neg (by omega)]
theorem docF_of {cells:List Int}{e:Ex}{ar wi:Nat}{s s':Rg}{k:Int}(h:rgE cells e ar wi s=some (s',k)):docF e.k e.n e.nm e.kids.len=true:=by
 obtain⟨hg,s1,kd,-,hl,h0,h1,-,-⟩:=rgE_inv h;obtain⟨k0,n,nm,a,f⟩:=e;unfold gdE at hg;simp only at hg hl h0 h1 ⊢;clear h;have hk:=formP_kind h0;have hlen:(formP k0 n kd).1.length=f.len:=by rw[h1,hl]
 have hc:k0=1\/k0=2\/k0=3\/k0=5\/k0=6\/k0=7\/k0=8\/k0=9\/k0=10\/k0=11\/k0=12\/k0=13\/k0=14\/k0=15\/k0=16\/k0=17\/k0=18\/k0=19\/k0=20\/k0=21\/k0=22\/k0=23\/k0=24\/k0=25\/k0=26:=by omega
 clear h0 h1 hl hk;generalize f.len=m at hlen ⊢;rcases hc with rfl|rfl|rfl|rfl|rfl|rfl|rfl|rfl|rfl|rfl|rfl|rfl|rfl|rfl|rfl|rfl|rfl|rfl|rfl|rfl|rfl|rfl|rfl|rfl|rfl <;>
  simp[nmP,nuP] at hg<;>simp[formP] at hlen<;>simp[docF,hg,<-hlen]
 ·omega
 ·have h10:n=1\/n=2\/n=3\/n=4\/n=5\/n=6\/n=7\/n=8\/n=9\/n=10:=by omega
  rcases h10 with rfl|rfl|rfl|rfl|rfl|rfl|rfl|rfl|rfl|rfl<;>simp
 ·have h10:n=1\/n=2\/n=3\/n=4\/n=5\/n=6:=by omega
  rcases h10 with rfl|rfl|rfl|rfl|rfl|rfl<;>simp
theorem docF_kind {k n:Int}{nm:List UInt8}{len:Nat}(h:docF k n nm len=true):k=1\/k=2\/k=3\/k=5\/k=6\/k=7\/k=8\/k=9\/k=10\/k=11\/k=12\/k=13\/k=14\/k=15\/k=16\/k=17\/k=18\/k=19\/k=20\/k=21\/k=22\/k=23\/k=24\/k=25\/k=26:=by
 apply Classical.byContradiction;intro hc;unfold docF at h
 repeat rw[if_neg (by omega)] at h
 cases h
def kndD (cells:List Int)(e:Ex)(ar wi:Nat)(s:Rg):Option (Rg × Int) :=
 match rgE cells e ar wi s with
 | none=>none
 | some (s',k)=>if k=4 then none else some (s',k)
theorem hgF_pos (ar:Int):∀ (f:Fs),0<=hgF f ar
 | ⟨none⟩=>by simp[hgF]
 | ⟨some ⟨k,n,nm,a,ks,r⟩⟩=>by
  have:=hgF_pos ar r
  simp only[hgF];exact Int.le_trans this (Int.le_max_right _ _)
theorem hgF_le (ar:Int)(h0:0<=ar):∀ (f:Fs),hgF f ar<=ar
 | ⟨none⟩=>by simpa [hgF] using h0
 | ⟨some ⟨k,n,nm,a,ks,r⟩⟩=>by
  have h1:=hgF_le ar h0 ks;have h2:=hgF_le ar h0 r;have h3:(if k=5/\n<ar then n+1 else 0)<=ar:=by split<;>omega
  simp only[hgF];generalize (if k=5/\n<ar then n+1 else 0)=z at h3 ⊢;omega
theorem hgE_le (ar:Int)(h0:0<=ar)(e:Ex):hgE e ar<=ar:=by
 have h1:=hgF_le ar h0 e.kids;have h3:(if e.k=5/\e.n<ar then e.n+1 else 0)<=ar:=by split<;>omega
 unfold hgE;generalize (if e.k=5/\e.n<ar then e.n+1 else 0)=z at h3 ⊢;omega
theorem hgE_pos (ar:Int)(e:Ex):0<=hgE e ar:=by
 have:=hgF_pos ar e.kids
 unfold hgE;omega
structure Kp (a b:Nat)(w w':World):Prop where
 os:w'.os=w.os
 tape:w'.tape=w.tape
 output:w'.output=w.output
 size:w.heap.size<=w'.heap.size
 block:∀ k,k<w.heap.size->k≠a->k≠b->w'.heap[k]?=w.heap[k]?
theorem Kp.refl (a b:Nat)(w:World):Kp a b w w:=⟨rfl,rfl,rfl,Nat.le_refl _,fun _ _ _ _=>rfl⟩
theorem Kp.trans {p q:Nat}{a b c:World}(h:Kp p q a b)(k:Kp p q b c):Kp p q a c :=
 ⟨k.os.trans h.os,k.tape.trans h.tape,k.output.trans h.output,Nat.le_trans h.size k.size,fun i hi hn hm=>(k.block i (Nat.lt_of_lt_of_le hi h.size) hn hm).trans (h.block i hi hn hm)⟩
theorem Kp.ofBelow {a b:Nat}{w w':World}(h:Below w.heap.size w w'):Kp a b w w':=⟨h.os,h.tape,h.output,h.size,fun k hk _ _=>h.block k hk⟩
theorem Kp.set {p q:Nat}{a w:World}(h:Kp p q a w)(r:Addr)(u:Value)(hp:a.heap.size<=r.block\/r.block=p\/r.block=q):Kp p q a (w.setCell r u) :=
 ⟨h.os,h.tape,h.output,by simpa using h.size,fun k hk hn hm=>(heap_setCell_other w r k u (fun e=>by
  rcases hp with hp|hp|hp
  ·omega
  ·exact hn (e.trans hp)
  ·exact hm (e.trans hp))).trans (h.block k hk hn hm)⟩
theorem Kp.below {a b n:Nat}{w w':World}(h:Kp a b w w')(ha:n<=a)(hb:n<=b)(hs:n<=w.heap.size):Below n w w':=⟨h.os,h.tape,h.output,h.size,fun k hk=>h.block k (by omega) (by omega) (by omega)⟩
theorem SlN.belowP {P:Nat->Prop}{w w':World}{f:Fs}{ao:Option Addr}(h:SlN w P f ao)(b:Below w.heap.size w w'):SlN w' P f ao:=h.mono (fun i _ hl=>b.block i hl) b.size (fun _ h _=>h)
def Inw (w:World)(P:Nat->Prop)(v:Value)(xs:List Int):Prop :=
 ∃ao cap,v=.slice ao xs.length cap/\(xs=[]\/∃b off,ao=some ⟨b,off,none⟩/\P b/\b<w.heap.size/\∀ j x,xs[j]?=some x->w.cell? ⟨b,off+j,none⟩=some (.int .i64 x))
theorem Inw.mono {w w':World}{P Q:Nat->Prop}{v:Value}{xs:List Int}(hb:∀ k,P k->k<w.heap.size->w'.heap[k]?=w.heap[k]?)(hs:w.heap.size<=w'.heap.size)(hq:∀ k,P k->k<w.heap.size->Q k)(h:Inw w P v xs):Inw w' Q v xs:=by
 obtain⟨ao,cap,rfl,h⟩:=h;refine⟨ao,cap,rfl,?_⟩;rcases h with h|⟨b,off,rfl,hp,hlt,hc⟩
 ·exact .inl h
 ·exact .inr ⟨b,off,rfl,hq b hp hlt,Nat.lt_of_lt_of_le hlt hs,fun j u hu=>(World.cell?_of_block (a:=⟨b,off+j,none⟩) (hb b hp hlt)).trans (hc j u hu)⟩
theorem Inw.below {P:Nat->Prop}{w w':World}{v:Value}{xs:List Int}(h:Inw w P v xs)(b:Below w.heap.size w w'):Inw w' P v xs:=h.mono (fun i _ hl=>b.block i hl) b.size (fun _ h _=>h)
theorem SlN.kidP {P:Nat->Prop}{w:World}{x r:Fs}{y:Ex}{ao:Option Addr}(h:SlN w P (x.app (Fs.ex y r)) ao)(i:Nat)(hi:x.len=i):∃b off ak ck,ao=some ⟨b,off,none⟩/\w.cell? ⟨b,off+i*4,none⟩=some (.int .i64 y.k)/\w.cell? ⟨b,off+i*4+1,none⟩=some (.int .i64 y.n)/\w.cell? ⟨b,off+i*4+2,none⟩=some (stv y.nm)/\w.cell? ⟨b,off+i*4+3,none⟩=some (.slice ak y.kids.len ck)/\SlN w P y.kids ak:=by
 subst hi;obtain⟨b,off,ak,ck,rfl,-,-,x0,x1,x2,x3,S⟩:=SlN.kidQ h;exact⟨b,off,ak,ck,rfl,x0,x1,x2,x3,S⟩
theorem emp_beq {nm:List UInt8}{b:Bool}(h:(nm==[])=b):((⟨nm.toArray⟩:ByteArray)==⟨#[]⟩)=b:=by
 rw[<-h];cases nm with
 | nil=>rfl
 | cons x r =>
  show (List.toArray (x::r)==#[])=((x::r)==[]);rw[Bool.eq_iff_iff];simp
open Go.ChangeShapes Go.WideShapes Go.ChangeAt Go.RowKit Go.Maps
theorem own_tight {P:Program}{K:TypeId}{R:Value->Option (DataW Unit × List MemPlace)}{w:World}{b n:Nat}{D:DataW Unit}(h:w.ownsMap P K R b n D):w.ownsMap P K R b (Maps.size D) D:=by
 obtain⟨es,clock,hb,F,hs,rfl⟩:=h;exact⟨es,clock,hb,F,by simp[Maps.size,length_sorted],rfl⟩
theorem own_blk {P:Program}{K:TypeId}{R:Value->Option (DataW Unit × List MemPlace)}{w w':World}{b n:Nat}{D:DataW Unit}(h:w.ownsMap P K R b n D)(e:w'.heap[b]?=w.heap[b]?):w'.ownsMap P K R b n D:=by
 obtain⟨es,clock,hb,F,hs,hD⟩:=h;exact⟨es,clock,e.trans hb,F,hs,hD⟩
theorem intLaw:Keyed Tryz.prog 3:=int_keyed Tryz.underlying3
theorem intKey (k:Int):WideAt.IsKeyLit (.int .i64 k):=trivial
def ndList:List Value->Option (DataW Unit × List MemPlace)
 | [.int .i64 a,.int .i64 b,.string s,.slice _ 0 _]=>some (.agg [.lit (.int .i64 a),.lit (.int .i64 b),.lit (.string s.data.toList),.lit (.int .i64 0)],[])
 | [.int .i64 a,.int .i64 b,.string s,.slice (some ⟨g,off,none⟩) (l+1) c]=>some (.agg [.lit (.int .i64 a),.lit (.int .i64 b),.lit (.string s.data.toList),.lit (.int .i64 1),.lit (.int .i64 g),.lit (.int .i64 off),.lit (.int .i64 l),.lit (.int .i64 c)],[])
 | _=>none
def ndElem (v:Value):Option (DataW Unit × List MemPlace) :=
 match v with
 | .agg cs=>ndList cs.toList
 | _=>none
theorem ndList_form {u:List Value}{d:DataW Unit}{p:List MemPlace}(h:ndList u=some (d,p)):∃a b s ao l c,u=[.int .i64 a,.int .i64 b,.string s,.slice ao l c]/\(l=0\/∃g off m,l=m+1/\ao=some ⟨g,off,none⟩):=by
 unfold ndList at h;split at h
 ·exact⟨_,_,_,_,_,_,rfl,.inl rfl⟩
 ·exact⟨_,_,_,_,_,_,rfl,.inr ⟨_,_,_,rfl,rfl⟩⟩
 ·cases h
theorem ndList_inj {u v:List Value}{d:DataW Unit}{p q:List MemPlace}(h:ndList u=some (d,p))(k:ndList v=some (d,q)):∃a b s ao ao' l c c',u=[.int .i64 a,.int .i64 b,.string s,.slice ao l c]/\v=[.int .i64 a,.int .i64 b,.string s,.slice ao' l c']/\(l=0\/ao=ao'):=by
 obtain⟨a,b,⟨⟨s⟩⟩,ao,l,c,rfl,hao⟩:=ndList_form h;obtain⟨a',b',⟨⟨s'⟩⟩,ao',l',c',rfl,hao'⟩:=ndList_form k;rcases hao with rfl|⟨g,off,m,rfl,rfl⟩<;>rcases hao' with rfl|⟨g',off',m',rfl,rfl⟩<;>simp only[ndList,Option.some.injEq,Prod.mk.injEq] at h k
 all_goals (
  have e:=h.1.trans k.1.symm;simp at e)
 ·obtain⟨rfl,rfl,rfl⟩:=e;exact⟨_,_,_,_,_,_,_,_,rfl,rfl,.inl rfl⟩
 ·obtain⟨rfl,rfl,rfl,h1,h2,h3,h4⟩:=e;obtain rfl:g=g':=Int.ofNat.inj h1;obtain rfl:off=off':=Int.ofNat.inj h2;obtain rfl:m=m':=Int.ofNat.inj h3;exact⟨_,_,_,_,_,_,_,_,rfl,rfl,.inr rfl⟩
theorem ndElem_inj {y:Ex}{ao:Option Addr}{cap:Nat}{v:Value}{d:DataW Unit}{p q:List MemPlace}(h:ndElem (exN y ao cap)=some (d,p))(k:ndElem v=some (d,q)):∃ao' cap',v=exN y ao' cap'/\(y.kids.len=0\/ao'=ao):=by
 unfold ndElem at h k;rw[exN_out] at h;simp only at h;split at k
 ·rename_i cs
  obtain⟨a,b,s,a1,a2,l,c,c',e1,e2,e3⟩:=ndList_inj h k;have e2':cs=#[.int .i64 a,.int .i64 b,.string s,.slice a2 l c']:=Array.toList_inj.1 e2;simp at e1;obtain⟨rfl,rfl,rfl,rfl,rfl,rfl⟩:=e1;exact⟨a2,c',by rw[e2'];rfl,e3.imp id Eq.symm⟩
 ·cases k
theorem zeroNd (w:World):(zeroValue 34).run Tryz.prog w=.ok (.agg #[.int .i64 0,.int .i64 0,.string ⟨#[]⟩,.slice none 0 0]) w:=by kernel_rfl
def ndZ:DataW Unit:=.agg [.lit (.int .i64 0),.lit (.int .i64 0),.lit (.string []),.lit (.int .i64 0)]
theorem ndElem_zero:ndElem (.agg #[.int .i64 0,.int .i64 0,.string ⟨#[]⟩,.slice none 0 0])=some (ndZ,[]):=rfl
theorem ndElem_ex {w:World}{P:Nat->Prop}(e:Ex){ao:Option Addr}(cap:Nat)(h:SlN w P e.kids ao):∃d,ndElem (exN e ao cap)=some (d,[]):=by
 rcases h with h|⟨b,off,zs,rfl,-⟩
 ·rw[exN_out,h];exact⟨_,rfl⟩
 ·rw[exN_out];cases hl:e.kids.len with
  | zero=>exact⟨_,rfl⟩
  | succ m=>exact⟨_,rfl⟩
theorem nil_of_len:∀ {f:Fs},f.len=0->f=.nil
 | ⟨none⟩,_=>rfl
 | ⟨some ⟨k,n,nm,a,ks,r⟩⟩,h=>by simp[Fs.len] at h
def MpN (w:World)(P:Nat->Prop)(b m:Nat)(t:Nat->Option Ex):Prop :=
 ∃D:DataW Unit,w.ownsMap Tryz.prog 3 ndElem b m D/\Maps.size D=m /\
  (∀ k y,t k=some y->Maps.has D (.int .i64 (k:Nat))=true/\∃ao cap,ndElem (exN y ao cap)=some (D.atKey (.int .i64 (k:Nat)) ndZ,[])/\SlN w P y.kids ao) /\
  (∀ k:Int,Maps.has D (.int .i64 k)=true->∃j y,k=(j:Nat)/\t j=some y)
theorem MpN.mono {w w':World}{P:Nat->Prop}{b m:Nat}{t:Nat->Option Ex}(h:MpN w P b m t)(e:w'.heap[b]?=w.heap[b]?)(hb:∀ k,P k->k<w.heap.size->w'.heap[k]?=w.heap[k]?)(hs:w.heap.size<=w'.heap.size):MpN w' P b m t:=by
 obtain⟨D,h1,h2,h3,h4⟩:=h;refine⟨D,own_blk h1 e,h2,fun k y hy=>?_,h4⟩;obtain⟨q1,ao,cap,q2,q3⟩:=h3 k y hy;exact⟨q1,ao,cap,q2,q3.mono hb hs (fun _ h _=>h)⟩
theorem MpN.monoQ {w w':World}{P Q:Nat->Prop}{b m:Nat}{t:Nat->Option Ex}(h:MpN w P b m t)(e:w'.heap[b]?=w.heap[b]?)(hb:∀ k,P k->k<w.heap.size->w'.heap[k]?=w.heap[k]?)(hs:w.heap.size<=w'.heap.size)(hq:∀ k,P k->k<w.heap.size->Q k):MpN w' Q b m t:=by
 obtain⟨D,h1,h2,h3,h4⟩:=h;refine⟨D,own_blk h1 e,h2,fun k y hy=>?_,h4⟩;obtain⟨q1,ao,cap,q2,q3⟩:=h3 k y hy;exact⟨q1,ao,cap,q2,q3.mono hb hs hq⟩
theorem MpN.made (w:World)(P:Nat->Prop):MpN (w.alloc (.map #[] 0)) P w.heap.size 0 (fun _=>none) :=
 ⟨.map [],World.ownsMap_made _ _ _ _,rfl,fun k y h=>by simp at h,fun k h=>by simp[Maps.has] at h⟩
theorem MpN.lt {w:World}{P:Nat->Prop}{b m:Nat}{t:Nat->Option Ex}(h:MpN w P b m t):b<w.heap.size:=by
 obtain⟨D,h1,-⟩:=h;exact h1.lt
theorem MpN.gone {t:Nat->Option Ex}{D:DataW Unit}(h5:∀ k:Int,Maps.has D (.int .i64 k)=true->∃j y,k=(j:Nat)/\t j=some y){k:Nat}(hn:t k=none):Maps.has D (.int .i64 (k:Nat))=false:=by
 cases hh:Maps.has D (.int .i64 (k:Nat)) with
 | false=>rfl
 | true =>
  obtain⟨j,y,e,hf⟩:=h5 _ hh;obtain rfl:k=j:=Int.ofNat.inj e;rw[hn] at hf;cases hf
theorem MpN.look {w:World}{P:Nat->Prop}{b m:Nat}{t:Nat->Option Ex}(h:MpN w P b m t){k:Nat}(hk:(Lit.int .i64 (k:Nat)).wf=true){y:Ex}(hf:t k=some y) :
  ∃ao cap,(Instr.lookup 172 (.map (some b)) (.int .i64 (k:Nat)) true).run Tryz.prog w=.ok (.tuple #[exN y ao cap,.bool true]) w/\SlN w P y.kids ao:=by
 obtain⟨D,h1,h2,h4,h5⟩:=h;obtain⟨c,ps,hr,hc⟩:=h1.look_ok intLaw Tryz.underlying172 (zeroNd w) ndElem_zero (keyOf_int_mk Tryz.underlying3 hk);obtain⟨q1,ao,cap,q2,q3⟩:=h4 k y hf;obtain⟨ao',cap',e1,e2⟩:=ndElem_inj q2 hc;rw[q1,e1] at hr;refine⟨ao',cap',hr,?_⟩;rcases e2 with e2|rfl
 ·rw[nil_of_len e2];exact SlN.nil _ _ _
 ·exact q3
theorem MpN.miss {w:World}{P:Nat->Prop}{b m:Nat}{t:Nat->Option Ex}(h:MpN w P b m t){k:Nat}(hk:(Lit.int .i64 (k:Nat)).wf=true)(hf:t k=none) :
  ∃x y s ao l cap,(Instr.lookup 172 (.map (some b)) (.int .i64 (k:Nat)) true).run Tryz.prog w=.ok (.tuple #[.agg #[.int .i64 x,.int .i64 y,.string s,.slice ao l cap],.bool false]) w:=by
 obtain⟨D,h1,h2,h4,h5⟩:=h;obtain⟨c,ps,hr,hc⟩:=h1.look_ok intLaw Tryz.underlying172 (zeroNd w) ndElem_zero (keyOf_int_mk Tryz.underlying3 hk);rw[MpN.gone h5 hf] at hr;unfold ndElem at hc;split at hc
 ·rename_i cs
  obtain⟨x,y,s,ao,l,cap,e,-⟩:=ndList_form hc;have e2:cs=#[.int .i64 x,.int .i64 y,.string s,.slice ao l cap]:=Array.toList_inj.1 e;subst e2;exact⟨x,y,s,ao,l,cap,hr⟩
 ·cases hc
theorem MpN.put {w:World}{P:Nat->Prop}{b m:Nat}{t:Nat->Option Ex}(h:MpN w P b m t)(hP:¬P b)(k:Nat)(y:Ex)(ao:Option Addr)(cap:Nat)(hk:(Lit.int .i64 (k:Nat)).wf=true)(hm:m<=100000)(hf:t k=none)(S:SlN w P y.kids ao) :
  ∃w',(Instr.mapUpdate 172 (.map (some b)) (.int .i64 (k:Nat)) (exN y ao cap)).run Tryz.prog w=.ok () w'/\MpN w' P b (m+1) (fun i=>if i=k then some y else t i)/\w.mapTurned w' b:=by
 obtain⟨D,h1,h2,h4,h5⟩:=h;obtain⟨d,hd⟩:=ndElem_ex y cap S;obtain⟨w',hr,ho,ht⟩:=h1.store (val:=exN y ao cap) (d:=d) (ps:=[]) intLaw Tryz.underlying172 (by unfold maxLen;omega) (keyOf_int_mk Tryz.underlying3 hk) hd;have hg:=ht.grown;have hsz:Maps.size (D.put (.int .i64 (k:Nat)) d)=m+1:=by
  rw[size_put (h1.tidy intLaw),h2,MpN.gone h5 hf];simp
 have ho':=own_tight ho;rw[hsz] at ho';have hSl:∀ {f:Fs}{ao:Option Addr},SlN w P f ao->SlN w' P f ao:=fun S=>S.mono (fun i hp hl=>hg.block i hl (fun e=>hP (by cases e;exact hp))) hg.size (fun _ h _=>h);refine⟨w',hr,⟨_,ho',hsz,fun j z hj=>?_,fun j hj=>?_⟩,ht⟩
 ·by_cases e:j=k
  ·subst e;simp only[if_true] at hj;injection hj with hj
   subst hj;rw[has_put_same h1.isMap (intKey _),atKey_put_same h1.isMap (intKey _)];exact⟨rfl,ao,cap,hd,hSl S⟩
  ·have hne:Lit.int .i64 (j:Nat)≠Lit.int .i64 (k:Nat):=fun h=>e (by simp at h;omega);simp only[e,if_false] at hj;rw[has_put_other hne,atKey_put_other hne];obtain⟨q1,ao',cap',q2,q3⟩:=h4 j z hj;exact⟨q1,ao',cap',q2,hSl q3⟩
 ·by_cases e:j=(k:Nat)
  ·exact⟨k,y,e,if_pos rfl⟩
  ·have hne:Lit.int .i64 j≠Lit.int .i64 (k:Nat):=fun h=>e (by simp at h;exact h);rw[has_put_other hne] at hj;obtain⟨j',z,rfl,hf'⟩:=h5 j hj;exact⟨j',z,rfl,(if_neg (fun h=>e (by rw[h]))).trans hf'⟩
end Go.Proofs.YtnfmpocfakblmaaGreatDoor

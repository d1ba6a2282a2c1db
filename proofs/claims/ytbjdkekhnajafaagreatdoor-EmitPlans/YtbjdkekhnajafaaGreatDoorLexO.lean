import Derived.Test.YtbjdkekhnajafaaGreatDoorTokM
set_option maxRecDepth 100000
set_option maxHeartbeats 8000000
namespace Go.Proofs.YtbjdkekhnajafaaGreatDoor
open Go.ChangeShapes Go.WideShapes Go.ChangeAt Go.RowKit
set_option linter.unusedVariables false
theorem wI (s:ByteArray)(q:Nat):(s.extract 0 q).data.toList=s.data.toList.take q:=by
 rw[jD];simp
def Pce (k:Nat)(u:List UInt8):Prop:=k≠0/\∃c r,u=c::r/\cls c.toNat=k/\∀ j (h:j<r.length),tks k (c::r.take j) (r[j]).toNat=true
theorem vh {r:Nat}:cls r=0 ↔ blk r=true:=by
 unfold cls;constructor
 ·intro h;by_cases hb:blk r=true
  ·exact hb
  ·rw[if_neg hb] at h
   repeat' split at h
   all_goals omega
 ·intro h;rw[if_pos h]
theorem Pce.one (c:UInt8)(h:cls c.toNat≠0):Pce (cls c.toNat) [c]:=⟨h,c,[],rfl,rfl,fun j h=>by simp at h⟩
theorem Pce.more {k:Nat}{u:List UInt8}(h:Pce k u)(c:UInt8)(ht:tks k u c.toNat=true):Pce k (u++[c]):=by
 obtain⟨h0,d,r,rfl,h1,h2⟩:=h;refine⟨h0,d,r++[c],rfl,h1,fun j hj=>?_⟩;by_cases e:j<r.length
 ·rw[List.getElem_append_left e,List.take_append_of_le_length (by omega)];exact h2 j e
 ·have e2:j=r.length:=by simp at hj;omega
  subst e2;rw[List.getElem_append_right (by omega)];simp only[Nat.sub_self,List.getElem_singleton];rw[List.take_append_of_le_length (by omega),List.take_length];exact ht
theorem Bg (l:List UInt8):(⟨l.toArray⟩:ByteArray).size=l.length:=by show l.toArray.size=_;simp
theorem Pce.reads {k:Nat}{u:List UInt8}(h:Pce k u)(q:Nat)(m:List UInt8)(hm:∀ c r,m=c::r->tks k u c.toNat=false):bN 0 [] q q (u++m)=de k u q (bN 0 [] (q+u.length) (q+u.length) m):=by
 obtain⟨h0,d,r,rfl,h1,h2⟩:=h;have hb:blk d.toNat=false:=by
  rw[<-Bool.not_eq_true,<-vh,h1];exact h0
 rw[List.cons_append,dk (k:=0) (by exact hb),h1];show bN k [d] q (q+1) (r++m)=_;rw[xA k [d] q (q+1) r m (fun j h=>h2 j h) (fun c' r' e=>hm c' r' e)];have e1:q+1+r.length=q+(d::r).length:=by simp;omega
 rw[e1];rfl
theorem nt {k:Nat}(h:k=1\/k=2)(t t':List UInt8)(c:Nat):tks k t c=tks k t' c:=by
 rcases h with rfl|rfl<;>rfl
theorem tB (t:List UInt8)(r:Nat):tks 3 t r=(r==61&&(t==[33]||t==[60])):=rfl
theorem uK (l:List UInt8)(k at0 e:Nat)(hk:k=1\/k=2)(h0:at0<e)(h1:e<=l.length)(hc:cls (l[at0]'(by omega)).toNat=k)(hin:∀ j (h:j<l.length),at0<=j->j<e->tks k [] (l[j]).toNat=true) :
  Pce k ((l.drop at0).take (e-at0)):=by
 have e1:e-at0=(e-(at0+1))+1:=by omega
 refine⟨by omega,l[at0]'(by omega),(l.drop (at0+1)).take (e-(at0+1)),?_,hc,fun j hj=>?_⟩
 ·rw[jx l at0 (by omega),e1,List.take_succ_cons]
 ·rw[nt hk _ []];have hj':j<e-(at0+1):=by simp at hj;omega
  rw[List.getElem_take,List.getElem_drop];exact hin _ _ (by omega) (by omega)
theorem td (l:List UInt8)(at0 e:Nat)(h0:at0<e)(h1:e<=l.length):((l.drop at0).take (e-at0)).length=e-at0:=by
 simp;omega
theorem me (l:List UInt8)(k at0 e:Nat)(hk:k=1\/k=2)(h0:at0<e)(h1:e<=l.length)(hc:cls (l[at0]'(by omega)).toNat=k)(hin:∀ j (h:j<l.length),at0<=j->j<e->tks k [] (l[j]).toNat=true)
  (hend:∀ h:e<l.length,tks k [] (l[e]).toNat=false):bN 0 [] at0 at0 (l.drop at0)=de k ((l.drop at0).take (e-at0)) at0 (bN 0 [] e e (l.drop e)):=by
 have hP:=uK l k at0 e hk h0 h1 hc hin;have hs:l.drop at0=(l.drop at0).take (e-at0)++l.drop e:=by
  have h2:=(List.take_append_drop (e-at0) (l.drop at0)).symm;rw[List.drop_drop] at h2;have e2:at0+(e-at0)=e:=by omega
  rw[e2] at h2;exact h2
 have hr:=hP.reads at0 (l.drop e) (fun c r hcr=>by
  have hlt:e<l.length:=by
   by_cases hlt:e<l.length
   ·exact hlt
   ·rw[List.drop_eq_nil_of_le (by omega)] at hcr;cases hcr
  rw[jx l e hlt] at hcr;injection hcr with h2 h3
  rw[<-h2,nt hk _ []];exact hend hlt)
 rw[<-hs] at hr;rw[hr,td l at0 e h0 h1];have e3:at0+(e-at0)=e:=by omega
 rw[e3]
def D3 (a:Nat)(c:UInt8):Nat:=a*10+(c.toNat-48)
def dR (acc:Nat)(l:List UInt8):Nat:=l.foldl D3 acc
theorem eO (acc:Nat)(c:UInt8)(r:List UInt8):dR acc (c::r)=dR (acc*10+(c.toNat-48)) r:=by
 unfold dR;rw[List.foldl_cons];rfl
theorem eX (acc:Nat):dR acc []=acc:=by
 unfold dR;rw[List.foldl_nil]
def rx (l:List UInt8):Prop:=∀ c,c ∈ l->48<=c.toNat/\c.toNat<=57
theorem zq (acc:Nat)(l:List UInt8):acc*10 ^ l.length<=dR acc l:=by
 induction l generalizing acc with
 | nil =>
  rw[List.length_nil,Nat.pow_zero,Nat.mul_one,eX];exact Nat.le_refl _
 | cons c r ih =>
  rw[eO,List.length_cons];refine Nat.le_trans ?_ (ih _);rw[Nat.pow_succ,Nat.mul_comm (10 ^ r.length) 10,<-Nat.mul_assoc];exact Nat.mul_le_mul_right _ (by omega)
theorem nJ (acc:Nat)(l:List UInt8):acc<=dR acc l:=by
 induction l generalizing acc with
 | nil =>
  rw[eX];exact Nat.le_refl _
 | cons c r ih =>
  rw[eO];exact Nat.le_trans (by omega) (ih _)
theorem kg (acc:Nat)(l m:List UInt8):dR acc (l++m)=dR (dR acc l) m:=by
 unfold dR;rw[List.foldl_append]
theorem xm (acc:Nat)(l:List UInt8)(hl:rx l)(h:dR acc l<18446744073709551616):Lib.parseUint10 acc l=.ok (dR acc l):=by
 induction l generalizing acc with
 | nil =>
  rw[eX];rfl
 | cons c r ih =>
  have hc:=hl c (by simp);rw[eO] at h ⊢;have hm:=nJ (acc*10+(c.toNat-48)) r;simp only[Lib.parseUint10];rw[if_pos hc,if_neg (by omega),if_neg (by omega)];exact ih _ (fun d hd=>hl d (by simp[hd])) h
theorem vO (acc:Nat)(l:List UInt8)(hl:rx l)(u:Nat)(h:Lib.parseUint10 acc l=.ok u):u=dR acc l:=by
 induction l generalizing acc with
 | nil =>
  simp only[Lib.parseUint10] at h;injection h with h
  rw[eX];exact h.symm
 | cons c r ih =>
  have hc:=hl c (by simp);rw[eO];simp only[Lib.parseUint10] at h;rw[if_pos hc] at h;split at h
  ·cases h
  ·split at h
   ·cases h
   ·exact ih _ (fun d hd=>hl d (by simp[hd])) h
theorem jJ {l:List UInt8}(hl:rx l)(h0:l≠[]):(dR 0 l<9223372036854775808->Lib.atoiAll l=.ok (dR 0 l:Nat))/\(9223372036854775808<=dR 0 l->∀ v,Lib.atoiAll l≠.ok v):=by
 cases l with
 | nil=>exact absurd rfl h0
 | cons c r =>
  have hc:=hl c (by simp);have hne:¬(c.toNat=43\/c.toNat=45):=by omega
  have hm:Lib.parseMag (c::r)=Lib.parseUint10 0 (c::r):=by
   unfold Lib.parseMag;rw[if_neg (by simp)]
  constructor
  ·intro h;have hp:=xm 0 (c::r) hl (by omega);unfold Lib.atoiAll;simp only;rw[if_neg hne,hm,hp];simp only;rw[if_neg (by omega),if_neg (by omega),if_neg (by omega)]
  ·intro h v hv;unfold Lib.atoiAll at hv;simp only at hv;rw[if_neg hne,hm] at hv;cases hp:Lib.parseUint10 0 (c::r) with
   | ok u =>
    rw[hp] at hv;simp only at hv;have hu:=vO 0 (c::r) hl u hp;rw[if_pos (by omega)] at hv;cases hv
   | _=>rw[hp] at hv;cases hv
theorem tN {l:List UInt8}(h:∀ v,Lib.atoiAll l≠.ok v)(a:Nat):gq l a=.inl 111:=by
 unfold gq;split
 ·rename_i v hv
  exact absurd hv (h v)
 ·rfl
theorem mX {l:List UInt8}(h1:l.head?=some 48)(h2:1<l.length)(a:Nat):gq l a=.inl 111:=by
 unfold gq;have hne:l≠[48]:=fun e=>by rw[e] at h2;simp at h2
 split
 ·rw[if_pos ⟨h1,hne⟩]
 ·rfl
theorem xz {l:List UInt8}(hl:rx l)(h0:l≠[])(h1:l.head?≠some 48\/l.length<=1)(h2:dR 0 l<9223372036854775808)(a:Nat):gq l a=.inr ⟨1,(dR 0 l:Nat),[],a⟩:=by
 unfold gq;rw[(jJ hl h0).1 h2];simp only;rw[if_neg];rintro ⟨h3,h4⟩;rcases h1 with h1|h1
 ·exact h1 h3
 ·apply h4;cases l with
  | nil=>exact absurd rfl h0
  | cons c r =>
   simp at h1 h3;rw[h1,h3]
theorem uL {l:List UInt8}(hl:rx l)(h:19<l.length)(a:Nat):gq l a=.inl 111:=by
 cases l with
 | nil=>simp at h
 | cons c r =>
  by_cases hc:c=48
  ·exact mX (by rw[hc];rfl) (by omega) a
  ·refine tN ((jJ hl (by simp)).2 ?_) a;have h1:=hl c (by simp);have h2:1<=c.toNat-48:=by
    by_cases e:c.toNat=48
    ·exact absurd (UInt8.toNat.inj e) hc
    ·omega
   have h3:=zq (0*10+(c.toNat-48)) r;rw[eO];have h4:10 ^ 19<=10 ^ r.length:=Nat.pow_le_pow_right (by omega) (by simp at h;omega);have h5:1*10 ^ r.length<=(0*10+(c.toNat-48))*10 ^ r.length:=Nat.mul_le_mul_right _ (by omega);have h6:(10:Nat) ^ 19=10000000000000000000:=by decide
   omega
def m9 (l:List UInt8)(k at0 e:Nat):Prop:=at0<e/\e<=l.length/\(∀ j (h:j<l.length),at0<=j->j<e->tks k [] (l[j]).toNat=true)/\(∀ h:e<l.length,tks k [] (l[e]).toNat=false)
theorem Dm (s:ByteArray)(at0:Nat)(w:World)(hat:at0<s.size)(hs:s.size<=2000)(hd:dig (s[at0]).toNat=true) :
  Calls Tryz.prog 121 #[.string s,.int .i64 (at0:Nat)] w fun e w'=>∃e0:Nat,e=.returned (.int .i64 (e0:Nat))/\m9 s.data.toList 2 at0 e0/\w'=w:=by
 have HL:Hid (s.data.toList.length=s.size):=bR s;have hb0:(s[at0]'hat).toNat<256:=UInt8.toNat_lt _;have hatI:(at0:Int)<(s.size:Int):=by omega
 have HD:=Lib.hid hd;go_enter Tryz.func121,Tryz.ntmps121;go_wp2_with (go_at_call 120;refine(fd _ _ hb0).mono ?_;rw[hd];rintro e w1 ⟨rfl,rfl⟩);clear hd;go_loopw [1] (fun v wr=>∃k:Nat,v=.int .i64 (k:Nat)/\at0<=k/\k<=s.size/\(∀ j (h:j<s.data.toList.length),at0<=j->j<k->dig (s.data.toList[j]).toNat=true)/\wr=w1) (fun v _=>s.size-(intOf v).toNat)
 case atStart=>exact⟨at0,by go_num,by omega,by omega,fun j _ h1 h2=>by omega,rfl⟩
 case round =>
  obtain⟨k,rfl,h1,h2,hin,rfl⟩:=hrel;by_cases hlt:k<s.size
  ·have hkl:k<s.data.toList.length:=by have:=HL.out;omega
   have hkI:(k:Int)<(s.size:Int):=by omega
   have hbk:(s[k]'hlt).toNat<256:=UInt8.toNat_lt _;have hge:=bL s k hlt hkl;cases h3:dig (s[k]'hlt).toNat
   ·have fin:m9 s.data.toList 2 at0 k:=by
     refine⟨?_,by omega,hin,fun h=>?_⟩
     ·by_cases e:at0=k
      ·subst e;rw[HD.out] at h3;cases h3
      ·omega
     ·show dig _=false;rw[hge];exact h3
    have HF:=Lib.hid fin;clear fin hin hge;go_wp2_with (go_at_call 120;refine(fd _ _ hbk).mono ?_;rw[h3];rintro e w1 ⟨rfl,rfl⟩);go_ret;exact⟨k,rfl,HF.out,rfl⟩
   ·have RL:∀ j (h:j<s.data.toList.length),at0<=j->j<k+1->dig (s.data.toList[j]).toNat=true:=fun j h h4 h5=>by
     by_cases e:j=k
     ·subst e;rw[hge];exact h3
     ·exact hin j h h4 (by omega)
    clear hin hge;go_wp2_with (go_at_call 120;refine(fd _ _ hbk).mono ?_;rw[h3];rintro e w1 ⟨rfl,rfl⟩);go_roundw
    case rel=>(try ((repeat apply Exists.intro);refine⟨?_,rfl⟩));exact⟨k+1,by go_num,by omega,by omega,RL,by trivial⟩
    case measure=>simp[intOf];omega
  ·have hkI:¬(k:Int)<(s.size:Int):=by omega
   have HF:Hid (m9 s.data.toList 2 at0 k):=⟨by omega,by have:=HL.out;omega,hin,fun h=>by have:=HL.out;omega⟩
   clear hin;go_wp2;go_ret;exact⟨k,rfl,HF.out,rfl⟩
theorem jo (r:Nat):ltr r=(sml r||grt r):=rfl
theorem xc (s:ByteArray)(at0:Nat)(w:World)(hat:at0<s.size)(hs:s.size<=2000)(hd:dig (s[at0]).toNat=false)(hl:ltr (s[at0]).toNat=true) :
  Calls Tryz.prog 121 #[.string s,.int .i64 (at0:Nat)] w fun e w'=>∃e0:Nat,e=.returned (.int .i64 (e0:Nat))/\m9 s.data.toList 1 at0 e0/\w'=w:=by
 have HL:Hid (s.data.toList.length=s.size):=bR s;have hb0:(s[at0]'hat).toNat<256:=UInt8.toNat_lt _;have hatI:(at0:Int)<(s.size:Int):=by omega
 have HD:=Lib.hid hl;go_enter Tryz.func121,Tryz.ntmps121;go_wp2_with (go_at_call 120;refine(fd _ _ hb0).mono ?_;rw[hd];rintro e w1 ⟨rfl,rfl⟩);clear hd hl;go_loopw [1] (fun v wr=>∃k:Nat,v=.int .i64 (k:Nat)/\at0<=k/\k<=s.size/\(∀ j (h:j<s.data.toList.length),at0<=j->j<k->tks 1 [] (s.data.toList[j]).toNat=true)/\wr=w1) (fun v _=>s.size-(intOf v).toNat)
 case atStart=>exact⟨at0,by go_num,by omega,by omega,fun j _ h1 h2=>by omega,rfl⟩
 case round =>
  obtain⟨k,rfl,h1,h2,hin,rfl⟩:=hrel;by_cases hlt:k<s.size
  ·have hkl:k<s.data.toList.length:=by have:=HL.out;omega
   have hkI:(k:Int)<(s.size:Int):=by omega
   have hbk:(s[k]'hlt).toNat<256:=UInt8.toNat_lt _;have hge:=bL s k hlt hkl;have HG:Hid (tks 1 [] (s[k]'hlt).toNat=true->∀ j (h:j<s.data.toList.length),at0<=j->j<k+1->tks 1 [] (s.data.toList[j]).toNat=true):=fun h3 j h h4 h5=>by
    by_cases e:j=k
    ·subst e;rw[hge];exact h3
    ·exact hin j h h4 (by omega)
   have HE:Hid (tks 1 [] (s[k]'hlt).toNat=false->m9 s.data.toList 1 at0 k):=fun h3=>by
    refine⟨?_,by omega,hin,fun h=>?_⟩
    ·by_cases e:at0=k
     ·subst e;have h4:=HD.out;simp[tks,h4] at h3
     ·omega
    ·rw[hge];exact h3
   clear hin hge;cases h3:sml (s[k]'hlt).toNat
   ·cases h4:grt (s[k]'hlt).toNat
    ·cases h5:dig (s[k]'hlt).toNat
     ·by_cases h6:(s[k]'hlt).toNat=95
      ·have RL:=HG.out (by simp[tks,h6]);have H6:=Lib.hid h6;clear HG HE h6;go_wp2_with (first|(go_at_call 123;refine(fe _ _ hbk).mono ?_;rw[h3];rintro e w1 ⟨rfl,rfl⟩)|(go_at_call 124;refine(nr _ _ hbk).mono ?_;rw[h4];rintro e w1 ⟨rfl,rfl⟩)|(go_at_call 120;refine(fd _ _ hbk).mono ?_;rw[h5];rintro e w1 ⟨rfl,rfl⟩;have h6:=H6.out;clear h3 h4 h5 hbk));go_roundw
       case rel=>(try ((repeat apply Exists.intro);refine⟨?_,rfl⟩));exact⟨k+1,by go_num,by omega,by omega,RL,by trivial⟩
       case measure=>simp[intOf];omega
      ·have fin:=HE.out (by simp[tks,jo,h3,h4,h5,h6]);have HF:=Lib.hid fin;have h6I:¬((s[k]'hlt).toNat:Int)=95:=by omega
       have h6B:(((s[k]'hlt).toNat:Int)==95)=false:=by simpa using h6I
       clear HG HE h6 fin;go_wp2_with (first|(go_at_call 123;refine(fe _ _ hbk).mono ?_;rw[h3];rintro e w1 ⟨rfl,rfl⟩)|(go_at_call 124;refine(nr _ _ hbk).mono ?_;rw[h4];rintro e w1 ⟨rfl,rfl⟩)|(go_at_call 120;refine(fd _ _ hbk).mono ?_;rw[h5];rintro e w1 ⟨rfl,rfl⟩));go_ret;exact⟨k,rfl,HF.out,rfl⟩
     ·have RL:=HG.out (by simp[tks,h5]);clear HG HE;go_wp2_with (first|(go_at_call 123;refine(fe _ _ hbk).mono ?_;rw[h3];rintro e w1 ⟨rfl,rfl⟩)|(go_at_call 124;refine(nr _ _ hbk).mono ?_;rw[h4];rintro e w1 ⟨rfl,rfl⟩)|(go_at_call 120;refine(fd _ _ hbk).mono ?_;rw[h5];rintro e w1 ⟨rfl,rfl⟩));go_roundw
      case rel=>(try ((repeat apply Exists.intro);refine⟨?_,rfl⟩));exact⟨k+1,by go_num,by omega,by omega,RL,by trivial⟩
      case measure=>simp[intOf];omega
    ·have RL:=HG.out (by simp[tks,jo,h4]);clear HG HE;go_wp2_with (first|(go_at_call 123;refine(fe _ _ hbk).mono ?_;rw[h3];rintro e w1 ⟨rfl,rfl⟩)|(go_at_call 124;refine(nr _ _ hbk).mono ?_;rw[h4];rintro e w1 ⟨rfl,rfl⟩));go_roundw
     case rel=>(try ((repeat apply Exists.intro);refine⟨?_,rfl⟩));exact⟨k+1,by go_num,by omega,by omega,RL,by trivial⟩
     case measure=>simp[intOf];omega
   ·have RL:=HG.out (by simp[tks,jo,h3]);clear HG HE;go_wp2_with (go_at_call 123;refine(fe _ _ hbk).mono ?_;rw[h3];rintro e w1 ⟨rfl,rfl⟩);go_roundw
    case rel=>(try ((repeat apply Exists.intro);refine⟨?_,rfl⟩));exact⟨k+1,by go_num,by omega,by omega,RL,by trivial⟩
    case measure=>simp[intOf];omega
  ·have hkI:¬(k:Int)<(s.size:Int):=by omega
   have HF:Hid (m9 s.data.toList 1 at0 k):=⟨by omega,by have:=HL.out;omega,hin,fun h=>by have:=HL.out;omega⟩
   clear hin;go_wp2;go_ret;exact⟨k,rfl,HF.out,rfl⟩
def lX (l:List UInt8)(v:Int)(b:Bool):Prop:=(b=true/\∀ a,gq l a=.inr ⟨1,v,[],a⟩)\/(b=false/\v=0/\∀ a,gq l a=.inl 111)
def Aj (l:List UInt8)(e:Ending):Prop:=∃v b,e=.returned (.tuple #[.int .i64 v,.bool b])/\lX l v b
theorem nK (l:List UInt8)(i:Nat)(h:i<l.length):dR 0 (l.take (i+1))=dR 0 (l.take i)*10+((l[i]).toNat-48):=by
 rw[List.take_add_one,List.getElem?_eq_getElem h];show dR 0 (l.take i++[l[i]])=_;rw[kg,eO,eX]
theorem jl (l:List UInt8)(i:Nat):dR 0 (l.take i)<=dR 0 l:=by
 have h:=List.take_append_drop i l;have h2:=kg 0 (l.take i) (l.drop i);rw[h] at h2;rw[h2];exact nJ _ _
theorem yC (s:ByteArray)(w:World)(h0:0<s.size)(hs:s.size<=2000)(hD:rx s.data.toList) :
  Calls Tryz.prog 122 #[.string s] w fun e w'=>Aj s.data.toList e/\w'=w:=by
 have HL:Hid (s.data.toList.length=s.size):=bR s;have hne:s.data.toList≠[]:=fun e=>by have:=HL.out;rw[e] at this;simp at this;omega
 have hh:=zg s h0;by_cases h19:19<s.size
 ·have fin:lX s.data.toList 0 false:=.inr ⟨rfl,rfl,fun a=>uL hD (by rw[HL.out];exact h19) a⟩;have HF:=Lib.hid fin;have hI:(19:Int)<(s.size:Int):=by omega
  clear fin hh;go_enter Tryz.func122,Tryz.ntmps122;go_wp2;go_ret2;exact⟨⟨_,_,rfl,HF.out⟩,rfl⟩
 ·have hI:¬(19:Int)<(s.size:Int):=by omega
  have hb0:(s[0]'h0).toNat<256:=UInt8.toNat_lt _;by_cases hlead:1<s.size/\(s[0]'h0).toNat=48
  ·obtain⟨h1,h48⟩:=hlead;have h5:s[0]'h0=48:=UInt8.toNat.inj h48;have fin:lX s.data.toList 0 false:=.inr ⟨rfl,rfl,fun a=>mX (by rw[hh,h5]) (by rw[HL.out];exact h1) a⟩;have HF:=Lib.hid fin;have h1I:(1:Int)<(s.size:Int):=by omega
   clear fin hh h5;go_enter Tryz.func122,Tryz.ntmps122;go_wp2;go_ret2;exact⟨⟨_,_,rfl,HF.out⟩,rfl⟩
  ·have HY:Hid (dR 0 s.data.toList<9223372036854775808->lX s.data.toList (dR 0 s.data.toList:Nat) true):=fun h=>by
    refine .inl ⟨rfl,fun a=>xz hD hne ?_ h a⟩;by_cases h1:1<s.size
    ·left
     rw[hh];intro e;injection e with e
     exact hlead ⟨h1,by rw[e];rfl⟩
    ·right
     rw[HL.out];omega
   have HX:Hid (9223372036854775808<=dR 0 s.data.toList->lX s.data.toList 0 false):=fun h=>.inr ⟨rfl,rfl,fun a=>tN ((jJ hD hne).2 h) a⟩;have HDD:=Lib.hid hD;by_cases h1:1<s.size
   ·have h1I:(1:Int)<(s.size:Int):=by omega
    have h48I:¬((s[0]'h0).toNat:Int)=48:=by
     intro e;exact hlead ⟨h1,by omega⟩
    have h48B:(((s[0]'h0).toNat:Int)==48)=false:=by simpa using h48I
    clear hlead hh;go_enter Tryz.func122,Tryz.ntmps122;go_wp2;go_loopw [4,5] (fun v4 v5 wr=>∃k n:Nat,v5=.int .i64 (k:Nat)/\v4=.int .i64 (n:Nat)/\k<=s.size/\n=dR 0 (s.data.toList.take k)/\n<9223372036854775808/\wr=w) (fun _ v _=>s.size-(intOf v).toNat)
    case atStart=>exact⟨0,0,by go_num,by go_num,by omega,by rw[List.take_zero,eX],by omega,rfl⟩
    case round =>
     obtain⟨k,n,rfl,rfl,hk,hn,hnb,rfl⟩:=hrel;have HN:=Lib.hid hn;clear hn;by_cases hlt:k<s.size
     ·have hkl:k<s.data.toList.length:=by rw[HL.out];exact hlt
      have hkI:(k:Int)<(s.size:Int):=by omega
      have hdg:=HDD.out (s.data.toList[k]'hkl) (List.getElem_mem _);have htd:=nK s.data.toList k hkl;rw[bL s k hlt hkl] at hdg htd;have hle:=jl s.data.toList (k+1);obtain⟨d,hd⟩:∃d,d=(s[k]'hlt).toNat-48:=⟨_,rfl⟩
      have hd9:d<=9:=by omega
      have hdI:((s[k]'hlt).toNat:Int)-48=(d:Int):=by omega
      rw[<-hd,<-HN.out] at htd;obtain⟨q,hq⟩:∃q,q=(9223372036854775807-d) / 10:=⟨_,rfl⟩
      have hqI:(9223372036854775807-(d:Int)).tdiv 10=(q:Int):=by
       rw[Int.tdiv_eq_ediv_of_nonneg (by omega)];omega
      have hwq:IntKind.i64.wrap (q:Int)=(q:Int):=by rw[IntKind.wrap_i64];omega
      by_cases hov:q<n
      ·have hovI:(q:Int)<(n:Int):=by omega
       have fin:=HX.out (by omega);have HF:=Lib.hid fin;clear fin htd hle hd hq hdg;go_wp2;go_ret2;exact⟨⟨_,_,rfl,HF.out⟩,rfl⟩
      ·have hovI:¬(q:Int)<(n:Int):=by omega
       have hnn:10*n+d<9223372036854775808:=by omega
       have HT:=Lib.hid htd;clear htd hle hd hq hdg;go_wp2;go_roundw
       case rel=>(try ((repeat apply Exists.intro);refine⟨?_,rfl⟩));exact⟨k+1,10*n+d,by go_num,by go_num,by omega,by rw[HT.out];omega,hnn,by trivial⟩
       case measure=>simp[intOf];omega
     ·obtain rfl:k=s.size:=by omega
      have hn2:=HN.out;rw[List.take_of_length_le (by rw[HL.out];exact Nat.le_refl _)] at hn2;have fin:=HY.out (by omega);rw[<-hn2] at fin;have HF:=Lib.hid fin;clear fin hn2;go_wp2;go_ret2;exact⟨⟨_,_,rfl,HF.out⟩,rfl⟩
   ·have h1I:¬(1:Int)<(s.size:Int):=by omega
    clear hlead hh;go_enter Tryz.func122,Tryz.ntmps122;go_wp2;go_loopw [4,5] (fun v4 v5 wr=>∃k n:Nat,v5=.int .i64 (k:Nat)/\v4=.int .i64 (n:Nat)/\k<=s.size/\n=dR 0 (s.data.toList.take k)/\n<9223372036854775808/\wr=w) (fun _ v _=>s.size-(intOf v).toNat)
    case atStart=>exact⟨0,0,by go_num,by go_num,by omega,by rw[List.take_zero,eX],by omega,rfl⟩
    case round =>
     obtain⟨k,n,rfl,rfl,hk,hn,hnb,rfl⟩:=hrel;have HN:=Lib.hid hn;clear hn;by_cases hlt:k<s.size
     ·have hkl:k<s.data.toList.length:=by rw[HL.out];exact hlt
      have hkI:(k:Int)<(s.size:Int):=by omega
      have hdg:=HDD.out (s.data.toList[k]'hkl) (List.getElem_mem _);have htd:=nK s.data.toList k hkl;rw[bL s k hlt hkl] at hdg htd;have hle:=jl s.data.toList (k+1);obtain⟨d,hd⟩:∃d,d=(s[k]'hlt).toNat-48:=⟨_,rfl⟩
      have hd9:d<=9:=by omega
      have hdI:((s[k]'hlt).toNat:Int)-48=(d:Int):=by omega
      rw[<-hd,<-HN.out] at htd;obtain⟨q,hq⟩:∃q,q=(9223372036854775807-d) / 10:=⟨_,rfl⟩
      have hqI:(9223372036854775807-(d:Int)).tdiv 10=(q:Int):=by
       rw[Int.tdiv_eq_ediv_of_nonneg (by omega)];omega
      have hwq:IntKind.i64.wrap (q:Int)=(q:Int):=by rw[IntKind.wrap_i64];omega
      by_cases hov:q<n
      ·have hovI:(q:Int)<(n:Int):=by omega
       have fin:=HX.out (by omega);have HF:=Lib.hid fin;clear fin htd hle hd hq hdg;go_wp2;go_ret2;exact⟨⟨_,_,rfl,HF.out⟩,rfl⟩
      ·have hovI:¬(q:Int)<(n:Int):=by omega
       have hnn:10*n+d<9223372036854775808:=by omega
       have HT:=Lib.hid htd;clear htd hle hd hq hdg;go_wp2;go_roundw
       case rel=>(try ((repeat apply Exists.intro);refine⟨?_,rfl⟩));exact⟨k+1,10*n+d,by go_num,by go_num,by omega,by rw[HT.out];omega,hnn,by trivial⟩
       case measure=>simp[intOf];omega
     ·obtain rfl:k=s.size:=by omega
      have hn2:=HN.out;rw[List.take_of_length_le (by rw[HL.out];exact Nat.le_refl _)] at hn2;have fin:=HY.out (by omega);rw[<-hn2] at fin;have HF:=Lib.hid fin;clear fin hn2;go_wp2;go_ret2;exact⟨⟨_,_,rfl,HF.out⟩,rfl⟩
def eU (l:List UInt8):List UInt8 :=
 match l with
 | []=>[]
 | c::r=>if (c.toNat=33\/c.toNat=60)/\r.head?=some 61 then [c,61] else if sgn c.toNat=true/\c.toNat≠33 then [c] else []
theorem vF (c:UInt8)(r:List UInt8)(q:Nat)(h1:blk c.toNat=false)(h2:ltr c.toNat=false)(h3:dig c.toNat=false) :
  (eU (c::r)=[]/\bN 0 [] q q (c::r)=.inl (110,q))\/(eU (c::r)≠[]/\(eU (c::r)).length<=(c::r).length/\bN 0 [] q q (c::r)=iU ⟨4,0,eU (c::r),q⟩ (bN 0 [] (q+(eU (c::r)).length) (q+(eU (c::r)).length) ((c::r).drop (eU (c::r)).length))):=by
 cases h4:sgn c.toNat
 ·left
  have hc:cls c.toNat=4:=by simp[cls,h1,h2,h3,h4]
  refine⟨?_,?_⟩
  ·unfold eU;simp only;rw[if_neg,if_neg (by rw[h4];simp)];rintro ⟨h5|h5,_⟩<;>(rw[h5] at h4;cases h4)
  ·rw[dk (k:=0) (by exact h1),hc,ux];rfl
 ·have hc:cls c.toNat=3:=by simp[cls,h1,h2,h3,h4]
  by_cases h5:(c.toNat=33\/c.toNat=60)/\r.head?=some 61
  ·right
   have hu:eU (c::r)=[c,61]:=by
    unfold eU;simp only;rw[if_pos h5]
   obtain⟨h6,h7⟩:=h5;cases r with
   | nil=>cases h7
   | cons d r' =>
    injection h7 with h7
    subst h7;rw[hu];refine⟨by simp,by simp,?_⟩;have hcc:c=33\/c=60:=by
     rcases h6 with h6|h6
     ·exact .inl (UInt8.toNat.inj h6)
     ·exact .inr (UInt8.toNat.inj h6)
    have hP:Pce 3 [c,61]:=by
     have h8:Pce 3 [c]:=by rw[<-hc];exact Pce.one c (by rw[hc];omega)
     refine h8.more 61 ?_;rcases hcc with rfl|rfl<;>rfl
    have hr:=hP.reads q r' (fun d m _=>by
     rw[tB];rcases hcc with rfl|rfl<;>simp)
    show bN 0 [] q q ([c,61]++r')=_;rw[hr];unfold de;rw[if_neg (by omega)];have hs:fO 3 [c,61] q=.inr ⟨4,0,[c,61],q⟩:=by
     show mM [c,61] q=_;unfold mM;rw[if_neg (by simp)]
    rw[hs];rfl
  ·have h8:Pce 3 [c]:=by rw[<-hc];exact Pce.one c (by rw[hc];omega)
   have hr:=h8.reads q r (fun d m e=>by
    subst e;rw[tB];rw[<-Bool.not_eq_true];intro hh;simp only[Bool.and_eq_true,Bool.or_eq_true,beq_iff_eq,List.cons.injEq,and_true] at hh;apply h5;refine⟨?_,?_⟩
    ·rcases hh.2 with h|h
     ·left;rw[h];rfl
     ·right;rw[h];rfl
    ·show some d=some 61
     congr 1
     exact UInt8.toNat.inj hh.1)
   have hr':bN 0 [] q q (c::r)=de 3 [c] q (bN 0 [] (q+1) (q+1) r):=hr;by_cases h33:c.toNat=33
   ·left
    have hc33:c=33:=UInt8.toNat.inj h33;refine⟨?_,?_⟩
    ·unfold eU;simp only;rw[if_neg h5,if_neg (by simp[h33])]
    ·rw[hr',hc33];rfl
   ·right
    have hu:eU (c::r)=[c]:=by
     unfold eU;simp only;rw[if_neg h5,if_pos ⟨h4,h33⟩]
    rw[hu];refine⟨by simp,by simp,?_⟩;rw[hr'];unfold de;rw[if_neg (by omega)];have hs:fO 3 [c] q=.inr ⟨4,0,[c],q⟩:=by
     show mM [c] q=_;unfold mM;rw[if_neg (by intro e;injection e with e _;rw[e] at h33;exact h33 rfl)]
    rw[hs];rfl
def sgA (i:Nat):Nat :=
 match i with
 | 0=>40 | 1=>41 | 2=>123 | 3=>125 | 4=>44 | 5=>58 | 6=>64 | 7=>43 | 8=>45 | 9=>42 | 10=>47 | 11=>37 | 12=>61|_=>60
theorem tI (r:Nat):(sgn r=true/\r≠33) ↔ ∃i,i<14/\sgA i=r:=by
 constructor
 ·rintro ⟨h,h33⟩;simp[sgn,or_assoc] at h;rcases h with h|h|h|h|h|h|h|h|h|h|h|h|h|h|h
  ·exact⟨0,by omega,h.symm⟩
  ·exact⟨1,by omega,h.symm⟩
  ·exact⟨2,by omega,h.symm⟩
  ·exact⟨3,by omega,h.symm⟩
  ·exact⟨4,by omega,h.symm⟩
  ·exact⟨5,by omega,h.symm⟩
  ·exact⟨6,by omega,h.symm⟩
  ·exact⟨7,by omega,h.symm⟩
  ·exact⟨8,by omega,h.symm⟩
  ·exact⟨9,by omega,h.symm⟩
  ·exact⟨10,by omega,h.symm⟩
  ·exact⟨11,by omega,h.symm⟩
  ·exact⟨12,by omega,h.symm⟩
  ·exact absurd h h33
  ·exact⟨13,by omega,h.symm⟩
 ·rintro ⟨i,hi,rfl⟩
  match i,hi with
  | 0,_=>exact⟨rfl,by decide⟩
  | 1,_=>exact⟨rfl,by decide⟩
  | 2,_=>exact⟨rfl,by decide⟩
  | 3,_=>exact⟨rfl,by decide⟩
  | 4,_=>exact⟨rfl,by decide⟩
  | 5,_=>exact⟨rfl,by decide⟩
  | 6,_=>exact⟨rfl,by decide⟩
  | 7,_=>exact⟨rfl,by decide⟩
  | 8,_=>exact⟨rfl,by decide⟩
  | 9,_=>exact⟨rfl,by decide⟩
  | 10,_=>exact⟨rfl,by decide⟩
  | 11,_=>exact⟨rfl,by decide⟩
  | 12,_=>exact⟨rfl,by decide⟩
  | 13,_=>exact⟨rfl,by decide⟩
theorem vD (s:ByteArray)(w:World)(h0:0<s.size)(hs:s.size<=2000)(hx:s.size<=1\/(1<s.size/\¬(s.extract 0 2).toList=[33,61]/\¬(s.extract 0 2).toList=[60,61]))(R:ByteArray)(hR:(∃i,i<14/\sgA i=(s[0]'h0).toNat)/\R=s.extract 0 1\/(∀ i,i<14->sgA i≠(s[0]'h0).toNat)/\R=⟨#[]⟩) :
  Calls Tryz.prog 127 #[.string s] w fun e w'=>e=.returned (.string R)/\Below w.heap.size w w':=by
 have HR:=Lib.hid hR;have hb:(s[0]'h0).toNat<256:=UInt8.toNat_lt _;have h0I:(0:Int)<(s.size:Int):=by omega
 have h1s:(1:Int)<=(s.size:Int):=by omega
 clear hR;rcases hx with hx|⟨hx0,hx1,hx2⟩
 ·have h1I:¬(1:Int)<(s.size:Int):=by omega
  go_enter Tryz.func127,Tryz.ntmps127;go_upto_region 4 with fail;obtain⟨A,hA⟩:∃A:ByteArray,A=⟨#[40,41,123,125,44,58,64,43,45,42,47,37,61,60]⟩:=⟨_,rfl⟩
  rw[<-hA];have hAs:A.size=14:=by rw[hA];rfl
  have HAA:Hid (∀ i (h:i<A.size),(A[i]).toNat=sgA i):=by
   intro i h;subst hA
   match i,h with
   | 0,_=>rfl
   | 1,_=>rfl
   | 2,_=>rfl
   | 3,_=>rfl
   | 4,_=>rfl
   | 5,_=>rfl
   | 6,_=>rfl
   | 7,_=>rfl
   | 8,_=>rfl
   | 9,_=>rfl
   | 10,_=>rfl
   | 11,_=>rfl
   | 12,_=>rfl
   | 13,_=>rfl
  clear hA;go_wp2_with fail;go_loopw [4] (fun v wr=>∃k m:Nat,v=.int .i64 (k:Nat)/\k<=14/\(∀ j,j<k->sgA j≠(s[0]'h0).toNat)/\wr=w.drewN m) (fun v _=>14-(intOf v).toNat)
  case atStart=>exact⟨0,0,by go_num,by omega,fun j h=>by omega,rfl⟩
  case round =>
   obtain⟨k,m,rfl,hk,hin,rfl⟩:=hrel;by_cases hlt:k<14
   ·have hkI:(k:Int)<14:=by omega
    have hkA:k<A.size:=by omega
    have hak:=HAA.out k hkA;by_cases he:sgA k=(s[0]'h0).toNat
    ·have hRR:R=s.extract 0 1:=by
      rcases HR.out with ⟨_,h⟩|⟨h,_⟩
      ·exact h
      ·exact absurd he (h k hlt)
     have HRR:=Lib.hid hRR;rw[he] at hak;clear hRR hin he;go_wp2
     go_quiet (fail)
     go_wp2;go_ret;exact⟨by rw[HRR.out];rfl,bdr (b0 _) _⟩
    ·have hakI:((A[k]'hkA).toNat:Int)≠((s[0]'h0).toNat:Int):=by omega
     have hakB:(((A[k]'hkA).toNat:Int)==((s[0]'h0).toNat:Int))=false:=by simpa using hakI
     have hakB2:((A[k]'hkA).toNat==(s[0]'h0).toNat)=false:=by simp;omega
     have RL:∀ j,j<k+1->sgA j≠(s[0]'h0).toNat:=fun j h=>by
      by_cases e:j=k
      ·subst e;exact he
      ·exact hin j (by omega)
     clear hin he hak;go_wp2
     go_quiet (fail)
     rename_i nq
     go_wp2;go_roundw
     case rel=>(try ((repeat apply Exists.intro);refine⟨?_,rfl⟩));exact⟨k+1,m+nq,by go_num,by omega,RL,by first|trivial|rw[World.drewN_drewN] | simp⟩
     case measure=>simp[intOf];omega
   ·obtain rfl:k=14:=by omega
    have hRR:R=⟨#[]⟩:=by
     rcases HR.out with ⟨⟨i,h1,h2⟩,_⟩|⟨_,h⟩
     ·exact absurd h2 (hin i h1)
     ·exact h
    have HRR:=Lib.hid hRR;clear hRR hin;go_wp2;go_ret;exact⟨by rw[HRR.out];rfl,bdr (b0 _) _⟩
 ·have h1I:(1:Int)<(s.size:Int):=by omega
  have h2I:(2:Int)<=(s.size:Int):=by omega
  have x1:((s.extract 0 2).toList==[33,61])=false:=beq_eq_false_iff_ne.2 hx1;have x2:((s.extract 0 2).toList==[60,61])=false:=beq_eq_false_iff_ne.2 hx2;go_enter Tryz.func127,Tryz.ntmps127;go_upto_region 4 with fail;obtain⟨A,hA⟩:∃A:ByteArray,A=⟨#[40,41,123,125,44,58,64,43,45,42,47,37,61,60]⟩:=⟨_,rfl⟩
  rw[<-hA];have hAs:A.size=14:=by rw[hA];rfl
  have HAA:Hid (∀ i (h:i<A.size),(A[i]).toNat=sgA i):=by
   intro i h;subst hA
   match i,h with
   | 0,_=>rfl
   | 1,_=>rfl
   | 2,_=>rfl
   | 3,_=>rfl
   | 4,_=>rfl
   | 5,_=>rfl
   | 6,_=>rfl
   | 7,_=>rfl
   | 8,_=>rfl
   | 9,_=>rfl
   | 10,_=>rfl
   | 11,_=>rfl
   | 12,_=>rfl
   | 13,_=>rfl
  clear hA;go_wp2_with fail;go_loopw [4] (fun v wr=>∃k m:Nat,v=.int .i64 (k:Nat)/\k<=14/\(∀ j,j<k->sgA j≠(s[0]'h0).toNat)/\wr=w.drewN m) (fun v _=>14-(intOf v).toNat)
  case atStart=>exact⟨0,0,by go_num,by omega,fun j h=>by omega,rfl⟩
  case round =>
   obtain⟨k,m,rfl,hk,hin,rfl⟩:=hrel;by_cases hlt:k<14
   ·have hkI:(k:Int)<14:=by omega
    have hkA:k<A.size:=by omega
    have hak:=HAA.out k hkA;by_cases he:sgA k=(s[0]'h0).toNat
    ·have hRR:R=s.extract 0 1:=by
      rcases HR.out with ⟨_,h⟩|⟨h,_⟩
      ·exact h
      ·exact absurd he (h k hlt)
     have HRR:=Lib.hid hRR;rw[he] at hak;clear hRR hin he;go_wp2
     go_quiet (fail)
     go_wp2;go_ret;exact⟨by rw[HRR.out];rfl,bdr (b0 _) _⟩
    ·have hakI:((A[k]'hkA).toNat:Int)≠((s[0]'h0).toNat:Int):=by omega
     have hakB:(((A[k]'hkA).toNat:Int)==((s[0]'h0).toNat:Int))=false:=by simpa using hakI
     have hakB2:((A[k]'hkA).toNat==(s[0]'h0).toNat)=false:=by simp;omega
     have RL:∀ j,j<k+1->sgA j≠(s[0]'h0).toNat:=fun j h=>by
      by_cases e:j=k
      ·subst e;exact he
      ·exact hin j (by omega)
     clear hin he hak;go_wp2
     go_quiet (fail)
     rename_i nq
     go_wp2;go_roundw
     case rel=>(try ((repeat apply Exists.intro);refine⟨?_,rfl⟩));exact⟨k+1,m+nq,by go_num,by omega,RL,by first|trivial|rw[World.drewN_drewN] | simp⟩
     case measure=>simp[intOf];omega
   ·obtain rfl:k=14:=by omega
    have hRR:R=⟨#[]⟩:=by
     rcases HR.out with ⟨⟨i,h1,h2⟩,_⟩|⟨_,h⟩
     ·exact absurd h2 (hin i h1)
     ·exact h
    have HRR:=Lib.hid hRR;clear hRR hin;go_wp2;go_ret;exact⟨by rw[HRR.out];rfl,bdr (b0 _) _⟩
theorem qv (s:ByteArray)(h:1<s.size):(s.extract 0 2).data.toList=[s[0],s[1]]:=by
 rw[wI];have hl:=bR s;have e:s.data.toList.take 2=[s.data.toList[0]'(by omega),s.data.toList[1]'(by omega)]:=by
  rw[List.take_add_one,List.take_add_one,List.take_zero,List.getElem?_eq_getElem (by omega),List.getElem?_eq_getElem (by omega)];rfl
 rw[e,bL s 0 (by omega),bL s 1 h]
theorem wk (s:ByteArray)(h:0<s.size):s.data.toList=s[0]::s.data.toList.drop 1:=by
 have hl:=bR s
 have:=jx s.data.toList 0 (by omega)
 rw[List.drop_zero,bL s 0 h] at this;exact this
theorem CW (s:ByteArray)(w:World)(h0:0<s.size)(hs:s.size<=2000) :
  Calls Tryz.prog 127 #[.string s] w fun e w'=>e=.returned (.string ⟨(eU s.data.toList).toArray⟩)/\Below w.heap.size w w':=by
 have hl:=bR s;have hcl:=wk s h0;by_cases h2:1<s.size/\((s[0]'h0).toNat=33\/(s[0]'h0).toNat=60)/\(s.data.toList.drop 1).head?=some 61
 ·obtain⟨h1,h3,h4⟩:=h2;have hu:eU s.data.toList=[s[0],61]:=by
   rw[hcl];unfold eU;simp only;rw[if_pos ⟨h3,h4⟩]
  have h5:s[1]'h1=61:=by
   rw[List.head?_drop,List.getElem?_eq_getElem (by omega),bL s 1 h1] at h4;injection h4
  have htl:=qv s h1;rw[h5] at htl;have hR:s.extract 0 2=⟨(eU s.data.toList).toArray⟩:=by
   rw[hu,<-htl,nj]
  have HR:=Lib.hid hR;have h1I:(1:Int)<(s.size:Int):=by omega
  have h2I:(2:Int)<=(s.size:Int):=by omega
  rcases h3 with h3|h3
  ·have hc:s[0]'h0=33:=UInt8.toNat.inj h3;rw[hc] at htl;have hA:(s.extract 0 2).toList=[33,61]:=by rw[ByteArray.toList_eq];exact htl
   clear hcl hu hR htl hl hc h3 h4 h5;go_enter Tryz.func127,Tryz.ntmps127;go_wp2;go_ret;exact⟨by rw[<-HR.out];rfl,b0 _⟩
  ·have hc:s[0]'h0=60:=UInt8.toNat.inj h3;rw[hc] at htl;have hA:(s.extract 0 2).toList=[60,61]:=by rw[ByteArray.toList_eq];exact htl
   clear hcl hu hR htl hl hc h3 h4 h5;go_enter Tryz.func127,Tryz.ntmps127;go_wp2;go_ret;exact⟨by rw[<-HR.out];rfl,b0 _⟩
 ·refine vD s w h0 hs ?_ _ ?_
  ·by_cases h1:1<s.size
   ·right
    have htl:=qv s h1;have hh:(s.data.toList.drop 1).head?=some s[1]:=by rw[List.head?_drop,List.getElem?_eq_getElem (by omega),bL s 1 h1]
    refine⟨h1,?_,?_⟩
    ·intro e;rw[ByteArray.toList_eq,htl] at e;injection e with e1 e2
     injection e2 with e2 _
     exact h2 ⟨h1,.inl (by rw[e1];rfl),by rw[hh,e2]⟩
    ·intro e;rw[ByteArray.toList_eq,htl] at e;injection e with e1 e2
     injection e2 with e2 _
     exact h2 ⟨h1,.inr (by rw[e1];rfl),by rw[hh,e2]⟩
   ·left
    omega
  ·have hu:eU s.data.toList=if sgn (s[0]'h0).toNat=true/\(s[0]'h0).toNat≠33 then [s[0]] else []:=by
    rw[hcl];unfold eU;simp only;rw[if_neg];rintro ⟨h3,h4⟩;refine h2 ⟨?_,h3,h4⟩;rw[List.head?_drop] at h4;by_cases h1:1<s.size
    ·exact h1
    ·rw[List.getElem?_eq_none (by omega)] at h4;cases h4
   by_cases h3:sgn (s[0]'h0).toNat=true/\(s[0]'h0).toNat≠33
   ·left
    rw[hu,if_pos h3];refine⟨(tI _).1 h3,?_⟩;rw[qZ,hcl];rfl
   ·right
    rw[hu,if_neg h3];refine⟨fun i hi e=>h3 ((tI _).2 ⟨i,hi,e⟩),rfl⟩
def cU (l:List UInt8)(at0:Nat)(e:Ending):Prop :=
 (∃er:Nat,e=.returned (.tuple #[.agg #[.int .i64 0,.int .i64 0,.string ⟨#[]⟩,.int .i64 0],.int .i64 0,.int .i64 (er:Nat)])/\bN 0 [] at0 at0 (l.drop at0)=.inl (er,at0)/\er≠0) \/
 (∃(x:Tk) (nx:Nat),e=.returned (.tuple #[.agg (tka x),.int .i64 (nx:Nat),.int .i64 0])/\at0<nx/\nx<=l.length/\bN 0 [] at0 at0 (l.drop at0)=iU x (bN 0 [] nx nx (l.drop nx)))
theorem dr {fn:Func}{p u v:Tmp}(h:fn.results=#[.cell p 73,.tmp u,.tmp v])(tmps:Array Value)(w:World)(g:Nat)(v0 v1 v2 v3:Value)(t:TypeId)(fr:Nat × Nat)
  (hp:tmps.getD p undef=.pointer (some ⟨g,0,none⟩)) (hg:w.heap[g]?=some (.cells #[v0,v1,v2,v3] t fr)) :
  (results fn tmps).run Tryz.prog w=.ok (.tuple #[.agg #[v0,v1,v2,v3],tmps.getD u undef,tmps.getD v undef]) w:=by
 have hl:=run_loadVar_row (P:=Tryz.prog) w g t 73 #[v0,v1,v2,v3] fr _ hg Tryz.underlying73 rfl (by kernel_rfl);have hp':tmps[p]?.getD undef=.pointer (some ⟨g,0,none⟩):=by simpa using hp
 simp[results,h,hp',asAddr,hl,Result.andThen]
theorem nR {w w1:World}{A:Obj}(h:Below (w.alloc A).heap.size (w.alloc A) w1):w1.heap[w.heap.size]?=some A/\Below w.heap.size w w1:=by
 refine⟨?_,(b1 _ _).trans (h.mono (by simp))⟩;rw[h.block _ (by simp)];exact heap_alloc_new _ _
end Go.Proofs.YtbjdkekhnajafaaGreatDoor

import Derived.Test.YtdhhnhjolmnkjabDoorNamC
import Derived.Lib.Hide
import Derived.Lib.LaidTab
set_option maxRecDepth 100000
set_option maxHeartbeats 8000000
namespace Go.Proofs.YtdhhnhjolmnkjabDoor
open Go.RowKit
set_option linter.unusedVariables false
structure Cd where
 ws:List Int
 cs:List Int
 ns:List ByteArray
 ks:List Int
abbrev opW (u:Int):Int:=u / 72057594037927936
abbrev aW (u:Int):Int:=u / 268435456 % 268435456
abbrev bW (u:Int):Int:=u % 268435456
abbrev within (a:Int)(n:Nat):Bool:=decide (0<=a)&&decide (a<(n:Int))
def wrdD (c:Cd)(o a b:Int):Bool :=
 if o=1 then within a c.cs.length&&(decide (b=1)||(decide (b=2)&&within (c.cs.getD a.toNat 0) 2))
 else if o=2 then within a c.cs.length&&decide (0<=c.cs.getD a.toNat 0)&&decide (b=0)
 else if o=3 then decide (a<=3)&&decide (b=0)
 else if o=11 then decide (a=0)&&(decide (1<=b)&&decide (b<=3))
 else if o=12 then decide (a=0)&&decide (b<=1)
 else if o=13\/o=14\/o=15\/o=24 then decide (b=0)
 else if o=16 then decide (1<=a)&&decide (a<=10)&&decide (b=0)
 else if o=17 then within a c.ks.length
 else if o=18\/o=19 then within a c.ks.length&&decide (b=0)
 else if o=21 then within a c.ns.length&&decide (b=0)
 else if o=23 then decide (a<=1024)&&decide (b=0)
 else if o=26 then decide (a<=1)&&decide (b=0)
 else decide (o<28)&&decide (a=0)&&decide (b=0)
def spn (c:Cd)(t:Nat):Int × Int :=
 match t with
 | 1=>(0,268435455)
 | 2=>(0,1)
 | 3=>(0,3)
 | 4=>(1,10)
 | 5=>(0,1024)
 | 6=>(1,2)
 | 7=>(1,3)
 | 8=>(0,(c.cs.length:Int)-1)
 | 9=>(0,(c.ns.length:Int)-1)
 | 10=>(0,(c.ks.length:Int)-1)
 | _=>(0,0)
def mayB (c:Cd)(t:Nat)(n:Int):Bool:=decide ((spn c t).1<=n)&&decide (n<=(spn c t).2)
def rulA:List Nat:=[0,8,8,3,0,0,0,0,0,0,0,0,0,1,1,1,4,10,10,10,0,9,0,5,1,0,2,0]
def rulB:List Nat:=[0,6,0,0,0,0,0,0,0,0,0,7,2,0,0,0,0,1,0,0,0,0,0,0,0,0,0,0]
def wrdP (c:Cd)(o a b:Int):Bool :=
 decide (o<28)&&mayB c (rulA.getD o.toNat 0) a&&mayB c (rulB.getD o.toNat 0) b &&
  (if o=1/\b=2 then mayB c 2 (c.cs.getD a.toNat 0) else if o=2 then decide (0<=c.cs.getD a.toNat 0) else true)
theorem wrd_same (c:Cd)(o a b:Int)(h0:0<=o)(h1:0<=a)(h2:a<268435456)(h3:0<=b)(h4:b<268435456):wrdP c o a b=wrdD c o a b:=by
 by_cases h28:o<28
 ·obtain⟨n,rfl⟩:=Int.eq_ofNat_of_zero_le h0;have hn:n<28:=by omega
  rw[Bool.eq_iff_iff]
  match n,hn with
  | 0,_ | 1,_ | 2,_ | 3,_ | 4,_ | 5,_ | 6,_ | 7,_ | 8,_ | 9,_ | 10,_ | 11,_ | 12,_ | 13,_ | 14,_ | 15,_ | 16,_ | 17,_ | 18,_ | 19,_ | 20,_ | 21,_ | 22,_ | 23,_ | 24,_ | 25,_ | 26,_ | 27,_ =>
   simp[wrdP,wrdD,mayB,rulA,rulB,spn];try split
   all_goals omega
 ·have e:wrdP c o a b=false:=by simp[wrdP,h28]
  rw[e];have hh:∀ k:Int,k<28->¬o=k:=fun k hk e=>by omega
  simp[wrdD,hh,h28]
def wrdB (c:Cd)(u:Int):Bool:=wrdD c (opW u) (aW u) (bW u)
def kndB (k:Int):Bool:=decide (1<=k)&&decide (k<=3)
def lenB (c:Cd):Bool:=decide (c.cs.length<=32768)&&decide (c.ns.length<=2000)&&decide (c.ks.length<=256)
def lstB (c:Cd):Bool:=lenB c&&c.ns.all (fun s=>nameB s.data.toList)&&c.ks.all kndB
def wdsB (c:Cd):Bool:=decide (0<c.ws.length)&&decide (c.ws.length<=32768)&&c.ws.all (wrdB c)
def rgtB (c:Cd):Bool:=lstB c&&wdsB c
structure Cd.Ok (c:Cd):Prop where
 ws:∀ u ∈ c.ws,0<=u/\u<18446744073709551616
 cs:∀ u ∈ c.cs,-9223372036854775808<=u/\u<=9223372036854775807
 ks:∀ u ∈ c.ks,-9223372036854775808<=u/\u<=9223372036854775807
 ns:∀ s ∈ c.ns,s.size<=maxLen
def lst {α:Type}(f:α->List UInt8)(l:List α):List UInt8:=sevs (l.length:Int)++(l.map f).flatten
def conB (n:Int):List UInt8:=sevs (zg n)
def namB (s:ByteArray):List UInt8:=sevs (s.size:Int)++s.data.toList
def bodB (c:Cd):List UInt8:=[73,67,49]++lst sevs c.ws++lst conB c.cs++lst namB c.ns++lst sevs c.ks
def stir (h:Int)(l:List UInt8):Int:=l.foldl (fun h b=>mx h (zg (b.toNat:Int))) h
def sumB (l:List UInt8):Int:=stir 0 l
def selB (h:Int):List UInt8:=(List.range 8).map fun i=>UInt8.ofNat (h.toNat / 256 ^ i)
def sldB (l:List UInt8):List UInt8:=l++selB (sumB l)
def encB (c:Cd):List UInt8:=sldB (bodB c)
theorem stir_bd (l:List UInt8):∀ h:Int,0<=h->h<18446744073709551616->0<=stir h l/\stir h l<18446744073709551616:=by
 induction l with
 | nil=>intro h h1 h2;exact⟨h1,h2⟩
 | cons b t ih=>intro h h1 h2;have:=mx_bd h (zg (b.toNat:Int));exact ih _ this.1 this.2
theorem sumB_bd (l:List UInt8):0<=sumB l/\sumB l<18446744073709551616:=stir_bd l 0 (by omega) (by omega)
theorem stir_snoc (h:Int)(l:List UInt8)(b:UInt8):stir h (l++[b])=mx (stir h l) (zg (b.toNat:Int)):=by
 simp[stir,List.foldl_append]
theorem selB_len (h:Int):(selB h).length=8:=by simp[selB]
theorem sldB_len (l:List UInt8):(sldB l).length=l.length+8:=by simp[sldB,selB_len]
theorem tk_ten (l:List UInt8):∀ i acc:Nat,i<=9->tk (l.take (10-i)) i acc=tk l i acc:=by
 induction l with
 | nil=>intro i acc _;simp
 | cons c t ih =>
  intro i acc hi;have e:(c::t).take (10-i)=c::t.take (9-i):=by rw[show 10-i=(9-i)+1 by omega,List.take_succ_cons]
  rw[e,tk,tk];by_cases h9:i=9
  ·subst h9;by_cases hc:1<c.toNat
   ·simp[hc]
   ·have:¬128<=c.toNat:=by omega
    simp[hc,this]
  ·have h:¬(i=9/\1<c.toNat):=by omega
   rw[if_neg h,if_neg h];by_cases h8:128<=c.toNat
   ·rw[if_pos h8,if_pos h8,<-ih (i+1) _ (by omega),show 10-(i+1)=9-i by omega]
   ·rw[if_neg h8,if_neg h8]
def numR (l:List UInt8):Option (Nat × List UInt8):=if (tk l 0 0).2.2=0 then some ((tk l 0 0).1,l.drop (tk l 0 0).2.1) else none
theorem numR_back {l r:List UInt8}{n:Nat}(h:numR l=some (n,r)):l=sevs (n:Int)++r/\n<18446744073709551616:=by
 unfold numR at h;split at h
 ·rename_i h0
  obtain⟨N,K,E⟩:∃N K,tk l 0 0=(N,K,0):=⟨(tk l 0 0).1,(tk l 0 0).2.1,by have e:tk l 0 0=((tk l 0 0).1,(tk l 0 0).2.1,(tk l 0 0).2.2):=rfl;rw[h0] at e;exact e⟩
  rw[E] at h;simp only[Option.some.injEq,Prod.mk.injEq] at h;obtain⟨rfl,rfl⟩:=h;obtain⟨_,_,_,h4,h5,_⟩:=tk_back0 l N K E;exact⟨by rw[h5,List.take_append_drop],h4⟩
 ·cases h
theorem numR_put (n:Nat)(r:List UInt8)(h:n<18446744073709551616):numR (sevs (n:Int)++r)=some (n,r):=by
 have e:=tk_sevs (n:Int) r (by omega) (by omega);unfold numR;rw[e];simp
theorem numR_putI (u:Int)(r:List UInt8)(h:0<=u)(h2:u<18446744073709551616):numR (sevs u++r)=some (u.toNat,r):=by
 obtain⟨n,rfl⟩:=Int.eq_ofNat_of_zero_le h;exact numR_put n r (by omega)
def cntR (most:Nat)(l:List UInt8):Option (Nat × List UInt8):=(numR l).bind fun x=>if x.1<=most then some x else none
def rdN {α:Type}(one:List UInt8->Option (α × List UInt8)):Nat->List UInt8->Option (List α × List UInt8)
 | 0,l=>some ([],l)
 | n+1,l=>(one l).bind fun x=>(rdN one n x.2).bind fun y=>some (x.1::y.1,y.2)
def rdL {α:Type}(most:Nat)(one:List UInt8->Option (α × List UInt8))(l:List UInt8):Option (List α × List UInt8):=(cntR most l).bind fun x=>rdN one x.1 x.2
def wrdR (l:List UInt8):Option (Int × List UInt8):=(numR l).map fun x=>((x.1:Int),x.2)
def conR (l:List UInt8):Option (Int × List UInt8):=(numR l).map fun x=>(zgb (x.1:Int),x.2)
def kndR (mk:Nat)(l:List UInt8):Option (Int × List UInt8):=(cntR mk l).map fun x=>((x.1:Int),x.2)
def takR (n:Nat)(l:List UInt8):Option (List UInt8 × List UInt8):=if n<=l.length then some (l.take n,l.drop n) else none
def namR (mn:Nat)(l:List UInt8):Option (ByteArray × List UInt8):=(cntR mn l).bind fun x=>(takR x.1 x.2).map fun y=>(⟨y.1.toArray⟩,y.2)
def rdC (mn mk:Nat)(l:List UInt8):Option (Cd × List UInt8) :=
 (takR 3 l).bind fun m=>if m.1=[73,67,49] then
  (rdL 32768 wrdR m.2).bind fun a=>(rdL 32768 conR a.2).bind fun b=>(rdL 2000 (namR mn) b.2).bind fun c=>(rdL 256 (kndR mk) c.2).map fun d=>(⟨a.1,b.1,c.1,d.1⟩,d.2)
 else none
structure Fits {α:Type}(one:List UInt8->Option (α × List UInt8))(f:α->List UInt8)(ok:α->Prop):Prop where
 back:∀ l x r,one l=some (x,r)->l=f x++r
 put:∀ x r,ok x->one (f x++r)=some (x,r)
theorem cntR_back {most:Nat}{l r:List UInt8}{n:Nat}(h:cntR most l=some (n,r)):l=sevs (n:Int)++r/\n<=most:=by
 unfold cntR at h;cases hn:numR l with
 | none=>rw[hn] at h;cases h
 | some x =>
  rw[hn] at h;simp only[Option.bind_some] at h;split at h
  ·cases h;exact⟨(numR_back hn).1,by assumption⟩
  ·cases h
theorem cntR_put (most n:Nat)(r:List UInt8)(h:n<=most)(hm:most<18446744073709551616):cntR most (sevs (n:Int)++r)=some (n,r):=by
 unfold cntR;rw[numR_put n r (by omega)];simp[h]
theorem rdN_back {α:Type}{one:List UInt8->Option (α × List UInt8)}{f:α->List UInt8}{ok:α->Prop}(F:Fits one f ok)(n:Nat) :
  ∀ l xs r,rdN one n l=some (xs,r)->l=(xs.map f).flatten++r/\xs.length=n:=by
 induction n with
 | zero=>intro l xs r h;simp[rdN] at h;obtain⟨rfl,rfl⟩:=h;exact⟨rfl,rfl⟩
 | succ n ih =>
  intro l xs r h;rw[rdN] at h;cases h1:one l with
  | none=>rw[h1] at h;cases h
  | some x =>
   obtain⟨x,l1⟩:=x;rw[h1] at h;simp only[Option.bind_some] at h;cases h2:rdN one n l1 with
   | none=>rw[h2] at h;cases h
   | some y =>
    obtain⟨y,l2⟩:=y;rw[h2] at h;simp only[Option.bind_some,Option.some.injEq,Prod.mk.injEq] at h;obtain⟨rfl,rfl⟩:=h;obtain⟨e1,e2⟩:=ih _ _ _ h2;refine⟨?_,by simp[e2]⟩;rw[F.back _ _ _ h1,e1];simp
theorem rdN_put {α:Type}{one:List UInt8->Option (α × List UInt8)}{f:α->List UInt8}{ok:α->Prop}(F:Fits one f ok)(xs:List α) :
  ∀ r,(∀ x ∈ xs,ok x)->rdN one xs.length ((xs.map f).flatten++r)=some (xs,r):=by
 induction xs with
 | nil=>intro r _;rfl
 | cons x t ih =>
  intro r h;have hx:=F.put x ((t.map f).flatten++r) (h x (List.mem_cons_self ..));have ht:=ih r (fun y hy=>h y (List.mem_cons_of_mem _ hy));simp only[List.map_cons,List.flatten_cons,List.length_cons,List.append_assoc];rw[rdN,hx];simp only[Option.bind_some];rw[ht];rfl
theorem rdL_back {α:Type}{one:List UInt8->Option (α × List UInt8)}{f:α->List UInt8}{ok:α->Prop}(F:Fits one f ok){most:Nat}{l r:List UInt8}{xs:List α}
  (h:rdL most one l=some (xs,r)):l=lst f xs++r:=by
 unfold rdL at h;cases hc:cntR most l with
 | none=>rw[hc] at h;cases h
 | some x =>
  obtain⟨n,l1⟩:=x;rw[hc] at h;simp only[Option.bind_some] at h;obtain⟨e1,e2⟩:=rdN_back F _ _ _ _ h;rw[(cntR_back hc).1,e1,<-e2,lst,List.append_assoc]
theorem rdL_put {α:Type}{one:List UInt8->Option (α × List UInt8)}{f:α->List UInt8}{ok:α->Prop}(F:Fits one f ok){most:Nat}(xs:List α)(r:List UInt8)
  (hm:xs.length<=most) (h2:most<18446744073709551616) (h:∀ x ∈ xs,ok x):rdL most one (lst f xs++r)=some (xs,r):=by
 unfold rdL lst;rw[List.append_assoc,cntR_put most xs.length _ hm h2];simp only[Option.bind_some];exact rdN_put F xs r h
theorem fits_wrd:Fits wrdR sevs (fun u=>0<=u/\u<18446744073709551616):=by
 constructor
 ·intro l x r h;unfold wrdR at h;cases hn:numR l with
  | none=>rw[hn] at h;cases h
  | some y=>rw[hn] at h;cases h;exact(numR_back hn).1
 ·intro x r h;unfold wrdR;rw[numR_putI x r h.1 h.2];simp only[Option.map_some,Option.some.injEq,Prod.mk.injEq,and_true];omega
theorem fits_con:Fits conR conB (fun u=>-9223372036854775808<=u/\u<=9223372036854775807):=by
 constructor
 ·intro l x r h;unfold conR at h;cases hn:numR l with
  | none=>rw[hn] at h;cases h
  | some y=>rw[hn] at h;cases h;rw[(numR_back hn).1,conB,zg_zgb _ (by omega)]
 ·intro x r h;have b:=zg_bd x h.1 h.2;unfold conR conB;rw[numR_putI _ r b.1 b.2];simp only[Option.map_some,Option.some.injEq,Prod.mk.injEq,and_true];rw[Int.toNat_of_nonneg b.1,zgb_zg]
theorem fits_knd (mk:Nat)(h3:mk<18446744073709551616):Fits (kndR mk) sevs (fun u=>0<=u/\u<=(mk:Int)):=by
 constructor
 ·intro l x r h;unfold kndR at h;cases hn:cntR mk l with
  | none=>rw[hn] at h;cases h
  | some y=>rw[hn] at h;cases h;exact(cntR_back hn).1
 ·intro x r h;obtain⟨n,rfl⟩:=Int.eq_ofNat_of_zero_le h.1;unfold kndR;rw[cntR_put mk n r (by omega) h3];rfl
theorem fits_nam (mn:Nat)(h3:mn<18446744073709551616):Fits (namR mn) namB (fun s=>s.size<=mn):=by
 constructor
 ·intro l x r h;unfold namR at h;cases hn:cntR mn l with
  | none=>rw[hn] at h;cases h
  | some y =>
   obtain⟨n,l1⟩:=y;rw[hn] at h;simp only[Option.bind_some,takR] at h;split at h
   ·rename_i hle
    simp only[Option.map_some,Option.some.injEq,Prod.mk.injEq] at h;obtain⟨rfl,rfl⟩:=h;have e:(⟨(l1.take n).toArray⟩:ByteArray).size=n:=by show (l1.take n).toArray.size=n;simp;omega
    rw[(cntR_back hn).1,namB,e];simp
   ·cases h
 ·intro x r h;have hl:x.data.toList.length=x.size:=Array.length_toList;unfold namR namB;rw[List.append_assoc,cntR_put mn x.size _ h h3];have e1:(x.data.toList++r).take x.size=x.data.toList:=by rw[<-hl,List.take_left'];rfl
  have e2:(x.data.toList++r).drop x.size=r:=by rw[<-hl,List.drop_left'];rfl
  simp only[Option.bind_some,takR];rw[if_pos (by simp),e1,e2];rfl
theorem rdC_back {mn mk:Nat}(hn:mn<18446744073709551616)(hk:mk<18446744073709551616){l r:List UInt8}{c:Cd}(h:rdC mn mk l=some (c,r)):l=bodB c++r:=by
 unfold rdC at h;cases h0:takR 3 l with
 | none=>rw[h0] at h;cases h
 | some m =>
  obtain⟨m,l0⟩:=m;rw[h0] at h;simp only[Option.bind_some] at h;split at h
  ·rename_i hm
   cases h1:rdL 32768 wrdR l0 with
   | none=>rw[h1] at h;cases h
   | some a =>
    obtain⟨a,l1⟩:=a;rw[h1] at h;simp only[Option.bind_some] at h;cases h2:rdL 32768 conR l1 with
    | none=>rw[h2] at h;cases h
    | some b =>
     obtain⟨b,l2⟩:=b;rw[h2] at h;simp only[Option.bind_some] at h;cases h3:rdL 2000 (namR mn) l2 with
     | none=>rw[h3] at h;cases h
     | some n =>
      obtain⟨n,l3⟩:=n;rw[h3] at h;simp only[Option.bind_some] at h;cases h4:rdL 256 (kndR mk) l3 with
      | none=>rw[h4] at h;cases h
      | some d =>
       obtain⟨d,l4⟩:=d;rw[h4] at h;simp only[Option.map_some,Option.some.injEq,Prod.mk.injEq] at h;obtain⟨rfl,rfl⟩:=h;unfold takR at h0;split at h0
       ·simp only[Option.some.injEq,Prod.mk.injEq] at h0;obtain⟨g1,g2⟩:=h0;have e:l=m++l0:=by rw[<-g1,<-g2,List.take_append_drop]
        rw[e,hm,rdL_back fits_wrd h1,rdL_back fits_con h2,rdL_back (fits_nam mn hn) h3,rdL_back (fits_knd mk hk) h4];simp[bodB]
       ·cases h0
  ·cases h
theorem rgt_lens {c:Cd}(h:rgtB c=true):0<c.ws.length/\c.ws.length<=32768/\c.cs.length<=32768/\c.ns.length<=2000/\c.ks.length<=256:=by
 simp only[rgtB,lstB,lenB,wdsB,Bool.and_eq_true,decide_eq_true_eq] at h;omega
theorem rgt_names {c:Cd}(h:rgtB c=true):∀ s ∈ c.ns,s.size<=12:=by
 simp only[rgtB,lstB,wdsB,Bool.and_eq_true,List.all_eq_true] at h;intro s hs;have hn:=h.1.1.2 s hs;have hl:s.data.toList.length=s.size:=Array.length_toList;unfold nameB at hn;split at hn
 ·cases hn
 ·rename_i hx
  simp only[Bool.and_eq_true,decide_eq_true_eq] at hn;rw[hx] at hl;simp at hl;omega
theorem rgt_kinds {c:Cd}(h:rgtB c=true):∀ k ∈ c.ks,1<=k/\k<=3:=by
 simp only[rgtB,lstB,wdsB,Bool.and_eq_true,List.all_eq_true] at h;intro k hk
 have:=h.1.2 k hk
 simpa [kndB] using this
theorem rdC_put {mn mk:Nat}(hn:mn<18446744073709551616)(hk:mk<18446744073709551616)(hn2:12<=mn)(hk2:3<=mk)(c:Cd)(r:List UInt8)(ho:c.Ok)(h:rgtB c=true):rdC mn mk (bodB c++r)=some (c,r):=by
 obtain⟨l0,l1,l2,l3,l4⟩:=rgt_lens h;have hns:=rgt_names h;have hks:=rgt_kinds h;unfold rdC bodB;have e:takR 3 ([73,67,49]++lst sevs c.ws++lst conB c.cs++lst namB c.ns++lst sevs c.ks++r)=some ([73,67,49],lst sevs c.ws++(lst conB c.cs++(lst namB c.ns++(lst sevs c.ks++r)))):=by
  unfold takR;rw[if_pos (by simp)];simp
 rw[e];simp only[Option.bind_some];rw[if_pos trivial,rdL_put fits_wrd c.ws _ (by omega) (by omega) ho.ws];simp only[Option.bind_some];rw[rdL_put fits_con c.cs _ (by omega) (by omega) ho.cs];simp only[Option.bind_some];rw[rdL_put (fits_nam mn hn) c.ns _ (by omega) (by omega) (fun s hs=>by have:=hns s hs;omega)];simp only[Option.bind_some];rw[rdL_put (fits_knd mk hk) c.ks _ (by omega) (by omega) (fun s hs=>by have:=hks s hs;omega)];rfl
def IsE (l:List UInt8)(c:Cd):Prop:=c.Ok/\rgtB c=true/\encB c=l
theorem IsE.read {l:List UInt8}{c:Cd}(h:IsE l c){mn mk:Nat}(hn:mn<18446744073709551616)(hk:mk<18446744073709551616)(hn2:12<=mn)(hk2:3<=mk):rdC mn mk l=some (c,selB (sumB (bodB c))):=by
 rw[<-h.2.2];exact rdC_put hn hk hn2 hk2 c _ h.1 h.2.1
theorem IsE.uniq {l:List UInt8}{c d:Cd}(h:IsE l c)(g:IsE l d):c=d:=by
 have a:=h.read (mn:=12) (mk:=3) (by omega) (by omega) (by omega) (by omega);have b:=g.read (mn:=12) (mk:=3) (by omega) (by omega) (by omega) (by omega);rw[a] at b;simp only[Option.some.injEq,Prod.mk.injEq] at b;exact b.1
open Go.ChangeShapes Go.WideShapes Go.ChangeAt Go.RowKit
def wd (k:Nat):ByteArray:=⟨(wordsL.getD k []).toArray⟩
def wordsA:Array Value:=#[.string (wd 0),.string (wd 1),.string (wd 2),.string (wd 3),.string (wd 4),.string (wd 5),.string (wd 6),.string (wd 7),.string (wd 8),.string (wd 9),.string (wd 10),.string (wd 11),.string (wd 12),.string (wd 13),.string (wd 14),.string (wd 15),.string (wd 16),.string (wd 17),.string (wd 18),.string (wd 19),.string (wd 20),.string (wd 21),.string (wd 22),.string (wd 23),.string (wd 24),.string (wd 25),.string (wd 26)]
theorem wix0 (w:World):(Instr.index 85 (.agg wordsA) (.int .i64 0)).run Tryd.prog w=.ok (.string (wd 0)) w:=by kernel_rfl
theorem wix1 (w:World):(Instr.index 85 (.agg wordsA) (.int .i64 1)).run Tryd.prog w=.ok (.string (wd 1)) w:=by kernel_rfl
theorem wix2 (w:World):(Instr.index 85 (.agg wordsA) (.int .i64 2)).run Tryd.prog w=.ok (.string (wd 2)) w:=by kernel_rfl
theorem wix3 (w:World):(Instr.index 85 (.agg wordsA) (.int .i64 3)).run Tryd.prog w=.ok (.string (wd 3)) w:=by kernel_rfl
theorem wix4 (w:World):(Instr.index 85 (.agg wordsA) (.int .i64 4)).run Tryd.prog w=.ok (.string (wd 4)) w:=by kernel_rfl
theorem wix5 (w:World):(Instr.index 85 (.agg wordsA) (.int .i64 5)).run Tryd.prog w=.ok (.string (wd 5)) w:=by kernel_rfl
theorem wix6 (w:World):(Instr.index 85 (.agg wordsA) (.int .i64 6)).run Tryd.prog w=.ok (.string (wd 6)) w:=by kernel_rfl
theorem wix7 (w:World):(Instr.index 85 (.agg wordsA) (.int .i64 7)).run Tryd.prog w=.ok (.string (wd 7)) w:=by kernel_rfl
theorem wix8 (w:World):(Instr.index 85 (.agg wordsA) (.int .i64 8)).run Tryd.prog w=.ok (.string (wd 8)) w:=by kernel_rfl
theorem wix9 (w:World):(Instr.index 85 (.agg wordsA) (.int .i64 9)).run Tryd.prog w=.ok (.string (wd 9)) w:=by kernel_rfl
theorem wix10 (w:World):(Instr.index 85 (.agg wordsA) (.int .i64 10)).run Tryd.prog w=.ok (.string (wd 10)) w:=by kernel_rfl
theorem wix11 (w:World):(Instr.index 85 (.agg wordsA) (.int .i64 11)).run Tryd.prog w=.ok (.string (wd 11)) w:=by kernel_rfl
theorem wix12 (w:World):(Instr.index 85 (.agg wordsA) (.int .i64 12)).run Tryd.prog w=.ok (.string (wd 12)) w:=by kernel_rfl
theorem wix13 (w:World):(Instr.index 85 (.agg wordsA) (.int .i64 13)).run Tryd.prog w=.ok (.string (wd 13)) w:=by kernel_rfl
theorem wix14 (w:World):(Instr.index 85 (.agg wordsA) (.int .i64 14)).run Tryd.prog w=.ok (.string (wd 14)) w:=by kernel_rfl
theorem wix15 (w:World):(Instr.index 85 (.agg wordsA) (.int .i64 15)).run Tryd.prog w=.ok (.string (wd 15)) w:=by kernel_rfl
theorem wix16 (w:World):(Instr.index 85 (.agg wordsA) (.int .i64 16)).run Tryd.prog w=.ok (.string (wd 16)) w:=by kernel_rfl
theorem wix17 (w:World):(Instr.index 85 (.agg wordsA) (.int .i64 17)).run Tryd.prog w=.ok (.string (wd 17)) w:=by kernel_rfl
theorem wix18 (w:World):(Instr.index 85 (.agg wordsA) (.int .i64 18)).run Tryd.prog w=.ok (.string (wd 18)) w:=by kernel_rfl
theorem wix19 (w:World):(Instr.index 85 (.agg wordsA) (.int .i64 19)).run Tryd.prog w=.ok (.string (wd 19)) w:=by kernel_rfl
theorem wix20 (w:World):(Instr.index 85 (.agg wordsA) (.int .i64 20)).run Tryd.prog w=.ok (.string (wd 20)) w:=by kernel_rfl
theorem wix21 (w:World):(Instr.index 85 (.agg wordsA) (.int .i64 21)).run Tryd.prog w=.ok (.string (wd 21)) w:=by kernel_rfl
theorem wix22 (w:World):(Instr.index 85 (.agg wordsA) (.int .i64 22)).run Tryd.prog w=.ok (.string (wd 22)) w:=by kernel_rfl
theorem wix23 (w:World):(Instr.index 85 (.agg wordsA) (.int .i64 23)).run Tryd.prog w=.ok (.string (wd 23)) w:=by kernel_rfl
theorem wix24 (w:World):(Instr.index 85 (.agg wordsA) (.int .i64 24)).run Tryd.prog w=.ok (.string (wd 24)) w:=by kernel_rfl
theorem wix25 (w:World):(Instr.index 85 (.agg wordsA) (.int .i64 25)).run Tryd.prog w=.ok (.string (wd 25)) w:=by kernel_rfl
theorem wix26 (w:World):(Instr.index 85 (.agg wordsA) (.int .i64 26)).run Tryd.prog w=.ok (.string (wd 26)) w:=by kernel_rfl
theorem wordsA_at (k:Nat)(hk:k<27)(w:World):(Instr.index 85 (.agg wordsA) (.int .i64 (k:Nat))).run Tryd.prog w=.ok (.string (wd k)) w:=by
 match k,hk with
 | 0,_=>exact wix0 w
 | 1,_=>exact wix1 w
 | 2,_=>exact wix2 w
 | 3,_=>exact wix3 w
 | 4,_=>exact wix4 w
 | 5,_=>exact wix5 w
 | 6,_=>exact wix6 w
 | 7,_=>exact wix7 w
 | 8,_=>exact wix8 w
 | 9,_=>exact wix9 w
 | 10,_=>exact wix10 w
 | 11,_=>exact wix11 w
 | 12,_=>exact wix12 w
 | 13,_=>exact wix13 w
 | 14,_=>exact wix14 w
 | 15,_=>exact wix15 w
 | 16,_=>exact wix16 w
 | 17,_=>exact wix17 w
 | 18,_=>exact wix18 w
 | 19,_=>exact wix19 w
 | 20,_=>exact wix20 w
 | 21,_=>exact wix21 w
 | 22,_=>exact wix22 w
 | 23,_=>exact wix23 w
 | 24,_=>exact wix24 w
 | 25,_=>exact wix25 w
 | 26,_=>exact wix26 w
 | n+27,h=>omega
def Wd (w:World):Prop:=∃t fr,w.heap[1]?=some (.cells wordsA t fr)
theorem Wd.lt {w:World}(h:Wd w):1<w.heap.size:=by
 obtain⟨t,fr,h⟩:=h;exact lt_of_block h
theorem Wd.below {w w':World}(h:Wd w)(b:Below w.heap.size w w'):Wd w':=by
 have hl:=h.lt;obtain⟨t,fr,h⟩:=h;exact⟨t,fr,(b.block _ hl).trans h⟩
theorem wordB_yes {t:List UInt8}(k:Nat)(hk:k<27)(h:t=wordsL.getD k []):wordB t=true:=by
 subst h;have hl:wordsL.length=27:=rfl;unfold wordB;rw[List.contains_iff_mem];simp only[List.getD,List.getElem?_eq_getElem (by omega:k<wordsL.length),Option.getD_some];exact List.getElem_mem _
theorem wordB_no {t:List UInt8}(h:∀ k,k<27->¬t=wordsL.getD k []):wordB t=false:=by
 rw[<-Bool.not_eq_true];unfold wordB;rw[List.contains_iff_mem,List.mem_iff_getElem];rintro ⟨k,hk,e⟩;have hl:wordsL.length=27:=rfl;refine h k (by omega) ?_;simp only[List.getD,List.getElem?_eq_getElem hk,Option.getD_some];exact e.symm
theorem wordsInfo:(Tryd.prog.info? 85).map (·.size)=some wordsA.size:=by kernel_rfl
theorem word_c (s:ByteArray)(w:World)(hW:Wd w)(hs:s.size<=maxLen) :
  Calls Tryd.prog 43 #[.string s] w fun e w'=>e=.returned (.bool (wordB s.data.toList))/\w'=w:=by
 obtain⟨tt,fr,hg⟩:=hW;have IX:Hid (∀ k:Nat,k<27->(Instr.index 85 (.agg wordsA) (.int .i64 (k:Nat))).run Tryd.prog w=.ok (.string (wd k)) w):=fun k hk=>wordsA_at k hk w;have hsz:=wordsInfo;generalize wordsA=cs at *;go_enter Tryd.func43,Tryd.ntmps43;go_wp2_with (refine wpList_load_row rfl 85 _ rfl 1 rfl tt _ fr _ hg Tryd.underlying85 rfl hsz ?_);go_loopw [6] (fun v wr=>∃k:Nat,k<=27/\v=.int .i64 (k:Nat)/\(∀ j,j<k->s≠wd j)/\wr=w) (fun v _=>27-(intOf v).toNat)
 case atStart=>exact⟨0,by omega,by go_num,fun j hj=>by omega,rfl⟩
 case round =>
  obtain⟨k,hk,rfl,hin,rfl⟩:=hrel;by_cases hlt:k<27
  ·have ix:=IX.out k hlt;have hkI:(k:Int)<27:=by omega
   by_cases he:s=wd k
   ·have fin:wordB s.data.toList=true:=wordB_yes k hlt (by rw[he];rfl);rw[<-he] at ix;clear he IX;go_wp2;go_ret;exact⟨by rw[fin];rfl,rfl⟩
   ·have hin':∀ j,j<k+1->s≠wd j:=fun j hj=>by
     by_cases e:j=k
     ·subst e;exact he
     ·exact hin j (by omega)
    have heb:=str_ne he;generalize wd k=t at ix he heb;clear IX hin;go_wp2;go_roundw
    case rel=>(try ((repeat apply Exists.intro);refine⟨?_,rfl⟩));exact⟨k+1,by omega,by go_num,hin',by trivial⟩
    case measure=>simp[intOf];omega
  ·obtain rfl:k=27:=by omega
   clear IX;have fin:wordB s.data.toList=false:=wordB_no fun j hj e=>hin j hj (bytes_eq.1 (by rw[e];rfl));go_wp2;go_ret;exact⟨by rw[fin];rfl,rfl⟩
def nmc (j:Nat)(c:UInt8):Bool:=sml c.toNat||(j != 0&&(dig c.toNat||c.toNat==95))
theorem nameB_iff (l:List UInt8):nameB l=true ↔ 0<l.length/\l.length<=12/\(∀ j (h:j<l.length),nmc j l[j]=true)/\wordB l=false:=by
 cases l with
 | nil=>simp[nameB]
 | cons c r =>
  simp only[nameB,Bool.and_eq_true,decide_eq_true_eq,List.all_eq_true,Bool.not_eq_true',List.length_cons];constructor
  ·rintro ⟨⟨⟨h1,h2⟩,h3⟩,h4⟩;refine⟨by omega,by omega,fun j h=>?_,h4⟩;cases j with
   | zero=>simp[nmc,h2]
   | succ j =>
    have:=h3 (r[j]'(by omega)) (List.getElem_mem _)
    simp only[inn] at this;simp[nmc];simpa [Bool.or_eq_true,or_assoc] using this
  ·rintro ⟨h1,h2,h3,h4⟩;refine⟨⟨⟨by omega,?_⟩,fun x hx=>?_⟩,h4⟩
   ·have:=h3 0 (by omega)
    simpa [nmc] using this
   ·obtain⟨j,hj,rfl⟩:=List.mem_iff_getElem.1 hx
    have:=h3 (j+1) (by omega)
    simp only[nmc,List.getElem_cons_succ] at this;simp only[inn];simpa [Bool.or_eq_true,or_assoc] using this
theorem nameB_not {l:List UInt8}(j:Nat)(h:j<l.length)(hn:nmc j l[j]=false):nameB l=false:=by
 rw[<-Bool.not_eq_true,nameB_iff];rintro ⟨_,_,h3,_⟩
 have:=h3 j h
 rw[hn] at this;cases this
theorem nmc_high (j:Nat)(c:UInt8)(h:128<=c.toNat):nmc j c=false:=by
 simp[nmc,sml,dig];omega
theorem data_get (s:ByteArray)(j:Nat)(h:j<s.size)(h':j<s.data.toList.length):s.data.toList[j]=s[j]:=by
 rw[Array.getElem_toList];rfl
theorem data_len (s:ByteArray):s.data.toList.length=s.size:=Array.length_toList
theorem name_c (s:ByteArray)(w:World)(hW:Wd w)(hs:s.size<=maxLen) :
  Calls Tryd.prog 28 #[.string s] w fun e w'=>e=.returned (.bool (nameB s.data.toList))/\Below w.heap.size w w':=by
 have hs':=hs;unfold maxLen at hs;have hln:=data_len s;by_cases h0:s.size=0
 ·have e0:s=⟨#[]⟩:=by
   apply ByteArray.ext;exact Array.eq_empty_of_size_eq_zero h0
  subst e0;have fin:nameB (⟨#[]⟩:ByteArray).data.toList=false:=rfl;rw[fin];clear fin h0 hln;go_enter Tryd.func28,Tryd.ntmps28;go_wp2;go_ret;exact⟨rfl,b0 _⟩
 ·by_cases h12:12<s.size
  ·have fin:nameB s.data.toList=false:=by rw[<-Bool.not_eq_true,nameB_iff];rintro ⟨_,h,_⟩;omega
   rw[fin];clear fin hln;have hne:=str_full h0;have h12I:(12:Int)<(s.size:Int):=by omega
   go_enter Tryd.func28,Tryd.ntmps28;go_wp2;go_ret;exact⟨by simp,b0 _⟩
  ·have hne:=str_full h0;have h12I:¬(12:Int)<(s.size:Int):=by omega
   have HL:Hid (s.data.toList.length=s.size):=hln;clear hln;go_enter Tryd.func28,Tryd.ntmps28;go_wp2;go_loopw [3] (fun _ wr=>∃pos:Nat,wr.heap[w.heap.size]?=some (.stringIter s pos)/\pos<=s.size/\(∀ j (h:j<s.data.toList.length),j<pos->nmc j s.data.toList[j]=true)/\Below w.heap.size w wr) (fun _ wr=>s.size-wr.iterPos w.heap.size)
   case atStart=>exact⟨0,World.iter_heap w s 0,by omega,fun j _ h=>by omega,b1 _ _⟩
   case round =>
    obtain⟨pos,hit,hps,hin,hbw⟩:=hrel;by_cases hp:pos<s.size
    ·have hpl:pos<s.data.toList.length:=by have:=HL.out;omega
     by_cases ha:(s[pos]'hp).toNat<128
     ·have hnx:∀ ty,(Instr.next (.pointer (some ⟨w.heap.size,0,none⟩)) true ty).run Tryd.prog wr=_:=fun ty=>Lib.run_next_ascii_at wr w.heap.size s pos ty hit hp ha;have hit2:=Lib.iterAt_heap wr w.heap.size s pos (pos+1) hit;have hbw2:=Lib.below_iterAt hbw (k:=w.heap.size) (by omega) s (pos+1);have hex:nmc pos s.data.toList[pos]=nmc pos s[pos]:=by rw[data_get s pos hp hpl]
      have hgo:nmc pos s[pos]=true->∀ j (h:j<s.data.toList.length),j<pos+1->nmc j s.data.toList[j]=true:=fun hx j h hj=>by
       by_cases e:j=pos
       ·subst e;rw[hex];exact hx
       ·exact hin j h (by omega)
      have hno:nmc pos s[pos]=false->nameB s.data.toList=false:=fun hx=>nameB_not pos hpl (by rw[hex];exact hx);have hme:s.size-(wr.iterAt w.heap.size s (pos+1)).iterPos w.heap.size<s.size-wr.iterPos w.heap.size:=by
       simp only[World.iterPos,hit2,hit];omega
      clear hit hbw hin hex;have hwz:w.heap.size=w.heap.size:=rfl;generalize wr.iterAt w.heap.size s (pos+1)=w2 at *;have hnm:nmc pos s[pos]=(sml (s[pos]).toNat||(pos != 0&&(dig (s[pos]).toNat||(s[pos]).toNat==95))):=rfl;rw[hnm] at hgo hno;clear hnm;generalize hrn:(s[pos]'hp).toNat=r at *;have hr:r<=2147483647:=by omega
      clear hrn;have HG:Hid (((sml r||(pos != 0&&(dig r||r==95)))=true->∀ j (h:j<s.data.toList.length),j<pos+1->nmc j s.data.toList[j]=true)/\((sml r||(pos != 0&&(dig r||r==95)))=false->nameB s.data.toList=false)):=⟨hgo,hno⟩
      clear hgo hno;cases h1:sml r
      ·by_cases hz:pos=0
       ·have fin:nameB s.data.toList=false:=HG.out.2 (by simp[h1,hz]);subst hz;clear HG hme;go_wp2_with (go_at_call 41;refine(sml_c r _ hr).mono ?_;rw[h1];rintro e w1 ⟨rfl,rfl⟩);go_ret;exact⟨by rw[fin];rfl,hbw2⟩
       ·have hz':¬(pos:Int)=0:=by omega
        cases h2:dig r
        ·by_cases h3:r=95
         ·have RL:=HG.out.1 (by simp[h3,hz]);clear HG;subst h3;go_wp2_with (first|(go_at_call 41;refine(sml_c 95 _ hr).mono ?_;rw[h1];rintro e w1 ⟨rfl,rfl⟩)|(go_at_call 42;refine(dig_c 95 _ hr).mono ?_;rw[h2];rintro e w1 ⟨rfl,rfl⟩));go_roundw
          case rel=>(try ((repeat apply Exists.intro);refine⟨?_,rfl⟩));exact⟨pos+1,hit2,by omega,RL,hbw2⟩
          case measure=>exact hme
         ·have fin:nameB s.data.toList=false:=HG.out.2 (by simp[h1,h2,h3]);have h3':¬(r:Int)=95:=by omega
          have h3b:((r:Int) != 95)=true:=by simpa using h3'
          clear HG hme;go_wp2_with (first|(go_at_call 41;refine(sml_c r _ hr).mono ?_;rw[h1];rintro e w1 ⟨rfl,rfl⟩)|(go_at_call 42;refine(dig_c r _ hr).mono ?_;rw[h2];rintro e w1 ⟨rfl,rfl⟩));go_ret;exact⟨by rw[fin];rfl,hbw2⟩
        ·have RL:=HG.out.1 (by simp[h2,hz]);clear HG;go_wp2_with (first|(go_at_call 41;refine(sml_c r _ hr).mono ?_;rw[h1];rintro e w1 ⟨rfl,rfl⟩)|(go_at_call 42;refine(dig_c r _ hr).mono ?_;rw[h2];rintro e w1 ⟨rfl,rfl⟩));go_roundw
         case rel=>(try ((repeat apply Exists.intro);refine⟨?_,rfl⟩));exact⟨pos+1,hit2,by omega,RL,hbw2⟩
         case measure=>exact hme
      ·have RL:=HG.out.1 (by simp[h1]);clear HG;go_wp2_with (go_at_call 41;refine(sml_c r _ hr).mono ?_;rw[h1];rintro e w1 ⟨rfl,rfl⟩);go_roundw
       case rel=>(try ((repeat apply Exists.intro);refine⟨?_,rfl⟩));exact⟨pos+1,hit2,by omega,RL,hbw2⟩
       case measure=>exact hme
     ·have fin:nameB s.data.toList=false:=nameB_not pos hpl (by rw[data_get s pos hp hpl];exact nmc_high _ _ (by omega));have hnx:∀ ty,(Instr.next (.pointer (some ⟨w.heap.size,0,none⟩)) true ty).run Tryd.prog wr=_:=fun ty=>Lib.run_next_any_at wr w.heap.size s pos ty hit hp;have hbw2:=Lib.below_iterAt hbw (k:=w.heap.size) (by omega) s (pos+(Utf8.decode s pos).2);have hr:=decode_le s pos;have hr2:=(decode_high s pos hp (by omega)).1;generalize wr.iterAt w.heap.size s (pos+(Utf8.decode s pos).2)=w2 at *;generalize (Utf8.decode s pos).1=r at *;have h1:sml r=false:=by simp[sml];omega
      have h2:dig r=false:=by simp[dig];omega
      have h3':¬(r:Int)=95:=by omega
      have h3b:((r:Int) != 95)=true:=by simpa using h3'
      clear hit hbw hin ha;by_cases hz:pos=0
      ·subst hz;go_wp2_with (go_at_call 41;refine(sml_c r _ hr).mono ?_;rw[h1];rintro e w1 ⟨rfl,rfl⟩);go_ret;exact⟨by rw[fin];rfl,hbw2⟩
      ·have hz':¬(pos:Int)=0:=by omega
       go_wp2_with (first|(go_at_call 41;refine(sml_c r _ hr).mono ?_;rw[h1];rintro e w1 ⟨rfl,rfl⟩)|(go_at_call 42;refine(dig_c r _ hr).mono ?_;rw[h2];rintro e w1 ⟨rfl,rfl⟩));go_ret;exact⟨by rw[fin];rfl,hbw2⟩
    ·have hnx:∀ ty,(Instr.next (.pointer (some ⟨w.heap.size,0,none⟩)) true ty).run Tryd.prog wr=_:=fun ty=>Lib.run_next_end_at wr w.heap.size s pos ty hit hp;have hW2:=hW.below hbw;have fin:nameB s.data.toList=!wordB s.data.toList:=by
      have hl:=HL.out;cases hw:wordB s.data.toList
      ·exact(nameB_iff _).2 ⟨by omega,by omega,fun j h=>hin j h (by omega),hw⟩
      ·show _=false;rw[<-Bool.not_eq_true,nameB_iff];rintro ⟨_,_,_,h⟩;rw[hw] at h;cases h
     clear hin hit;go_wp2_with (go_at_call 43;refine(word_c s _ hW2 hs').mono ?_;rintro e w1 ⟨rfl,rfl⟩);go_ret;exact⟨by rw[fin];rfl,hbw⟩
theorem gTab : Tryd.prog.globalNamed "isthmus/pack.fields" = some 2 := by kernel_rfl
theorem gTabType:(Tryd.prog.globals[2]?).map (·.type)=some 89:=by kernel_rfl
theorem cellsTab:Tryd.prog.cellsOf 89=6:=by kernel_rfl
theorem cellsField:Tryd.prog.cellsOf 88=2:=by kernel_rfl
theorem cellsUint:Tryd.prog.cellsOf 71=1:=by kernel_rfl
theorem cellsUint64:Tryd.prog.cellsOf 33=1:=by kernel_rfl
def Tab (w:World):Prop :=
 w.cell? ⟨2,0,none⟩=some (.int .u64 56)/\w.cell? ⟨2,1,none⟩=some (.int .u64 255)/\w.cell? ⟨2,2,none⟩=some (.int .u64 28) /\
 w.cell? ⟨2,3,none⟩=some (.int .u64 268435455)/\w.cell? ⟨2,4,none⟩=some (.int .u64 0)/\w.cell? ⟨2,5,none⟩=some (.int .u64 268435455)/\2<w.heap.size
theorem Tab.below {w w':World}(h:Tab w)(hb:Below w.heap.size w w'):Tab w':=by
 obtain⟨h0,h1,h2,h3,h4,h5,hs⟩:=h;refine⟨?_,?_,?_,?_,?_,?_,Nat.lt_of_lt_of_le hs hb.size⟩
 ·exact(hb.cell (p:=⟨2,0,none⟩) hs).trans h0
 ·exact(hb.cell (p:=⟨2,1,none⟩) hs).trans h1
 ·exact(hb.cell (p:=⟨2,2,none⟩) hs).trans h2
 ·exact(hb.cell (p:=⟨2,3,none⟩) hs).trans h3
 ·exact(hb.cell (p:=⟨2,4,none⟩) hs).trans h4
 ·exact(hb.cell (p:=⟨2,5,none⟩) hs).trans h5
theorem below_drewN (w:World)(n:Nat):Below w.heap.size w (w.drewN n):=by
 have key:∀ (n:Nat) (v:World),Below w.heap.size w v->Below w.heap.size w (v.drewN n):=by
  intro n
  induction n with
  | zero=>intro v h;exact h
  | succ n ih=>intro v h;exact(ih v h).drew
 exact key n w (Below.refl _ _)
theorem bjoin {a b c:World}(h:Below a.heap.size a b)(k:Below b.heap.size b c):Below a.heap.size a c:=h.trans (k.mono h.size)
theorem bd_i64 {a:Int}(h:(Lit.int .i64 a).wf=true):-9223372036854775808<=a/\a<=9223372036854775807:=by
 simpa [Lit.wf,IntKind.min,IntKind.max,IntKind.signed,IntKind.bits] using h
theorem zig_any (n:Int)(w:World)(h1:-9223372036854775808<=n)(h2:n<=9223372036854775807) :
  Calls Tryd.prog 40 #[.int .i64 n] w fun e w'=>e=.returned (.int .u64 (zg n))/\w'=w:=by
 go_enter Tryd.func40,Tryd.ntmps40;go_wp2;go_ret;exact⟨ret_int (zig_eq n h1 h2),rfl⟩
theorem zag_any (u:Int)(w:World)(h1:0<=u)(h2:u<18446744073709551616) :
  Calls Tryd.prog 49 #[.int .u64 u] w fun e w'=>e=.returned (.int .i64 (zgb u))/\w'=w:=by
 go_enter Tryd.func49,Tryd.ntmps49;go_wp2;go_ret;exact⟨ret_int (zag_eq u h1 h2),rfl⟩
theorem mix_any (h n:Int)(w:World)(g1:0<=h)(g2:h<18446744073709551616)(h1:-9223372036854775808<=n)(h2:n<=9223372036854775807) :
  Calls Tryd.prog 27 #[.int .u64 h,.int .i64 n] w fun e w'=>e=.returned (.int .u64 (mx h (zg n)))/\w'=w:=by
 have b:=zg_bd n h1 h2;go_enter Tryd.func27,Tryd.ntmps27;go_wp2_with (go_at_call 40;refine(zig_any _ _ h1 h2).mono ?_;rintro e w' ⟨rfl,rfl⟩);go_ret;exact⟨ret_int (mx_eq h (zg n) g1 g2 b.1 b.2),rfl⟩
theorem part0 (u:Int)(w:World)(hT:Tab w)(h1:0<=u)(h2:u<18446744073709551616) :
  Calls Tryd.prog 50 #[.int .i64 0,.int .u64 u] w fun e w'=>e=.returned (.int .i64 (u / 72057594037927936))/\Below w.heap.size w w':=by
 have hc:=hT.1;have hd:=hT.2.1;go_enter Tryd.func50,Tryd.ntmps50;go_wp2
 go_quiet (fail)
 go_wp2;go_ret;exact⟨ret_int (part0_eq u h1 h2),below_drewN _ _⟩
theorem part1 (u:Int)(w:World)(hT:Tab w)(h1:0<=u)(h2:u<18446744073709551616) :
  Calls Tryd.prog 50 #[.int .i64 1,.int .u64 u] w fun e w'=>e=.returned (.int .i64 (u / 268435456 % 268435456))/\Below w.heap.size w w':=by
 have hc:=hT.2.2.1;have hd:=hT.2.2.2.1;go_enter Tryd.func50,Tryd.ntmps50;go_wp2
 go_quiet (fail)
 go_wp2;go_ret;exact⟨ret_int (part1_eq u h1 h2),below_drewN _ _⟩
theorem part2 (u:Int)(w:World)(hT:Tab w)(h1:0<=u)(h2:u<18446744073709551616) :
  Calls Tryd.prog 50 #[.int .i64 2,.int .u64 u] w fun e w'=>e=.returned (.int .i64 (u % 268435456))/\Below w.heap.size w w':=by
 have hc:=hT.2.2.2.2.1;have hd:=hT.2.2.2.2.2.1;go_enter Tryd.func50,Tryd.ntmps50;go_wp2
 go_quiet (fail)
 go_wp2;go_ret;exact⟨ret_int (by simpa using part2_eq u h1 h2),below_drewN _ _⟩
end Go.Proofs.YtdhhnhjolmnkjabDoor

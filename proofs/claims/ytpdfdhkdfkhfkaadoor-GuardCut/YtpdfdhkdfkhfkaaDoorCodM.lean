import Derived.Test.YtpdfdhkdfkhfkaaDoorNamC
set_option maxRecDepth 100000
set_option maxHeartbeats 8000000
namespace Go.Proofs.YtpdfdhkdfkhfkaaDoor
open Go.RowKit
set_option linter.unusedVariables false
structure Cd where
 ws:List Int
 cs:List Int
 ns:List ByteArray
 ks:List Int
abbrev opW (u:Int):Int:=u / 72057594037927936
abbrev aW (u:Int):Int:=u / 268435456 % 268435456
abbrev bW (u:Int):Int:=u % 268435456
abbrev within (a:Int)(n:Nat):Bool:=decide (0<=a)&&decide (a<(n:Int))
def wrdD (c:Cd)(o a b:Int):Bool :=
 if o=1 then within a c.cs.length&&(decide (b=1)||(decide (b=2)&&within (c.cs.getD a.toNat 0) 2))
 else if o=2 then within a c.cs.length&&decide (0<=c.cs.getD a.toNat 0)&&decide (b=0)
 else if o=3 then decide (a<=3)&&decide (b=0)
 else if o=11 then decide (a=0)&&(decide (1<=b)&&decide (b<=3))
 else if o=12 then decide (a=0)&&decide (b<=1)
 else if o=13\/o=14\/o=15\/o=24 then decide (b=0)
 else if o=16 then decide (1<=a)&&decide (a<=10)&&decide (b=0)
 else if o=17 then within a c.ks.length
 else if o=18\/o=19 then within a c.ks.length&&decide (b=0)
 else if o=21 then within a c.ns.length&&decide (b=0)
 else if o=23 then decide (a<=1024)&&decide (b=0)
 else if o=26 then decide (a<=1)&&decide (b=0)
 else decide (o<28)&&decide (a=0)&&decide (b=0)
def spn (c:Cd)(t:Nat):Int × Int :=
 match t with
 | 1=>(0,268435455)
 | 2=>(0,1)
 | 3=>(0,3)
 | 4=>(1,10)
 | 5=>(0,1024)
 | 6=>(1,2)
 | 7=>(1,3)
 | 8=>(0,(c.cs.length:Int)-1)
 | 9=>(0,(c.ns.length:Int)-1)
 | 10=>(0,(c.ks.length:Int)-1)
 | _=>(0,0)
def mayB (c:Cd)(t:Nat)(n:Int):Bool:=decide ((spn c t).1<=n)&&decide (n<=(spn c t).2)
def rulA:List Nat:=[0,8,8,3,0,0,0,0,0,0,0,0,0,1,1,1,4,10,10,10,0,9,0,5,1,0,2,0]
def rulB:List Nat:=[0,6,0,0,0,0,0,0,0,0,0,7,2,0,0,0,0,1,0,0,0,0,0,0,0,0,0,0]
def wrdP (c:Cd)(o a b:Int):Bool :=
 decide (o<28)&&mayB c (rulA.getD o.toNat 0) a&&mayB c (rulB.getD o.toNat 0) b &&
  (if o=1/\b=2 then mayB c 2 (c.cs.getD a.toNat 0) else if o=2 then decide (0<=c.cs.getD a.toNat 0) else true)
theorem wrd_same (c:Cd)(o a b:Int)(h0:0<=o)(h1:0<=a)(h2:a<268435456)(h3:0<=b)(h4:b<268435456):wrdP c o a b=wrdD c o a b:=by
 by_cases h28:o<28
 ·obtain⟨n,rfl⟩:=Int.eq_ofNat_of_zero_le h0;have hn:n<28:=by omega
  rw[Bool.eq_iff_iff]
  match n,hn with
  | 0,_ | 1,_ | 2,_ | 3,_ | 4,_ | 5,_ | 6,_ | 7,_ | 8,_ | 9,_ | 10,_ | 11,_ | 12,_ | 13,_ | 14,_ | 15,_ | 16,_ | 17,_ | 18,_ | 19,_ | 20,_ | 21,_ | 22,_ | 23,_ | 24,_ | 25,_ | 26,_ | 27,_ =>
   simp[wrdP,wrdD,mayB,rulA,rulB,spn];try split
   all_goals omega
 ·have e:wrdP c o a b=false:=by simp[wrdP,h28]
  rw[e];have hh:∀ k:Int,k<28->¬o=k:=fun k hk e=>by omega
  simp[wrdD,hh,h28]
def wrdB (c:Cd)(u:Int):Bool:=wrdD c (opW u) (aW u) (bW u)
def kndB (k:Int):Bool:=decide (1<=k)&&decide (k<=3)
def lenB (c:Cd):Bool:=decide (c.cs.length<=32768)&&decide (c.ns.length<=2000)&&decide (c.ks.length<=256)
def lstB (c:Cd):Bool:=lenB c&&c.ns.all (fun s=>nameB s.data.toList)&&c.ks.all kndB
def wdsB (c:Cd):Bool:=decide (0<c.ws.length)&&decide (c.ws.length<=32768)&&c.ws.all (wrdB c)
def rgtB (c:Cd):Bool:=lstB c&&wdsB c
structure Cd.Ok (c:Cd):Prop where
 ws:∀ u ∈ c.ws,0<=u/\u<18446744073709551616
 cs:∀ u ∈ c.cs,-9223372036854775808<=u/\u<=9223372036854775807
 ks:∀ u ∈ c.ks,-9223372036854775808<=u/\u<=9223372036854775807
 ns:∀ s ∈ c.ns,s.size<=maxLen
theorem rgt_lens {c:Cd}(h:rgtB c=true):0<c.ws.length/\c.ws.length<=32768/\c.cs.length<=32768/\c.ns.length<=2000/\c.ks.length<=256:=by
 simp only[rgtB,lstB,lenB,wdsB,Bool.and_eq_true,decide_eq_true_eq] at h;omega
theorem rgt_names {c:Cd}(h:rgtB c=true):∀ s ∈ c.ns,s.size<=12:=by
 simp only[rgtB,lstB,wdsB,Bool.and_eq_true,List.all_eq_true] at h;intro s hs;have hn:=h.1.1.2 s hs;have hl:s.data.toList.length=s.size:=Array.length_toList;unfold nameB at hn;split at hn
 ·cases hn
 ·rename_i hx
  simp only[Bool.and_eq_true,decide_eq_true_eq] at hn;rw[hx] at hl;simp at hl;omega
theorem rgt_kinds {c:Cd}(h:rgtB c=true):∀ k ∈ c.ks,1<=k/\k<=3:=by
 simp only[rgtB,lstB,wdsB,Bool.and_eq_true,List.all_eq_true] at h;intro k hk
 have:=h.1.2 k hk
 simpa [kndB] using this
end Go.Proofs.YtpdfdhkdfkhfkaaDoor

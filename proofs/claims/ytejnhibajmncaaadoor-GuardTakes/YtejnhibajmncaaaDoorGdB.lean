import Derived.Test.YtejnhibajmncaaaDoorCodT
import Derived.Test.YtejnhibajmncaaaDoorProg
set_option maxRecDepth 100000
set_option maxHeartbeats 8000000
namespace Go.Proofs.YtejnhibajmncaaaDoor
open Go.ChangeShapes Go.WideShapes Go.ChangeAt Go.RowKit
set_option linter.unusedVariables false
theorem span_0 (p:Pl)(c:Cd)(w:World)(hl:c.cs.length<=9223372036854775807)(hn:c.ns.length<=9223372036854775807)(hk:c.ks.length<=9223372036854775807) :
  Calls Tryd.prog 75 #[.int .i64 0,cdV p c] w fun e w'=>e=.returned (.tuple #[.int .i64 (spn c 0).1,.int .i64 (spn c 0).2])/\Below w.heap.size w w':=by
 go_enter Tryd.func75,Tryd.ntmps75;go_wp2;go_ret2;exact⟨rfl,b1G _ _⟩
theorem span_1 (p:Pl)(c:Cd)(w:World)(hl:c.cs.length<=9223372036854775807)(hn:c.ns.length<=9223372036854775807)(hk:c.ks.length<=9223372036854775807) :
  Calls Tryd.prog 75 #[.int .i64 1,cdV p c] w fun e w'=>e=.returned (.tuple #[.int .i64 (spn c 1).1,.int .i64 (spn c 1).2])/\Below w.heap.size w w':=by
 go_enter Tryd.func75,Tryd.ntmps75;go_wp2;go_ret2;exact⟨rfl,b1G _ _⟩
theorem span_2 (p:Pl)(c:Cd)(w:World)(hl:c.cs.length<=9223372036854775807)(hn:c.ns.length<=9223372036854775807)(hk:c.ks.length<=9223372036854775807) :
  Calls Tryd.prog 75 #[.int .i64 2,cdV p c] w fun e w'=>e=.returned (.tuple #[.int .i64 (spn c 2).1,.int .i64 (spn c 2).2])/\Below w.heap.size w w':=by
 go_enter Tryd.func75,Tryd.ntmps75;go_wp2;go_ret2;exact⟨rfl,b1G _ _⟩
theorem span_3 (p:Pl)(c:Cd)(w:World)(hl:c.cs.length<=9223372036854775807)(hn:c.ns.length<=9223372036854775807)(hk:c.ks.length<=9223372036854775807) :
  Calls Tryd.prog 75 #[.int .i64 3,cdV p c] w fun e w'=>e=.returned (.tuple #[.int .i64 (spn c 3).1,.int .i64 (spn c 3).2])/\Below w.heap.size w w':=by
 go_enter Tryd.func75,Tryd.ntmps75;go_wp2;go_ret2;exact⟨rfl,b1G _ _⟩
theorem span_4 (p:Pl)(c:Cd)(w:World)(hl:c.cs.length<=9223372036854775807)(hn:c.ns.length<=9223372036854775807)(hk:c.ks.length<=9223372036854775807) :
  Calls Tryd.prog 75 #[.int .i64 4,cdV p c] w fun e w'=>e=.returned (.tuple #[.int .i64 (spn c 4).1,.int .i64 (spn c 4).2])/\Below w.heap.size w w':=by
 go_enter Tryd.func75,Tryd.ntmps75;go_wp2;go_ret2;exact⟨rfl,b1G _ _⟩
theorem span_5 (p:Pl)(c:Cd)(w:World)(hl:c.cs.length<=9223372036854775807)(hn:c.ns.length<=9223372036854775807)(hk:c.ks.length<=9223372036854775807) :
  Calls Tryd.prog 75 #[.int .i64 5,cdV p c] w fun e w'=>e=.returned (.tuple #[.int .i64 (spn c 5).1,.int .i64 (spn c 5).2])/\Below w.heap.size w w':=by
 go_enter Tryd.func75,Tryd.ntmps75;go_wp2;go_ret2;exact⟨rfl,b1G _ _⟩
theorem span_6 (p:Pl)(c:Cd)(w:World)(hl:c.cs.length<=9223372036854775807)(hn:c.ns.length<=9223372036854775807)(hk:c.ks.length<=9223372036854775807) :
  Calls Tryd.prog 75 #[.int .i64 6,cdV p c] w fun e w'=>e=.returned (.tuple #[.int .i64 (spn c 6).1,.int .i64 (spn c 6).2])/\Below w.heap.size w w':=by
 go_enter Tryd.func75,Tryd.ntmps75;go_wp2;go_ret2;exact⟨rfl,b1G _ _⟩
theorem span_7 (p:Pl)(c:Cd)(w:World)(hl:c.cs.length<=9223372036854775807)(hn:c.ns.length<=9223372036854775807)(hk:c.ks.length<=9223372036854775807) :
  Calls Tryd.prog 75 #[.int .i64 7,cdV p c] w fun e w'=>e=.returned (.tuple #[.int .i64 (spn c 7).1,.int .i64 (spn c 7).2])/\Below w.heap.size w w':=by
 go_enter Tryd.func75,Tryd.ntmps75;go_wp2;go_ret2;exact⟨rfl,b1G _ _⟩
theorem span_8 (p:Pl)(c:Cd)(w:World)(hl:c.cs.length<=9223372036854775807)(hn:c.ns.length<=9223372036854775807)(hk:c.ks.length<=9223372036854775807) :
  Calls Tryd.prog 75 #[.int .i64 8,cdV p c] w fun e w'=>e=.returned (.tuple #[.int .i64 (spn c 8).1,.int .i64 (spn c 8).2])/\Below w.heap.size w w':=by
 go_enter Tryd.func75,Tryd.ntmps75;go_wp2
 go_quiet (fail)
 go_wp2;go_ret2;refine⟨?_,(b1G _ _).trans ((below_drewNG _ _).mono (by simp))⟩;simp[spn]
theorem span_9 (p:Pl)(c:Cd)(w:World)(hl:c.cs.length<=9223372036854775807)(hn:c.ns.length<=9223372036854775807)(hk:c.ks.length<=9223372036854775807) :
  Calls Tryd.prog 75 #[.int .i64 9,cdV p c] w fun e w'=>e=.returned (.tuple #[.int .i64 (spn c 9).1,.int .i64 (spn c 9).2])/\Below w.heap.size w w':=by
 go_enter Tryd.func75,Tryd.ntmps75;go_wp2
 go_quiet (fail)
 go_wp2;go_ret2;refine⟨?_,(b1G _ _).trans ((below_drewNG _ _).mono (by simp))⟩;simp[spn]
theorem span_10 (p:Pl)(c:Cd)(w:World)(hl:c.cs.length<=9223372036854775807)(hn:c.ns.length<=9223372036854775807)(hk:c.ks.length<=9223372036854775807) :
  Calls Tryd.prog 75 #[.int .i64 10,cdV p c] w fun e w'=>e=.returned (.tuple #[.int .i64 (spn c 10).1,.int .i64 (spn c 10).2])/\Below w.heap.size w w':=by
 go_enter Tryd.func75,Tryd.ntmps75;go_wp2
 go_quiet (fail)
 go_wp2;go_ret2;refine⟨?_,(b1G _ _).trans ((below_drewNG _ _).mono (by simp))⟩;simp[spn]
theorem span_c (t:Nat)(ht:t<=10)(p:Pl)(c:Cd)(w:World)(hl:c.cs.length<=9223372036854775807)(hn:c.ns.length<=9223372036854775807)(hk:c.ks.length<=9223372036854775807) :
  Calls Tryd.prog 75 #[.int .i64 (t:Nat),cdV p c] w fun e w'=>e=.returned (.tuple #[.int .i64 (spn c t).1,.int .i64 (spn c t).2])/\Below w.heap.size w w':=by
 match t,ht with
 | 0,_=>exact span_0 p c w hl hn hk
 | 1,_=>exact span_1 p c w hl hn hk
 | 2,_=>exact span_2 p c w hl hn hk
 | 3,_=>exact span_3 p c w hl hn hk
 | 4,_=>exact span_4 p c w hl hn hk
 | 5,_=>exact span_5 p c w hl hn hk
 | 6,_=>exact span_6 p c w hl hn hk
 | 7,_=>exact span_7 p c w hl hn hk
 | 8,_=>exact span_8 p c w hl hn hk
 | 9,_=>exact span_9 p c w hl hn hk
 | 10,_=>exact span_10 p c w hl hn hk
 | n+11,h=>omega
theorem may_c (t:Nat)(ht:t<=10)(n:Int)(p:Pl)(c:Cd)(w:World)(hl:c.cs.length<=9223372036854775807)(hn:c.ns.length<=9223372036854775807)(hk:c.ks.length<=9223372036854775807) :
  Calls Tryd.prog 54 #[.int .i64 (t:Nat),.int .i64 n,cdV p c] w fun e w'=>e=.returned (.bool (mayB c t n))/\Below w.heap.size w w':=by
 have hm:mayB c t n=(decide ((spn c t).1<=n)&&decide (n<=(spn c t).2)):=rfl;have HS:=fun w=>span_c t ht p c w hl hn hk;rw[hm];generalize (spn c t).1=lo at *;generalize (spn c t).2=hi at *;clear hm;by_cases h1:lo<=n
 ·go_enter Tryd.func54,Tryd.ntmps54;go_wp2_with (go_at_call 75;refine(HS _).mono ?_;rintro e w1 ⟨rfl,hb⟩);go_ret;exact⟨by simp[h1],bd1 hb⟩
 ·go_enter Tryd.func54,Tryd.ntmps54;go_wp2_with (go_at_call 75;refine(HS _).mono ?_;rintro e w1 ⟨rfl,hb⟩);go_ret;exact⟨by simp;intro;omega,bd1 hb⟩
set_option linter.unusedSimpArgs false
def Rul (w:World):Prop:=1<w.heap.size/\∀ o,o<28->w.cell? ⟨1,o*2,none⟩=some (.int .i64 (rulA.getD o 0:Nat))/\w.cell? ⟨1,o*2+1,none⟩=some (.int .i64 (rulB.getD o 0:Nat))
theorem Rul.below {w w':World}(h:Rul w)(B:Below w.heap.size w w'):Rul w' :=
 ⟨Nat.lt_of_lt_of_le h.1 B.size,fun o ho=>⟨(B.cell (p:=⟨1,o*2,none⟩) h.1).trans (h.2 o ho).1,(B.cell (p:=⟨1,o*2+1,none⟩) h.1).trans (h.2 o ho).2⟩⟩
theorem rul_le (o:Nat):rulA.getD o 0<=10/\rulB.getD o 0<=10:=by
 by_cases h:o<28
 ·have H:∀ o,o<28->rulA.getD o 0<=10/\rulB.getD o 0<=10:=by decide
  exact H o h
 ·have h1:rulA.length<=o:=by have:rulA.length=28:=rfl;omega
  have h2:rulB.length<=o:=by have:rulB.length=28:=rfl;omega
  simp[List.getD,List.getElem?_eq_none h1,List.getElem?_eq_none h2]
theorem isV_at {l:List Int}{k:Nat}(h:k<l.length):(isV l)[k]?=some (.int .i64 (l.getD k 0)):=by
 simp[isV,List.getD,List.getElem?_eq_getElem h]
theorem keep2 {w w':World}{g b:Nat}(B:Below w.heap.size w w')(h:g<w.heap.size/\b<w.heap.size):g<w'.heap.size/\b<w'.heap.size:=⟨Nat.lt_of_lt_of_le h.1 B.size,Nat.lt_of_lt_of_le h.2 B.size⟩
theorem keep6 {w w':World}{g b x y:Nat}{v0 v1 v2 v3 v4 v5:Option Value}(B:Below w.heap.size w w')(hg:g<w.heap.size)(hb:b<w.heap.size)
  (h:w.cell? ⟨g,x,none⟩=v0/\w.cell? ⟨g,y,none⟩=v1/\w.cell? ⟨b,0,none⟩=v2/\w.cell? ⟨b,1,none⟩=v3/\w.cell? ⟨b,2,none⟩=v4/\w.cell? ⟨b,3,none⟩=v5) :
  w'.cell? ⟨g,x,none⟩=v0/\w'.cell? ⟨g,y,none⟩=v1/\w'.cell? ⟨b,0,none⟩=v2/\w'.cell? ⟨b,1,none⟩=v3/\w'.cell? ⟨b,2,none⟩=v4/\w'.cell? ⟨b,3,none⟩=v5 :=
 ⟨(B.cell (p:=⟨g,x,none⟩) hg).trans h.1,(B.cell (p:=⟨g,y,none⟩) hg).trans h.2.1,(B.cell (p:=⟨b,0,none⟩) hb).trans h.2.2.1,(B.cell (p:=⟨b,1,none⟩) hb).trans h.2.2.2.1,(B.cell (p:=⟨b,2,none⟩) hb).trans h.2.2.2.2.1,(B.cell (p:=⟨b,3,none⟩) hb).trans h.2.2.2.2.2⟩
theorem keep5 {w w':World}{g b x:Nat}{v0 v2 v3 v4 v5:Option Value}(B:Below w.heap.size w w')(hg:g<w.heap.size)(hb:b<w.heap.size)
  (h:w.cell? ⟨g,x,none⟩=v0/\w.cell? ⟨b,0,none⟩=v2/\w.cell? ⟨b,1,none⟩=v3/\w.cell? ⟨b,2,none⟩=v4/\w.cell? ⟨b,3,none⟩=v5) :
  w'.cell? ⟨g,x,none⟩=v0/\w'.cell? ⟨b,0,none⟩=v2/\w'.cell? ⟨b,1,none⟩=v3/\w'.cell? ⟨b,2,none⟩=v4/\w'.cell? ⟨b,3,none⟩=v5 :=
 ⟨(B.cell (p:=⟨g,x,none⟩) hg).trans h.1,(B.cell (p:=⟨b,0,none⟩) hb).trans h.2.1,(B.cell (p:=⟨b,1,none⟩) hb).trans h.2.2.1,(B.cell (p:=⟨b,2,none⟩) hb).trans h.2.2.2.1,(B.cell (p:=⟨b,3,none⟩) hb).trans h.2.2.2.2⟩
theorem word_walk (u:Int)(o a b:Nat)(ho:u / 72057594037927936=(o:Int))(ha:u / 268435456 % 268435456=(a:Int))(hb:u % 268435456=(b:Int))(h1:0<=u)(h2:u<18446744073709551616)
  (p:Pl) (c:Cd) (w:World) (hT:TabG w) (hR:Rul w) (hC:CdW w p c) :
  Calls Tryd.prog 55 #[.int .u64 u,cdV p c] w fun e w'=>e=.returned (.bool (wrdP c o a b))/\Below w.heap.size w w':=by
 have HP:∀ w,TabG w->Calls Tryd.prog 57 #[.int .u64 u] w fun e w'=>e=.returned (.tuple #[.int .i64 (o:Int),.int .i64 (a:Int),.int .i64 (b:Int)])/\Below w.heap.size w w':=fun w hT=>by
  have:=parts_anyG u w hT h1 h2
  rw[ho,ha,hb] at this;exact this
 have hob:o<256:=by omega
 have hab:a<268435456:=by omega
 have hbb:b<268435456:=by omega
 clear ho ha hb h1 h2;obtain⟨w1,hw1⟩:∃w1,w1=w.alloc (.cells (cdA p c) 33):=⟨_,rfl⟩
 obtain⟨b0G,hb0⟩:∃b0G,b0G=w.heap.size:=⟨_,rfl⟩
 have B1:Below w.heap.size w w1:=by rw[hw1];exact b1G _ _
 have K1:=box4_cells (w:=w1) (g:=b0G) (by rw[hw1,hb0];exact box4G _ _ _ _ _ _);have L1:b0G<w1.heap.size:=by rw[hw1,hb0];simp
 have T1:=hT.below B1;have R1:=hR.below B1;have C1:=hC.below B1;have HB0:Hid (b0G=w.heap.size):=hb0;clear hb0 hT hR hC;by_cases h28:o<28
 ·have g28:(o:Int)<28:=by omega
  obtain⟨hra,hrb⟩:=rul_le o;obtain⟨ra,hra'⟩:∃ra,ra=rulA.getD o 0:=⟨_,rfl⟩
  obtain⟨rb,hrb'⟩:∃rb,rb=rulB.getD o 0:=⟨_,rfl⟩
  have hX:wrdP c o a b=(mayB c ra a&&mayB c rb b&&(if (o:Int)=1/\(b:Int)=2 then mayB c 2 (c.cs.getD a 0) else if (o:Int)=2 then decide (0<=c.cs.getD a 0) else true)):=by
   have:decide ((o:Int)<28)=true:=by simpa using g28
   rw[hra',hrb'];unfold wrdP;rw[this,Bool.true_and,Int.toNat_natCast,Int.toNat_natCast]
  rw[hX];have hal:ra=8->mayB c ra a=true->a<c.cs.length:=fun e h=>by
   subst e;simp[mayB,spn] at h;omega
  have h12:o=1\/o=2->ra=8:=fun h=>by rw[hra'];rcases h with rfl|rfl<;>rfl
  rw[<-hra'] at hra;rw[<-hrb'] at hrb;have MA:=fun w=>may_c ra hra a p c w C1.lc C1.ln C1.lk;have MB:=fun w=>may_c rb hrb b p c w C1.lc C1.ln C1.lk;clear hX;have HX:∀ w,Rul w->w.cell? ⟨1,o*2,none⟩=some (.int .i64 (ra:Nat))/\w.cell? ⟨1,o*2+1,none⟩=some (.int .i64 (rb:Nat)):=fun w h=>by rw[hra',hrb'];exact h.2 o h28
  clear hra' hrb';have n28:¬(28:Int)<=(o:Int):=by omega
  have d28:decide ((28:Int)<=(o:Int))=false:=by simpa using g28
  cases hma:mayB c ra a
  ·rw[hma] at MA;rw[Bool.false_and,Bool.false_and];clear MB hal h12;go_enter Tryd.func55,Tryd.ntmps55;go_wp2_with fail;rw[<-hw1];refine(HP _ T1).mono ?_;rintro e w2 ⟨rfl,B2⟩;rw[<-HB0.out];have R2:=R1.below B2;have KA:1<w2.heap.size/\b0G<w2.heap.size:=⟨R2.1,Nat.lt_of_lt_of_le L1 B2.size⟩
   have KC:w2.cell? ⟨b0G,0,none⟩=some (.slice p.aw c.ws.length p.cw)/\w2.cell? ⟨b0G,1,none⟩=some (.slice p.ac c.cs.length p.cc)/\w2.cell? ⟨b0G,2,none⟩=some (.slice p.an c.ns.length p.cn)/\w2.cell? ⟨b0G,3,none⟩=some (.slice p.ak c.ks.length p.ck) :=
    ⟨(B2.cell (p:=⟨b0G,0,none⟩) L1).trans K1.1,(B2.cell (p:=⟨b0G,1,none⟩) L1).trans K1.2.1,(B2.cell (p:=⟨b0G,2,none⟩) L1).trans K1.2.2.1,(B2.cell (p:=⟨b0G,3,none⟩) L1).trans K1.2.2.2⟩
   have KB:(fun wx=>wx.cell? ⟨1,o*2,none⟩=some (.int .i64 (ra:Nat))/\wx.cell? ⟨1,o*2+1,none⟩=some (.int .i64 (rb:Nat))/\wx.cell? ⟨b0G,0,none⟩=some (.slice p.aw c.ws.length p.cw)/\wx.cell? ⟨b0G,1,none⟩=some (.slice p.ac c.cs.length p.cc)/\wx.cell? ⟨b0G,2,none⟩=some (.slice p.an c.ns.length p.cn)/\wx.cell? ⟨b0G,3,none⟩=some (.slice p.ak c.ks.length p.ck)) w2:=⟨(HX _ R2).1,(HX _ R2).2,KC⟩
   simp only at KB;have BB:=B1.trans (B2.mono B1.size);have C2:=C1.below B2;clear K1 HX KC;go_wp2_with fail;refine wp_region_held_drew (S:=(fun wx=>wx.cell? ⟨1,o*2,none⟩=some (.int .i64 (ra:Nat))/\wx.cell? ⟨1,o*2+1,none⟩=some (.int .i64 (rb:Nat))/\wx.cell? ⟨b0G,0,none⟩=some (.slice p.aw c.ws.length p.cw)/\wx.cell? ⟨b0G,1,none⟩=some (.slice p.ac c.cs.length p.cc)/\wx.cell? ⟨b0G,2,none⟩=some (.slice p.an c.ns.length p.cn)/\wx.cell? ⟨b0G,3,none⟩=some (.slice p.ak c.ks.length p.ck))) (by kernel_rfl) KB (fun hHeld=>?_);refine wpAnyH_take (i:=0) (v:=?v1) rfl (by kernel_rfl) (by kernel_rfl) (by kernel_rfl) (fun _ _ _ h=>h) (Or.inl ⟨by rfl,?hy1⟩) (by assumption) ?rest1
   case hy1=>(intro w hSw;(try dsimp only at hSw);go_simp;all_goals (with_reducible rfl))
   simp only[Act.put,List.getElem_toArray,List.getElem_cons_zero,List.getElem_cons_succ,List.setIfInBounds_toArray,List.set_cons_zero,List.set_cons_succ];refine wpAnyH_take (i:=1) (v:=?v2) rfl (by kernel_rfl) (by kernel_rfl) (by kernel_rfl) (fun _ _ _ h=>h) (Or.inl ⟨by rfl,?hy2⟩) (by assumption) ?rest2
   case hy2=>(intro w hSw;(try dsimp only at hSw);go_simp;all_goals (with_reducible rfl))
   simp only[Act.put,List.getElem_toArray,List.getElem_cons_zero,List.getElem_cons_succ,List.setIfInBounds_toArray,List.set_cons_zero,List.set_cons_succ];refine wpAnyH_take (i:=2) (v:=?v3) rfl (by kernel_rfl) (by kernel_rfl) (by kernel_rfl) (fun _ _ _ h=>h) (Or.inl ⟨by rfl,?hy3⟩) (by assumption) ?rest3
   case hy3=>(intro w hSw;(try dsimp only at hSw);go_simp;all_goals (with_reducible rfl))
   simp only[Act.put,List.getElem_toArray,List.getElem_cons_zero,List.getElem_cons_succ,List.setIfInBounds_toArray,List.set_cons_zero,List.set_cons_succ];refine wpAnyH_take (i:=3) (v:=?v4) rfl (by kernel_rfl) (by kernel_rfl) (by kernel_rfl) (fun _ _ _ h=>h) (Or.inl ⟨by rfl,?hy4⟩) (by assumption) ?rest4
   case hy4=>(intro w hSw;(try dsimp only at hSw);go_simp;all_goals (with_reducible rfl))
   simp only[Act.put,List.getElem_toArray,List.getElem_cons_zero,List.getElem_cons_succ,List.setIfInBounds_toArray,List.set_cons_zero,List.set_cons_succ];refine wpAnyH_take (i:=4) (v:=?v5) rfl (by kernel_rfl) (by kernel_rfl) (by kernel_rfl) (fun _ _ _ h=>h) (Or.inl ⟨by rfl,?hy5⟩) (by assumption) ?rest5
   case hy5=>(intro w hSw;(try dsimp only at hSw);go_simp;all_goals (with_reducible rfl))
   simp only[Act.put,List.getElem_toArray,List.getElem_cons_zero,List.getElem_cons_succ,List.setIfInBounds_toArray,List.set_cons_zero,List.set_cons_succ];refine wpAnyH_take (i:=5) (v:=?v6) rfl (by kernel_rfl) (by kernel_rfl) (by kernel_rfl) (fun _ _ _ h=>h) (Or.inl ⟨by rfl,?hy6⟩) (by assumption) ?rest6
   case hy6=>(intro w hSw;(try dsimp only at hSw);go_simp;all_goals (with_reducible rfl))
   simp only[Act.put,List.getElem_toArray,List.getElem_cons_zero,List.getElem_cons_succ,List.setIfInBounds_toArray,List.set_cons_zero,List.set_cons_succ];refine wpAnyH_take (i:=6) (v:=?v7) rfl (by kernel_rfl) (by kernel_rfl) (by kernel_rfl) (fun _ _ _ h=>h) (Or.inl ⟨by rfl,?hy7⟩) (by assumption) ?rest7
   case hy7=>(intro w hSw;(try dsimp only at hSw);obtain⟨z1,z2,z3,z4,z5,z6⟩:=hSw;go_simp;all_goals (with_reducible rfl))
   simp only[Act.put,List.getElem_toArray,List.getElem_cons_zero,List.getElem_cons_succ,List.setIfInBounds_toArray,List.set_cons_zero,List.set_cons_succ];refine wpAnyH_take (i:=7) (v:=?v8) rfl (by kernel_rfl) (by kernel_rfl) (by kernel_rfl) (fun _ _ _ h=>h) (Or.inl ⟨by rfl,?hy8⟩) (by assumption) ?rest8
   case hy8=>(intro w hSw;(try dsimp only at hSw);go_simp;all_goals (with_reducible rfl))
   simp only[Act.put,List.getElem_toArray,List.getElem_cons_zero,List.getElem_cons_succ,List.setIfInBounds_toArray,List.set_cons_zero,List.set_cons_succ];refine wpAnyH_take (i:=8) (v:=?v9) rfl (by kernel_rfl) (by kernel_rfl) (by kernel_rfl) (fun _ _ _ h=>h) (Or.inl ⟨by rfl,?hy9⟩) (by assumption) ?rest9
   case hy9=>(intro w hSw;(try dsimp only at hSw);obtain⟨z1,z2,z3,z4,z5,z6⟩:=hSw;go_simp;all_goals (with_reducible rfl))
   simp only[Act.put,List.getElem_toArray,List.getElem_cons_zero,List.getElem_cons_succ,List.setIfInBounds_toArray,List.set_cons_zero,List.set_cons_succ];refine wpAnyH_ready (rs:=[9]) (by kernel_rfl) (by simp) ?_;refine AllReadyH.cons rfl (fun K hK=>?_) AllReadyH.nil
   go_simp
   go_wp2_with (go_at_call 54;refine(MA _).mono ?_;rintro e w3 ⟨rfl,B3⟩;have KE:=keep6 B3 KA.1 KA.2 KB;have KD:=keep2 B3 KA);refine hK.out _ _ KE (fun hHeld=>?_);clear hK K;refine wpAnyH_take (i:=10) (v:=?v10) rfl (by kernel_rfl) (by kernel_rfl) (by kernel_rfl) (fun _ _ _ h=>h) (Or.inl ⟨by rfl,?hy10⟩) (by assumption) ?rest10
   case hy10=>(intro w hSw;(try dsimp only at hSw);go_simp;all_goals (with_reducible rfl))
   simp only[Act.put,List.getElem_toArray,List.getElem_cons_zero,List.getElem_cons_succ,List.setIfInBounds_toArray,List.set_cons_zero,List.set_cons_succ];refine wpAnyH_take (i:=11) (v:=?v11) rfl (by kernel_rfl) (by kernel_rfl) (by kernel_rfl) (fun _ _ _ h=>h) (Or.inl ⟨by rfl,?hy11⟩) (by assumption) ?rest11
   case hy11=>(intro w hSw;(try dsimp only at hSw);go_simp;all_goals (with_reducible rfl))
   simp only[Act.put,List.getElem_toArray,List.getElem_cons_zero,List.getElem_cons_succ,List.setIfInBounds_toArray,List.set_cons_zero,List.set_cons_succ];refine wpAnyH_take (i:=12) (v:=?v12) rfl (by kernel_rfl) (by kernel_rfl) (by kernel_rfl) (fun _ _ _ h=>h) (Or.inl ⟨by rfl,?hy12⟩) (by assumption) ?rest12
   case hy12=>(intro w hSw;(try dsimp only at hSw);go_simp;all_goals (with_reducible rfl))
   simp only[Act.put,List.getElem_toArray,List.getElem_cons_zero,List.getElem_cons_succ,List.setIfInBounds_toArray,List.set_cons_zero,List.set_cons_succ];refine wpAnyH_take (i:=13) (v:=undef) rfl (by kernel_rfl) (by kernel_rfl) (by kernel_rfl) (fun _ _ _ h=>h) (Or.inr ⟨?uw1,rfl⟩) (by assumption) ?urest1
   case uw1=>kernel_rfl
   simp only[Act.put,List.getElem_toArray,List.getElem_cons_zero,List.getElem_cons_succ,List.setIfInBounds_toArray,List.set_cons_zero,List.set_cons_succ];refine wpAnyH_take (i:=14) (v:=undef) rfl (by kernel_rfl) (by kernel_rfl) (by kernel_rfl) (fun _ _ _ h=>h) (Or.inr ⟨?uw2,rfl⟩) (by assumption) ?urest2
   case uw2=>kernel_rfl
   simp only[Act.put,List.getElem_toArray,List.getElem_cons_zero,List.getElem_cons_succ,List.setIfInBounds_toArray,List.set_cons_zero,List.set_cons_succ];refine wpAnyH_take (i:=15) (v:=undef) rfl (by kernel_rfl) (by kernel_rfl) (by kernel_rfl) (fun _ _ _ h=>h) (Or.inr ⟨?uw3,rfl⟩) (by assumption) ?urest3
   case uw3=>kernel_rfl
   simp only[Act.put,List.getElem_toArray,List.getElem_cons_zero,List.getElem_cons_succ,List.setIfInBounds_toArray,List.set_cons_zero,List.set_cons_succ];refine wpAnyH_take (i:=16) (v:=undef) rfl (by kernel_rfl) (by kernel_rfl) (by kernel_rfl) (fun _ _ _ h=>h) (Or.inr ⟨?uw4,rfl⟩) (by assumption) ?urest4
   case uw4=>kernel_rfl
   simp only[Act.put,List.getElem_toArray,List.getElem_cons_zero,List.getElem_cons_succ,List.setIfInBounds_toArray,List.set_cons_zero,List.set_cons_succ];refine wpAnyH_take (i:=17) (v:=undef) rfl (by kernel_rfl) (by kernel_rfl) (by kernel_rfl) (fun _ _ _ h=>h) (Or.inr ⟨?uw5,rfl⟩) (by assumption) ?urest5
   case uw5=>kernel_rfl
   simp only[Act.put,List.getElem_toArray,List.getElem_cons_zero,List.getElem_cons_succ,List.setIfInBounds_toArray,List.set_cons_zero,List.set_cons_succ];refine wpAnyH_take (i:=18) (v:=undef) rfl (by kernel_rfl) (by kernel_rfl) (by kernel_rfl) (fun _ _ _ h=>h) (Or.inr ⟨?uw6,rfl⟩) (by assumption) ?urest6
   case uw6=>kernel_rfl
   simp only[Act.put,List.getElem_toArray,List.getElem_cons_zero,List.getElem_cons_succ,List.setIfInBounds_toArray,List.set_cons_zero,List.set_cons_succ];refine wpAnyH_take (i:=19) (v:=undef) rfl (by kernel_rfl) (by kernel_rfl) (by kernel_rfl) (fun _ _ _ h=>h) (Or.inr ⟨?uw7,rfl⟩) (by assumption) ?urest7
   case uw7=>kernel_rfl
   simp only[Act.put,List.getElem_toArray,List.getElem_cons_zero,List.getElem_cons_succ,List.setIfInBounds_toArray,List.set_cons_zero,List.set_cons_succ];refine wpAnyH_take (i:=20) (v:=undef) rfl (by kernel_rfl) (by kernel_rfl) (by kernel_rfl) (fun _ _ _ h=>h) (Or.inr ⟨?uw8,rfl⟩) (by assumption) ?urest8
   case uw8=>kernel_rfl
   simp only[Act.put,List.getElem_toArray,List.getElem_cons_zero,List.getElem_cons_succ,List.setIfInBounds_toArray,List.set_cons_zero,List.set_cons_succ];refine wpAnyH_take (i:=21) (v:=?v13) rfl (by kernel_rfl) (by kernel_rfl) (by kernel_rfl) (fun _ _ _ h=>h) (Or.inl ⟨by rfl,?hy13⟩) (by assumption) ?rest13
   case hy13=>(intro w hSw;(try dsimp only at hSw);go_simp;all_goals (with_reducible rfl))
   simp only[Act.put,List.getElem_toArray,List.getElem_cons_zero,List.getElem_cons_succ,List.setIfInBounds_toArray,List.set_cons_zero,List.set_cons_succ];refine wpAnyH_done (by kernel_rfl) ?_ _;go_wp2;go_ret;exact⟨rfl,BB.drew.trans (B3.mono BB.size)⟩
  ·rw[hma] at MA;cases hmb:mayB c rb b
   ·rw[hmb] at MB;rw[Bool.true_and,Bool.false_and];clear hal h12;go_enter Tryd.func55,Tryd.ntmps55;go_wp2_with fail;rw[<-hw1];refine(HP _ T1).mono ?_;rintro e w2 ⟨rfl,B2⟩;rw[<-HB0.out];have R2:=R1.below B2;have KA:1<w2.heap.size/\b0G<w2.heap.size:=⟨R2.1,Nat.lt_of_lt_of_le L1 B2.size⟩
    have KC:w2.cell? ⟨b0G,0,none⟩=some (.slice p.aw c.ws.length p.cw)/\w2.cell? ⟨b0G,1,none⟩=some (.slice p.ac c.cs.length p.cc)/\w2.cell? ⟨b0G,2,none⟩=some (.slice p.an c.ns.length p.cn)/\w2.cell? ⟨b0G,3,none⟩=some (.slice p.ak c.ks.length p.ck) :=
     ⟨(B2.cell (p:=⟨b0G,0,none⟩) L1).trans K1.1,(B2.cell (p:=⟨b0G,1,none⟩) L1).trans K1.2.1,(B2.cell (p:=⟨b0G,2,none⟩) L1).trans K1.2.2.1,(B2.cell (p:=⟨b0G,3,none⟩) L1).trans K1.2.2.2⟩
    have KB:(fun wx=>wx.cell? ⟨1,o*2,none⟩=some (.int .i64 (ra:Nat))/\wx.cell? ⟨1,o*2+1,none⟩=some (.int .i64 (rb:Nat))/\wx.cell? ⟨b0G,0,none⟩=some (.slice p.aw c.ws.length p.cw)/\wx.cell? ⟨b0G,1,none⟩=some (.slice p.ac c.cs.length p.cc)/\wx.cell? ⟨b0G,2,none⟩=some (.slice p.an c.ns.length p.cn)/\wx.cell? ⟨b0G,3,none⟩=some (.slice p.ak c.ks.length p.ck)) w2:=⟨(HX _ R2).1,(HX _ R2).2,KC⟩
    simp only at KB;have BB:=B1.trans (B2.mono B1.size);have C2:=C1.below B2;clear K1 HX KC;go_wp2_with fail;refine wp_region_held_drew (S:=(fun wx=>wx.cell? ⟨1,o*2,none⟩=some (.int .i64 (ra:Nat))/\wx.cell? ⟨1,o*2+1,none⟩=some (.int .i64 (rb:Nat))/\wx.cell? ⟨b0G,0,none⟩=some (.slice p.aw c.ws.length p.cw)/\wx.cell? ⟨b0G,1,none⟩=some (.slice p.ac c.cs.length p.cc)/\wx.cell? ⟨b0G,2,none⟩=some (.slice p.an c.ns.length p.cn)/\wx.cell? ⟨b0G,3,none⟩=some (.slice p.ak c.ks.length p.ck))) (by kernel_rfl) KB (fun hHeld=>?_);refine wpAnyH_take (i:=0) (v:=?v14) rfl (by kernel_rfl) (by kernel_rfl) (by kernel_rfl) (fun _ _ _ h=>h) (Or.inl ⟨by rfl,?hy14⟩) (by assumption) ?rest14
    case hy14=>(intro w hSw;(try dsimp only at hSw);go_simp;all_goals (with_reducible rfl))
    simp only[Act.put,List.getElem_toArray,List.getElem_cons_zero,List.getElem_cons_succ,List.setIfInBounds_toArray,List.set_cons_zero,List.set_cons_succ];refine wpAnyH_take (i:=1) (v:=?v15) rfl (by kernel_rfl) (by kernel_rfl) (by kernel_rfl) (fun _ _ _ h=>h) (Or.inl ⟨by rfl,?hy15⟩) (by assumption) ?rest15
    case hy15=>(intro w hSw;(try dsimp only at hSw);go_simp;all_goals (with_reducible rfl))
    simp only[Act.put,List.getElem_toArray,List.getElem_cons_zero,List.getElem_cons_succ,List.setIfInBounds_toArray,List.set_cons_zero,List.set_cons_succ];refine wpAnyH_take (i:=2) (v:=?v16) rfl (by kernel_rfl) (by kernel_rfl) (by kernel_rfl) (fun _ _ _ h=>h) (Or.inl ⟨by rfl,?hy16⟩) (by assumption) ?rest16
    case hy16=>(intro w hSw;(try dsimp only at hSw);go_simp;all_goals (with_reducible rfl))
    simp only[Act.put,List.getElem_toArray,List.getElem_cons_zero,List.getElem_cons_succ,List.setIfInBounds_toArray,List.set_cons_zero,List.set_cons_succ];refine wpAnyH_take (i:=3) (v:=?v17) rfl (by kernel_rfl) (by kernel_rfl) (by kernel_rfl) (fun _ _ _ h=>h) (Or.inl ⟨by rfl,?hy17⟩) (by assumption) ?rest17
    case hy17=>(intro w hSw;(try dsimp only at hSw);go_simp;all_goals (with_reducible rfl))
    simp only[Act.put,List.getElem_toArray,List.getElem_cons_zero,List.getElem_cons_succ,List.setIfInBounds_toArray,List.set_cons_zero,List.set_cons_succ];refine wpAnyH_take (i:=4) (v:=?v18) rfl (by kernel_rfl) (by kernel_rfl) (by kernel_rfl) (fun _ _ _ h=>h) (Or.inl ⟨by rfl,?hy18⟩) (by assumption) ?rest18
    case hy18=>(intro w hSw;(try dsimp only at hSw);go_simp;all_goals (with_reducible rfl))
    simp only[Act.put,List.getElem_toArray,List.getElem_cons_zero,List.getElem_cons_succ,List.setIfInBounds_toArray,List.set_cons_zero,List.set_cons_succ];refine wpAnyH_take (i:=5) (v:=?v19) rfl (by kernel_rfl) (by kernel_rfl) (by kernel_rfl) (fun _ _ _ h=>h) (Or.inl ⟨by rfl,?hy19⟩) (by assumption) ?rest19
    case hy19=>(intro w hSw;(try dsimp only at hSw);go_simp;all_goals (with_reducible rfl))
    simp only[Act.put,List.getElem_toArray,List.getElem_cons_zero,List.getElem_cons_succ,List.setIfInBounds_toArray,List.set_cons_zero,List.set_cons_succ];refine wpAnyH_take (i:=6) (v:=?v20) rfl (by kernel_rfl) (by kernel_rfl) (by kernel_rfl) (fun _ _ _ h=>h) (Or.inl ⟨by rfl,?hy20⟩) (by assumption) ?rest20
    case hy20=>(intro w hSw;(try dsimp only at hSw);obtain⟨z1,z2,z3,z4,z5,z6⟩:=hSw;go_simp;all_goals (with_reducible rfl))
    simp only[Act.put,List.getElem_toArray,List.getElem_cons_zero,List.getElem_cons_succ,List.setIfInBounds_toArray,List.set_cons_zero,List.set_cons_succ];refine wpAnyH_take (i:=7) (v:=?v21) rfl (by kernel_rfl) (by kernel_rfl) (by kernel_rfl) (fun _ _ _ h=>h) (Or.inl ⟨by rfl,?hy21⟩) (by assumption) ?rest21
    case hy21=>(intro w hSw;(try dsimp only at hSw);go_simp;all_goals (with_reducible rfl))
    simp only[Act.put,List.getElem_toArray,List.getElem_cons_zero,List.getElem_cons_succ,List.setIfInBounds_toArray,List.set_cons_zero,List.set_cons_succ];refine wpAnyH_take (i:=8) (v:=?v22) rfl (by kernel_rfl) (by kernel_rfl) (by kernel_rfl) (fun _ _ _ h=>h) (Or.inl ⟨by rfl,?hy22⟩) (by assumption) ?rest22
    case hy22=>(intro w hSw;(try dsimp only at hSw);obtain⟨z1,z2,z3,z4,z5,z6⟩:=hSw;go_simp;all_goals (with_reducible rfl))
    simp only[Act.put,List.getElem_toArray,List.getElem_cons_zero,List.getElem_cons_succ,List.setIfInBounds_toArray,List.set_cons_zero,List.set_cons_succ];refine wpAnyH_ready (rs:=[9]) (by kernel_rfl) (by simp) ?_;refine AllReadyH.cons rfl (fun K hK=>?_) AllReadyH.nil
    go_simp
    go_wp2_with (go_at_call 54;refine(MA _).mono ?_;rintro e w3 ⟨rfl,B3⟩;have KE:=keep6 B3 KA.1 KA.2 KB;have KD:=keep2 B3 KA);refine hK.out _ _ KE (fun hHeld=>?_);clear hK K;refine wpAnyH_take (i:=10) (v:=?v23) rfl (by kernel_rfl) (by kernel_rfl) (by kernel_rfl) (fun _ _ _ h=>h) (Or.inl ⟨by rfl,?hy23⟩) (by assumption) ?rest23
    case hy23=>(intro w hSw;(try dsimp only at hSw);go_simp;all_goals (with_reducible rfl))
    simp only[Act.put,List.getElem_toArray,List.getElem_cons_zero,List.getElem_cons_succ,List.setIfInBounds_toArray,List.set_cons_zero,List.set_cons_succ];refine wpAnyH_take (i:=11) (v:=?v24) rfl (by kernel_rfl) (by kernel_rfl) (by kernel_rfl) (fun _ _ _ h=>h) (Or.inl ⟨by rfl,?hy24⟩) (by assumption) ?rest24
    case hy24=>(intro w hSw;(try dsimp only at hSw);go_simp;all_goals (with_reducible rfl))
    simp only[Act.put,List.getElem_toArray,List.getElem_cons_zero,List.getElem_cons_succ,List.setIfInBounds_toArray,List.set_cons_zero,List.set_cons_succ];refine wpAnyH_take (i:=12) (v:=?v25) rfl (by kernel_rfl) (by kernel_rfl) (by kernel_rfl) (fun _ _ _ h=>h) (Or.inl ⟨by rfl,?hy25⟩) (by assumption) ?rest25
    case hy25=>(intro w hSw;(try dsimp only at hSw);go_simp;all_goals (with_reducible rfl))
    simp only[Act.put,List.getElem_toArray,List.getElem_cons_zero,List.getElem_cons_succ,List.setIfInBounds_toArray,List.set_cons_zero,List.set_cons_succ];refine wpAnyH_take (i:=13) (v:=?v26) rfl (by kernel_rfl) (by kernel_rfl) (by kernel_rfl) (fun _ _ _ h=>h) (Or.inl ⟨by rfl,?hy26⟩) (by assumption) ?rest26
    case hy26=>(intro w hSw;(try dsimp only at hSw);go_simp;all_goals (with_reducible rfl))
    simp only[Act.put,List.getElem_toArray,List.getElem_cons_zero,List.getElem_cons_succ,List.setIfInBounds_toArray,List.set_cons_zero,List.set_cons_succ];refine wpAnyH_take (i:=14) (v:=?v27) rfl (by kernel_rfl) (by kernel_rfl) (by kernel_rfl) (fun _ _ _ h=>h) (Or.inl ⟨by rfl,?hy27⟩) (by assumption) ?rest27
    case hy27=>(intro w hSw;(try dsimp only at hSw);go_simp;all_goals (with_reducible rfl))
    simp only[Act.put,List.getElem_toArray,List.getElem_cons_zero,List.getElem_cons_succ,List.setIfInBounds_toArray,List.set_cons_zero,List.set_cons_succ];refine wpAnyH_take (i:=15) (v:=?v28) rfl (by kernel_rfl) (by kernel_rfl) (by kernel_rfl) (fun _ _ _ h=>h) (Or.inl ⟨by rfl,?hy28⟩) (by assumption) ?rest28
    case hy28=>(intro w hSw;(try dsimp only at hSw);go_simp;all_goals (with_reducible rfl))
    simp only[Act.put,List.getElem_toArray,List.getElem_cons_zero,List.getElem_cons_succ,List.setIfInBounds_toArray,List.set_cons_zero,List.set_cons_succ];refine wpAnyH_take (i:=16) (v:=?v29) rfl (by kernel_rfl) (by kernel_rfl) (by kernel_rfl) (fun _ _ _ h=>h) (Or.inl ⟨by rfl,?hy29⟩) (by assumption) ?rest29
    case hy29=>(intro w hSw;(try dsimp only at hSw);obtain⟨z1,z2,z3,z4,z5,z6⟩:=hSw;go_simp;all_goals (with_reducible rfl))
    simp only[Act.put,List.getElem_toArray,List.getElem_cons_zero,List.getElem_cons_succ,List.setIfInBounds_toArray,List.set_cons_zero,List.set_cons_succ];refine wpAnyH_take (i:=17) (v:=?v30) rfl (by kernel_rfl) (by kernel_rfl) (by kernel_rfl) (fun _ _ _ h=>h) (Or.inl ⟨by rfl,?hy30⟩) (by assumption) ?rest30
    case hy30=>(intro w hSw;(try dsimp only at hSw);go_simp;all_goals (with_reducible rfl))
    simp only[Act.put,List.getElem_toArray,List.getElem_cons_zero,List.getElem_cons_succ,List.setIfInBounds_toArray,List.set_cons_zero,List.set_cons_succ];refine wpAnyH_take (i:=18) (v:=?v31) rfl (by kernel_rfl) (by kernel_rfl) (by kernel_rfl) (fun _ _ _ h=>h) (Or.inl ⟨by rfl,?hy31⟩) (by assumption) ?rest31
    case hy31=>(intro w hSw;(try dsimp only at hSw);obtain⟨z1,z2,z3,z4,z5,z6⟩:=hSw;go_simp;all_goals (with_reducible rfl))
    simp only[Act.put,List.getElem_toArray,List.getElem_cons_zero,List.getElem_cons_succ,List.setIfInBounds_toArray,List.set_cons_zero,List.set_cons_succ];refine wpAnyH_ready (rs:=[19]) (by kernel_rfl) (by simp) ?_;refine AllReadyH.cons rfl (fun K hK=>?_) AllReadyH.nil
    go_simp
    go_wp2_with (go_at_call 54;refine(MB _).mono ?_;rintro e w4 ⟨rfl,B4⟩;have KF:=keep6 B4 KD.1 KD.2 KE;have KG:=keep2 B4 KD);refine hK.out _ _ KF (fun hHeld=>?_);clear hK K;refine wpAnyH_take (i:=20) (v:=?v32) rfl (by kernel_rfl) (by kernel_rfl) (by kernel_rfl) (fun _ _ _ h=>h) (Or.inl ⟨by rfl,?hy32⟩) (by assumption) ?rest32
    case hy32=>(intro w hSw;(try dsimp only at hSw);go_simp;all_goals (with_reducible rfl))
    simp only[Act.put,List.getElem_toArray,List.getElem_cons_zero,List.getElem_cons_succ,List.setIfInBounds_toArray,List.set_cons_zero,List.set_cons_succ];refine wpAnyH_take (i:=21) (v:=?v33) rfl (by kernel_rfl) (by kernel_rfl) (by kernel_rfl) (fun _ _ _ h=>h) (Or.inl ⟨by rfl,?hy33⟩) (by assumption) ?rest33
    case hy33=>(intro w hSw;(try dsimp only at hSw);go_simp;all_goals (with_reducible rfl))
    simp only[Act.put,List.getElem_toArray,List.getElem_cons_zero,List.getElem_cons_succ,List.setIfInBounds_toArray,List.set_cons_zero,List.set_cons_succ];refine wpAnyH_done (by kernel_rfl) ?_ _;go_wp2;go_ret;exact⟨rfl,(BB.drew.trans (B3.mono BB.size)).trans (B4.mono (Nat.le_trans BB.size B3.size))⟩
   ·rw[hmb] at MB;rw[Bool.true_and,Bool.true_and];have hal':=fun h=>hal h hma;obtain⟨X,hX⟩:∃X:Bool,X=(if (o:Int)=1/\(b:Int)=2 then mayB c 2 (c.cs.getD a 0) else if (o:Int)=2 then decide (0<=c.cs.getD a 0) else true):=⟨_,rfl⟩
    rw[<-hX];have HX2:Hid (X=(if (o:Int)=1/\(b:Int)=2 then mayB c 2 (c.cs.getD a 0) else if (o:Int)=2 then decide (0<=c.cs.getD a 0) else true)):=hX;clear hX hal;go_enter Tryd.func55,Tryd.ntmps55;go_wp2_with fail;rw[<-hw1];refine(HP _ T1).mono ?_;rintro e w2 ⟨rfl,B2⟩;rw[<-HB0.out];have R2:=R1.below B2;have KA:1<w2.heap.size/\b0G<w2.heap.size:=⟨R2.1,Nat.lt_of_lt_of_le L1 B2.size⟩
    have KC:w2.cell? ⟨b0G,0,none⟩=some (.slice p.aw c.ws.length p.cw)/\w2.cell? ⟨b0G,1,none⟩=some (.slice p.ac c.cs.length p.cc)/\w2.cell? ⟨b0G,2,none⟩=some (.slice p.an c.ns.length p.cn)/\w2.cell? ⟨b0G,3,none⟩=some (.slice p.ak c.ks.length p.ck) :=
     ⟨(B2.cell (p:=⟨b0G,0,none⟩) L1).trans K1.1,(B2.cell (p:=⟨b0G,1,none⟩) L1).trans K1.2.1,(B2.cell (p:=⟨b0G,2,none⟩) L1).trans K1.2.2.1,(B2.cell (p:=⟨b0G,3,none⟩) L1).trans K1.2.2.2⟩
    have KB:(fun wx=>wx.cell? ⟨1,o*2,none⟩=some (.int .i64 (ra:Nat))/\wx.cell? ⟨1,o*2+1,none⟩=some (.int .i64 (rb:Nat))/\wx.cell? ⟨b0G,0,none⟩=some (.slice p.aw c.ws.length p.cw)/\wx.cell? ⟨b0G,1,none⟩=some (.slice p.ac c.cs.length p.cc)/\wx.cell? ⟨b0G,2,none⟩=some (.slice p.an c.ns.length p.cn)/\wx.cell? ⟨b0G,3,none⟩=some (.slice p.ak c.ks.length p.ck)) w2:=⟨(HX _ R2).1,(HX _ R2).2,KC⟩
    simp only at KB;have BB:=B1.trans (B2.mono B1.size);have C2:=C1.below B2;clear K1 HX KC;go_wp2_with fail;refine wp_region_held_drew (S:=(fun wx=>wx.cell? ⟨1,o*2,none⟩=some (.int .i64 (ra:Nat))/\wx.cell? ⟨1,o*2+1,none⟩=some (.int .i64 (rb:Nat))/\wx.cell? ⟨b0G,0,none⟩=some (.slice p.aw c.ws.length p.cw)/\wx.cell? ⟨b0G,1,none⟩=some (.slice p.ac c.cs.length p.cc)/\wx.cell? ⟨b0G,2,none⟩=some (.slice p.an c.ns.length p.cn)/\wx.cell? ⟨b0G,3,none⟩=some (.slice p.ak c.ks.length p.ck))) (by kernel_rfl) KB (fun hHeld=>?_);refine wpAnyH_take (i:=0) (v:=?v34) rfl (by kernel_rfl) (by kernel_rfl) (by kernel_rfl) (fun _ _ _ h=>h) (Or.inl ⟨by rfl,?hy34⟩) (by assumption) ?rest34
    case hy34=>(intro w hSw;(try dsimp only at hSw);go_simp;all_goals (with_reducible rfl))
    simp only[Act.put,List.getElem_toArray,List.getElem_cons_zero,List.getElem_cons_succ,List.setIfInBounds_toArray,List.set_cons_zero,List.set_cons_succ];refine wpAnyH_take (i:=1) (v:=?v35) rfl (by kernel_rfl) (by kernel_rfl) (by kernel_rfl) (fun _ _ _ h=>h) (Or.inl ⟨by rfl,?hy35⟩) (by assumption) ?rest35
    case hy35=>(intro w hSw;(try dsimp only at hSw);go_simp;all_goals (with_reducible rfl))
    simp only[Act.put,List.getElem_toArray,List.getElem_cons_zero,List.getElem_cons_succ,List.setIfInBounds_toArray,List.set_cons_zero,List.set_cons_succ];refine wpAnyH_take (i:=2) (v:=?v36) rfl (by kernel_rfl) (by kernel_rfl) (by kernel_rfl) (fun _ _ _ h=>h) (Or.inl ⟨by rfl,?hy36⟩) (by assumption) ?rest36
    case hy36=>(intro w hSw;(try dsimp only at hSw);go_simp;all_goals (with_reducible rfl))
    simp only[Act.put,List.getElem_toArray,List.getElem_cons_zero,List.getElem_cons_succ,List.setIfInBounds_toArray,List.set_cons_zero,List.set_cons_succ];refine wpAnyH_take (i:=3) (v:=?v37) rfl (by kernel_rfl) (by kernel_rfl) (by kernel_rfl) (fun _ _ _ h=>h) (Or.inl ⟨by rfl,?hy37⟩) (by assumption) ?rest37
    case hy37=>(intro w hSw;(try dsimp only at hSw);go_simp;all_goals (with_reducible rfl))
    simp only[Act.put,List.getElem_toArray,List.getElem_cons_zero,List.getElem_cons_succ,List.setIfInBounds_toArray,List.set_cons_zero,List.set_cons_succ];refine wpAnyH_take (i:=4) (v:=?v38) rfl (by kernel_rfl) (by kernel_rfl) (by kernel_rfl) (fun _ _ _ h=>h) (Or.inl ⟨by rfl,?hy38⟩) (by assumption) ?rest38
    case hy38=>(intro w hSw;(try dsimp only at hSw);go_simp;all_goals (with_reducible rfl))
    simp only[Act.put,List.getElem_toArray,List.getElem_cons_zero,List.getElem_cons_succ,List.setIfInBounds_toArray,List.set_cons_zero,List.set_cons_succ];refine wpAnyH_take (i:=5) (v:=?v39) rfl (by kernel_rfl) (by kernel_rfl) (by kernel_rfl) (fun _ _ _ h=>h) (Or.inl ⟨by rfl,?hy39⟩) (by assumption) ?rest39
    case hy39=>(intro w hSw;(try dsimp only at hSw);go_simp;all_goals (with_reducible rfl))
    simp only[Act.put,List.getElem_toArray,List.getElem_cons_zero,List.getElem_cons_succ,List.setIfInBounds_toArray,List.set_cons_zero,List.set_cons_succ];refine wpAnyH_take (i:=6) (v:=?v40) rfl (by kernel_rfl) (by kernel_rfl) (by kernel_rfl) (fun _ _ _ h=>h) (Or.inl ⟨by rfl,?hy40⟩) (by assumption) ?rest40
    case hy40=>(intro w hSw;(try dsimp only at hSw);obtain⟨z1,z2,z3,z4,z5,z6⟩:=hSw;go_simp;all_goals (with_reducible rfl))
    simp only[Act.put,List.getElem_toArray,List.getElem_cons_zero,List.getElem_cons_succ,List.setIfInBounds_toArray,List.set_cons_zero,List.set_cons_succ];refine wpAnyH_take (i:=7) (v:=?v41) rfl (by kernel_rfl) (by kernel_rfl) (by kernel_rfl) (fun _ _ _ h=>h) (Or.inl ⟨by rfl,?hy41⟩) (by assumption) ?rest41
    case hy41=>(intro w hSw;(try dsimp only at hSw);go_simp;all_goals (with_reducible rfl))
    simp only[Act.put,List.getElem_toArray,List.getElem_cons_zero,List.getElem_cons_succ,List.setIfInBounds_toArray,List.set_cons_zero,List.set_cons_succ];refine wpAnyH_take (i:=8) (v:=?v42) rfl (by kernel_rfl) (by kernel_rfl) (by kernel_rfl) (fun _ _ _ h=>h) (Or.inl ⟨by rfl,?hy42⟩) (by assumption) ?rest42
    case hy42=>(intro w hSw;(try dsimp only at hSw);obtain⟨z1,z2,z3,z4,z5,z6⟩:=hSw;go_simp;all_goals (with_reducible rfl))
    simp only[Act.put,List.getElem_toArray,List.getElem_cons_zero,List.getElem_cons_succ,List.setIfInBounds_toArray,List.set_cons_zero,List.set_cons_succ];refine wpAnyH_ready (rs:=[9]) (by kernel_rfl) (by simp) ?_;refine AllReadyH.cons rfl (fun K hK=>?_) AllReadyH.nil
    go_simp
    go_wp2_with (go_at_call 54;refine(MA _).mono ?_;rintro e w3 ⟨rfl,B3⟩;have KE:=keep6 B3 KA.1 KA.2 KB;have KD:=keep2 B3 KA);refine hK.out _ _ KE (fun hHeld=>?_);clear hK K;refine wpAnyH_take (i:=10) (v:=?v43) rfl (by kernel_rfl) (by kernel_rfl) (by kernel_rfl) (fun _ _ _ h=>h) (Or.inl ⟨by rfl,?hy43⟩) (by assumption) ?rest43
    case hy43=>(intro w hSw;(try dsimp only at hSw);go_simp;all_goals (with_reducible rfl))
    simp only[Act.put,List.getElem_toArray,List.getElem_cons_zero,List.getElem_cons_succ,List.setIfInBounds_toArray,List.set_cons_zero,List.set_cons_succ];refine wpAnyH_take (i:=11) (v:=?v44) rfl (by kernel_rfl) (by kernel_rfl) (by kernel_rfl) (fun _ _ _ h=>h) (Or.inl ⟨by rfl,?hy44⟩) (by assumption) ?rest44
    case hy44=>(intro w hSw;(try dsimp only at hSw);go_simp;all_goals (with_reducible rfl))
    simp only[Act.put,List.getElem_toArray,List.getElem_cons_zero,List.getElem_cons_succ,List.setIfInBounds_toArray,List.set_cons_zero,List.set_cons_succ];refine wpAnyH_take (i:=12) (v:=?v45) rfl (by kernel_rfl) (by kernel_rfl) (by kernel_rfl) (fun _ _ _ h=>h) (Or.inl ⟨by rfl,?hy45⟩) (by assumption) ?rest45
    case hy45=>(intro w hSw;(try dsimp only at hSw);go_simp;all_goals (with_reducible rfl))
    simp only[Act.put,List.getElem_toArray,List.getElem_cons_zero,List.getElem_cons_succ,List.setIfInBounds_toArray,List.set_cons_zero,List.set_cons_succ];refine wpAnyH_take (i:=13) (v:=?v46) rfl (by kernel_rfl) (by kernel_rfl) (by kernel_rfl) (fun _ _ _ h=>h) (Or.inl ⟨by rfl,?hy46⟩) (by assumption) ?rest46
    case hy46=>(intro w hSw;(try dsimp only at hSw);go_simp;all_goals (with_reducible rfl))
    simp only[Act.put,List.getElem_toArray,List.getElem_cons_zero,List.getElem_cons_succ,List.setIfInBounds_toArray,List.set_cons_zero,List.set_cons_succ];refine wpAnyH_take (i:=14) (v:=?v47) rfl (by kernel_rfl) (by kernel_rfl) (by kernel_rfl) (fun _ _ _ h=>h) (Or.inl ⟨by rfl,?hy47⟩) (by assumption) ?rest47
    case hy47=>(intro w hSw;(try dsimp only at hSw);go_simp;all_goals (with_reducible rfl))
    simp only[Act.put,List.getElem_toArray,List.getElem_cons_zero,List.getElem_cons_succ,List.setIfInBounds_toArray,List.set_cons_zero,List.set_cons_succ];refine wpAnyH_take (i:=15) (v:=?v48) rfl (by kernel_rfl) (by kernel_rfl) (by kernel_rfl) (fun _ _ _ h=>h) (Or.inl ⟨by rfl,?hy48⟩) (by assumption) ?rest48
    case hy48=>(intro w hSw;(try dsimp only at hSw);go_simp;all_goals (with_reducible rfl))
    simp only[Act.put,List.getElem_toArray,List.getElem_cons_zero,List.getElem_cons_succ,List.setIfInBounds_toArray,List.set_cons_zero,List.set_cons_succ];refine wpAnyH_take (i:=16) (v:=?v49) rfl (by kernel_rfl) (by kernel_rfl) (by kernel_rfl) (fun _ _ _ h=>h) (Or.inl ⟨by rfl,?hy49⟩) (by assumption) ?rest49
    case hy49=>(intro w hSw;(try dsimp only at hSw);obtain⟨z1,z2,z3,z4,z5,z6⟩:=hSw;go_simp;all_goals (with_reducible rfl))
    simp only[Act.put,List.getElem_toArray,List.getElem_cons_zero,List.getElem_cons_succ,List.setIfInBounds_toArray,List.set_cons_zero,List.set_cons_succ];refine wpAnyH_take (i:=17) (v:=?v50) rfl (by kernel_rfl) (by kernel_rfl) (by kernel_rfl) (fun _ _ _ h=>h) (Or.inl ⟨by rfl,?hy50⟩) (by assumption) ?rest50
    case hy50=>(intro w hSw;(try dsimp only at hSw);go_simp;all_goals (with_reducible rfl))
    simp only[Act.put,List.getElem_toArray,List.getElem_cons_zero,List.getElem_cons_succ,List.setIfInBounds_toArray,List.set_cons_zero,List.set_cons_succ];refine wpAnyH_take (i:=18) (v:=?v51) rfl (by kernel_rfl) (by kernel_rfl) (by kernel_rfl) (fun _ _ _ h=>h) (Or.inl ⟨by rfl,?hy51⟩) (by assumption) ?rest51
    case hy51=>(intro w hSw;(try dsimp only at hSw);obtain⟨z1,z2,z3,z4,z5,z6⟩:=hSw;go_simp;all_goals (with_reducible rfl))
    simp only[Act.put,List.getElem_toArray,List.getElem_cons_zero,List.getElem_cons_succ,List.setIfInBounds_toArray,List.set_cons_zero,List.set_cons_succ];refine wpAnyH_ready (rs:=[19]) (by kernel_rfl) (by simp) ?_;refine AllReadyH.cons rfl (fun K hK=>?_) AllReadyH.nil
    go_simp
    go_wp2_with (go_at_call 54;refine(MB _).mono ?_;rintro e w4 ⟨rfl,B4⟩;have KF:=keep6 B4 KD.1 KD.2 KE;have KG:=keep2 B4 KD);refine hK.out _ _ KF (fun hHeld=>?_);clear hK K;refine wpAnyH_take (i:=20) (v:=?v52) rfl (by kernel_rfl) (by kernel_rfl) (by kernel_rfl) (fun _ _ _ h=>h) (Or.inl ⟨by rfl,?hy52⟩) (by assumption) ?rest52
    case hy52=>(intro w hSw;(try dsimp only at hSw);go_simp;all_goals (with_reducible rfl))
    simp only[Act.put,List.getElem_toArray,List.getElem_cons_zero,List.getElem_cons_succ,List.setIfInBounds_toArray,List.set_cons_zero,List.set_cons_succ];refine wpAnyH_take (i:=21) (v:=?v53) rfl (by kernel_rfl) (by kernel_rfl) (by kernel_rfl) (fun _ _ _ h=>h) (Or.inl ⟨by rfl,?hy53⟩) (by assumption) ?rest53
    case hy53=>(intro w hSw;(try dsimp only at hSw);go_simp;all_goals (with_reducible rfl))
    simp only[Act.put,List.getElem_toArray,List.getElem_cons_zero,List.getElem_cons_succ,List.setIfInBounds_toArray,List.set_cons_zero,List.set_cons_succ];refine wpAnyH_done (by kernel_rfl) ?_ _;have B5:=(BB.drew.trans (B3.mono BB.size)).trans (B4.mono (Nat.le_trans BB.size B3.size));have C4:=((C2.below (Below.refl _ w2).drew).below B3).below B4;clear MA MB hHeld B3 B4 BB B2 KB KE KA KD B1 C2 C1 R1 R2 T1;obtain⟨-,-,k0,k1,k2,k3⟩:=KF;by_cases o1:o=1
    ·have hlt:=hal' (h12 (.inl o1));obtain⟨cb,co,hac,hcb,hcx⟩:=C4.cs.at (isV_at hlt);have hl4:=C4.lc;have MC:=fun w=>may_c 2 (by omega) (c.cs.getD a 0) p c w C4.lc C4.ln C4.lk;have oI:(o:Int)=1:=by omega
     have haI:(a:Int)<(c.cs.length:Int):=by omega
     by_cases hb2:b=2
     ·have bI:(b:Int)=2:=by omega
      have fin:X=mayB c 2 (c.cs.getD a 0):=by rw[HX2.out,if_pos ⟨oI,bI⟩]
      clear HX2 hal' h12;rw[<-fin] at MC;clear fin;generalize c.cs.getD a 0=z at MC hcx;rw[hac] at k1;have KH:w4.cell? ⟨cb,co+a,none⟩=some (.int .i64 z)/\w4.cell? ⟨b0G,0,none⟩=some (.slice p.aw c.ws.length p.cw)/\w4.cell? ⟨b0G,1,none⟩=some (.slice (some ⟨cb,co,none⟩) c.cs.length p.cc)/\w4.cell? ⟨b0G,2,none⟩=some (.slice p.an c.ns.length p.cn)/\w4.cell? ⟨b0G,3,none⟩=some (.slice p.ak c.ks.length p.ck):=⟨hcx,k0,k1,k2,k3⟩
      unfold cdV cdA at MC;rw[hac] at MC;go_wp2_with fail;go_region_held3 (fun wx=>wx.cell? ⟨cb,co+a,none⟩=some (.int .i64 z)/\wx.cell? ⟨b0G,0,none⟩=some (.slice p.aw c.ws.length p.cw)/\wx.cell? ⟨b0G,1,none⟩=some (.slice (some ⟨cb,co,none⟩) c.cs.length p.cc)/\wx.cell? ⟨b0G,2,none⟩=some (.slice p.an c.ns.length p.cn)/\wx.cell? ⟨b0G,3,none⟩=some (.slice p.ak c.ks.length p.ck)) (first|exact KH|go_keep) ((go_at_call 54;refine(MC _).mono ?_;rintro e w5 ⟨rfl,B6⟩;have KH:=keep5 B6 hcb KG.2 KH));go_wp2;go_ret;exact⟨rfl,B5.drew.trans (B6.mono B5.size)⟩
     ·have bI:¬(b:Int)=2:=by omega
      have fin:X=true:=by rw[HX2.out,if_neg (fun h=>bI h.2),if_neg (by omega)]
      clear HX2 hal' h12;subst fin;go_wp2;go_ret;exact⟨rfl,B5⟩
    ·have oI:¬(o:Int)=1:=by omega
     by_cases o2:o=2
     ·have hlt:=hal' (h12 (.inr o2));obtain⟨cb,co,hac,hcb,hcx⟩:=C4.cs.at (isV_at hlt);have hl4:=C4.lc;have oJ:(o:Int)=2:=by omega
      have haI:(a:Int)<(c.cs.length:Int):=by omega
      have fin:X=decide (0<=c.cs.getD a 0):=by rw[HX2.out,if_neg (fun h=>oI h.1),if_pos oJ]
      clear HX2 hal' h12;generalize c.cs.getD a 0=z at hcx fin;have FN:=Lib.hid fin;clear fin;rw[hac] at k1;go_wp2;go_ret;exact⟨by rw[FN.out];rfl,B5⟩
     ·have oJ:¬(o:Int)=2:=by omega
      have fin:X=true:=by rw[HX2.out,if_neg (fun h=>oI h.1),if_neg oJ]
      clear HX2 hal' h12;subst fin;go_wp2;go_ret;exact⟨rfl,B5⟩
 ·have fin:wrdP c o a b=false:=by
   have:decide ((o:Int)<28)=false:=by simp;omega
   unfold wrdP;rw[this];rfl
  rw[fin];have g28:(28:Int)<=(o:Int):=by omega
  go_enter Tryd.func55,Tryd.ntmps55;go_wp2_with fail;rw[<-hw1];refine(HP _ T1).mono ?_;rintro e w2 ⟨rfl,B2⟩;go_wp2_with fail
  go_quiet (fail)
  go_wp2;go_ret;exact⟨rfl,B1.trans ((B2.trans ((below_drewNG _ _).mono B2.size)).mono B1.size)⟩
theorem wordRight_c (u:Int)(h1:0<=u)(h2:u<18446744073709551616)(p:Pl)(c:Cd)(w:World)(hT:TabG w)(hR:Rul w)(hC:CdW w p c) :
  Calls Tryd.prog 55 #[.int .u64 u,cdV p c] w fun e w'=>e=.returned (.bool (wrdB c u))/\Below w.heap.size w w':=by
 obtain⟨o,ho⟩:=Int.eq_ofNat_of_zero_le (show 0<=u / 72057594037927936 by omega);obtain⟨a,ha⟩:=Int.eq_ofNat_of_zero_le (show 0<=u / 268435456 % 268435456 by omega);obtain⟨b,hb⟩:=Int.eq_ofNat_of_zero_le (show 0<=u % 268435456 by omega);have e:wrdB c u=wrdP c o a b:=by
  unfold wrdB;rw[show opW u=(o:Int) from ho,show aW u=(a:Int) from ha,show bW u=(b:Int) from hb,wrd_same c o a b (by omega) (by omega) (by omega) (by omega) (by omega)]
 rw[e];exact word_walk u o a b ho ha hb h1 h2 p c w hT hR hC
structure Fx (w:World):Prop where
 tab:TabG w
 rul:Rul w
 wd:WdG w
theorem Fx.below {w w':World}(h:Fx w)(B:Below w.heap.size w w'):Fx w':=⟨h.tab.below B,h.rul.below B,h.wd.below B⟩
theorem wsV_at {l:List Int}{k:Nat}(h:k<l.length):(wsV l)[k]?=some (.int .u64 l[k]):=by
 simp[wsV,List.getElem?_eq_getElem h]
theorem isV_get {l:List Int}{k:Nat}(h:k<l.length):(isV l)[k]?=some (.int .i64 l[k]):=by
 simp[isV,List.getElem?_eq_getElem h]
theorem nsV_at {l:List ByteArray}{k:Nat}(h:k<l.length):(nsV l)[k]?=some (.string l[k]):=by
 simp[nsV,List.getElem?_eq_getElem h]
theorem all_next {α:Type}(f:α->Bool)(l:List α)(k:Nat)(h:k<l.length):(l.take (k+1)).all f=((l.take k).all f&&f l[k]):=by
 rw[List.take_succ_eq_append_getElem h,List.all_append];simp
theorem all_no {α:Type}(f:α->Bool)(l:List α)(k:Nat)(h:k<l.length)(hf:f l[k]=false):l.all f=false:=by
 rw[<-Bool.not_eq_true,List.all_eq_true];intro H
 have:=H _ (List.getElem_mem h)
 rw[hf] at this;cases this
abbrev bx4 (p:Pl)(c:Cd)(w:World)(b:Nat):Prop:=w.cell? ⟨b,0,none⟩=some (.slice p.aw c.ws.length p.cw)/\w.cell? ⟨b,1,none⟩=some (.slice p.ac c.cs.length p.cc)/\w.cell? ⟨b,2,none⟩=some (.slice p.an c.ns.length p.cn)/\w.cell? ⟨b,3,none⟩=some (.slice p.ak c.ks.length p.ck)
theorem bx4_below {p:Pl}{c:Cd}{w w':World}{b:Nat}(h:bx4 p c w b)(hb:b<w.heap.size)(B:Below w.heap.size w w'):bx4 p c w' b :=
 ⟨(B.cell (p:=⟨b,0,none⟩) hb).trans h.1,(B.cell (p:=⟨b,1,none⟩) hb).trans h.2.1,(B.cell (p:=⟨b,2,none⟩) hb).trans h.2.2.1,(B.cell (p:=⟨b,3,none⟩) hb).trans h.2.2.2⟩
theorem bx4_new (p:Pl)(c:Cd)(w:World):bx4 p c (w.alloc (.cells (cdA p c) 33)) w.heap.size:=box4_cells (box4G _ _ _ _ _ _)
theorem wordsRight_c (p:Pl)(c:Cd)(w:World)(hF:Fx w)(hC:CdW w p c) :
  Calls Tryd.prog 34 #[cdV p c] w fun e w'=>e=.returned (.bool (wdsB c))/\Below w.heap.size w w':=by
 obtain⟨w1,hw1⟩:∃w1,w1=w.alloc (.cells (cdA p c) 33):=⟨_,rfl⟩
 obtain⟨b0G,hb0⟩:∃b0G,b0G=w.heap.size:=⟨_,rfl⟩
 have B1:Below w.heap.size w w1:=by rw[hw1];exact b1G _ _
 have K1:bx4 p c w1 b0G:=by rw[hw1,hb0];exact bx4_new p c w
 have L1:b0G<w1.heap.size:=by rw[hw1,hb0];simp
 have F1:=hF.below B1;have C1:=hC.below B1;have HB0:Hid (b0G=w.heap.size):=hb0;clear hb0 hF hC;have hlw:=C1.lw;obtain⟨k0,k1,k2,k3⟩:=K1;by_cases h0:c.ws.length=0
 ·have fin:wdsB c=false:=by simp[wdsB,h0]
  rw[fin];have h0I:(c.ws.length:Int)=0:=by omega
  go_enter Tryd.func34,Tryd.ntmps34;go_wp2_with fail;rw[<-hw1,<-HB0.out];clear hw1;go_wp2;go_ret;exact⟨rfl,by first|(rw[HB0.out];exact B1)|exact B1⟩
 have h0I:¬(c.ws.length:Int)=0:=by omega
 by_cases h1:32768<c.ws.length
 ·have fin:wdsB c=false:=by
   have:decide (c.ws.length<=32768)=false:=by simp;omega
   unfold wdsB;rw[this];simp
  rw[fin];have h1I:(32768:Int)<(c.ws.length:Int):=by omega
  go_enter Tryd.func34,Tryd.ntmps34;go_wp2_with fail;rw[<-hw1,<-HB0.out];clear hw1;go_wp2;go_ret;exact⟨rfl,by first|(rw[HB0.out];exact B1)|exact B1⟩
 have h1I:¬(32768:Int)<(c.ws.length:Int):=by omega
 have fin:wdsB c=c.ws.all (wrdB c):=by
  have e1:decide (0<c.ws.length)=true:=by simp;omega
  have e2:decide (c.ws.length<=32768)=true:=by simp;omega
  unfold wdsB;rw[e1,e2];simp
 rw[fin];clear fin;go_enter Tryd.func34,Tryd.ntmps34;go_wp2_with fail;rw[<-hw1,<-HB0.out];clear hw1;go_wp2_with fail;go_loopw [18] (fun v wr=>∃k:Nat,v=.int .i64 (k:Nat)/\k<=c.ws.length/\Hid ((c.ws.take k).all (wrdB c)=true)/\Below w1.heap.size w1 wr) (fun v _=>c.ws.length-(intOf v).toNat)
 case atStart=>exact⟨0,by go_num,by omega,rfl,Below.refl _ _⟩
 case round =>
  obtain⟨k,rfl,hk,HA,BR⟩:=hrel;by_cases hlt:k<c.ws.length
  ·have hkI:(k:Int)<(c.ws.length:Int):=by omega
   have CR:=C1.below BR;have FR:=F1.below BR;obtain⟨q0,q1,q2,q3⟩:=bx4_below ⟨k0,k1,k2,k3⟩ L1 BR;obtain⟨wb,wo,haw,hwl,hcx⟩:=CR.ws.at (wsV_at hlt);have hu:=C1.ok.ws _ (List.getElem_mem hlt);have WR:=fun w1 F1 C1=>wordRight_c (c.ws[k]) hu.1 hu.2 p c w1 (Fx.tab F1) (Fx.rul F1) C1;have HN:Hid ((c.ws.take (k+1)).all (wrdB c)=wrdB c c.ws[k]):=by
    show _=_;rw[all_next _ _ _ hlt,HA.out,Bool.true_and]
   have HZ:Hid (wrdB c c.ws[k]=false->c.ws.all (wrdB c)=false):=all_no _ _ _ hlt;generalize wrdB c c.ws[k]=bb at WR HN HZ;generalize c.ws[k]=u at *;unfold cdV cdA at WR;rw[haw] at WR;clear k0 k1 k2 k3;rw[haw] at q0 ;cases bb
   ·have fin:=HZ.out rfl;rw[haw];go_wp2_with (go_at_call 55;refine(WR _ FR CR).mono ?_;rintro e w5 ⟨rfl,B6⟩);go_ret;exact⟨by first|rfl|(rw[fin];rfl),B1.trans ((BR.trans (B6.mono BR.size)).mono B1.size)⟩
   ·rw[haw];go_wp2_with (go_at_call 55;refine(WR _ FR CR).mono ?_;rintro e w5 ⟨rfl,B6⟩);go_roundw
    case rel=>(try ((repeat apply Exists.intro);refine⟨?_,rfl⟩));exact⟨k+1,by go_num,by omega,HN.out,BR.trans (B6.mono BR.size)⟩
    case measure=>simp[intOf];omega
  ·have hkI:¬(k:Int)<(c.ws.length:Int):=by omega
   have fin:c.ws.all (wrdB c)=true:=by
    have:=HA.out
    rw[List.take_of_length_le (by omega)] at this;exact this
   go_wp2;go_ret;exact⟨by first|rfl|(rw[fin];rfl),B1.trans (BR.mono B1.size)⟩
theorem listsRight_c (p:Pl)(c:Cd)(w:World)(hF:Fx w)(hC:CdW w p c) :
  Calls Tryd.prog 33 #[cdV p c] w fun e w'=>e=.returned (.bool (lstB c))/\Below w.heap.size w w':=by
 obtain⟨w1,hw1⟩:∃w1,w1=w.alloc (.cells (cdA p c) 33):=⟨_,rfl⟩
 obtain⟨b0G,hb0⟩:∃b0G,b0G=w.heap.size:=⟨_,rfl⟩
 have B1:Below w.heap.size w w1:=by rw[hw1];exact b1G _ _
 have K1:bx4 p c w1 b0G:=by rw[hw1,hb0];exact bx4_new p c w
 have L1:b0G<w1.heap.size:=by rw[hw1,hb0];simp
 have F1:=hF.below B1;have C1:=hC.below B1;have HB0:Hid (b0G=w.heap.size):=hb0;clear hb0 hF hC;have hlw:=C1.lw;have hlc:=C1.lc;have hln:=C1.ln;have hlk:=C1.lk;obtain⟨k0,k1,k2,k3⟩:=K1;cases hle:lenB c
 ·have fin:lstB c=false:=by simp[lstB,hle]
  rw[fin];have hx:(32768:Int)<(c.cs.length:Int)\/(¬(32768:Int)<(c.cs.length:Int)/\(2000:Int)<(c.ns.length:Int))\/(¬(32768:Int)<(c.cs.length:Int)/\¬(2000:Int)<(c.ns.length:Int)/\(256:Int)<(c.ks.length:Int)):=by
   have:¬(c.cs.length<=32768/\c.ns.length<=2000/\c.ks.length<=256):=fun ⟨h1,h2,h3⟩=>by simp[lenB,h1,h2,h3] at hle
   omega
  clear hle fin;rcases hx with x1|⟨x1,x2⟩|⟨x1,x2,x3⟩
  all_goals
   go_enter Tryd.func33,Tryd.ntmps33;go_wp2_with fail;rw[<-hw1,<-HB0.out];clear hw1;go_wp2;go_ret;exact⟨rfl,by first|(rw[HB0.out];exact B1)|exact B1⟩
 ·have hl3:c.cs.length<=32768/\c.ns.length<=2000/\c.ks.length<=256:=by simpa [lenB,and_assoc] using hle
  have fin:lstB c=(c.ns.all (fun s=>nameBG s.data.toList)&&c.ks.all kndB):=by simp[lstB,hle]
  rw[fin];clear fin hle;have x1:¬(32768:Int)<(c.cs.length:Int):=by omega
  have x2:¬(2000:Int)<(c.ns.length:Int):=by omega
  have x3:¬(256:Int)<(c.ks.length:Int):=by omega
  obtain⟨NB,hNB⟩:∃NB:Bool,NB=c.ns.all (fun s=>nameBG s.data.toList):=⟨_,rfl⟩
  obtain⟨KB,hKB⟩:∃KB:Bool,KB=c.ks.all kndB:=⟨_,rfl⟩
  rw[<-hNB,<-hKB];have HNB:=Lib.hid hNB;have HKB:=Lib.hid hKB;clear hNB hKB;go_enter Tryd.func33,Tryd.ntmps33;go_wp2_with fail;rw[<-hw1,<-HB0.out];clear hw1;go_wp2_with fail;go_loopw [26] (fun v wr=>∃k:Nat,v=.int .i64 (k:Nat)/\k<=c.ns.length/\Hid ((c.ns.take k).all (fun s=>nameBG s.data.toList)=true)/\Below w1.heap.size w1 wr) (fun v _=>c.ns.length-(intOf v).toNat)
  case atStart=>exact⟨0,by go_num,by omega,rfl,Below.refl _ _⟩
  case round =>
   obtain⟨k,rfl,hk,HA,BR⟩:=hrel;by_cases hlt:k<c.ns.length
   ·have hkI:(k:Int)<(c.ns.length:Int):=by omega
    have CR:=C1.below BR;have FR:=F1.below BR;obtain⟨q0,q1,q2,q3⟩:=bx4_below ⟨k0,k1,k2,k3⟩ L1 BR;obtain⟨wb,wo,haw,hwl,hcx⟩:=CR.ns.at (nsV_at hlt);have hu:=C1.ok.ns _ (List.getElem_mem hlt);have WR:=fun w=>name_cG (c.ns[k]) w;have HN:Hid ((c.ns.take (k+1)).all (fun s=>nameBG s.data.toList)=nameBG (c.ns[k]).data.toList):=by
     show _=_;rw[all_next _ _ _ hlt,HA.out,Bool.true_and]
    have HZ:Hid (nameBG (c.ns[k]).data.toList=false->NB=false):=fun h=>by rw[HNB.out];exact all_no _ _ _ hlt h
    generalize nameBG (c.ns[k]).data.toList=bb at WR HN HZ;generalize c.ns[k]=u at *;clear k0 k1 k2 k3;cases bb
    ·have fin:=HZ.out rfl;rw[haw];go_wp2_with (go_at_call 53;refine(WR _ FR.wd hu).mono ?_;rintro e w5 ⟨rfl,B6⟩);go_ret;exact⟨by first|rfl|(rw[fin];rfl),B1.trans ((BR.trans (B6.mono BR.size)).mono B1.size)⟩
    ·rw[haw];go_wp2_with (go_at_call 53;refine(WR _ FR.wd hu).mono ?_;rintro e w5 ⟨rfl,B6⟩);go_roundw
     case rel=>(try ((repeat apply Exists.intro);refine⟨?_,rfl⟩));exact⟨k+1,by go_num,by omega,HN.out,BR.trans (B6.mono BR.size)⟩
     case measure=>simp[intOf];omega
   ·have hkI:¬(k:Int)<(c.ns.length:Int):=by omega
    have fin:NB=true:=by
     have:=HA.out
     rw[List.take_of_length_le (by omega)] at this;rw[HNB.out];exact this
    have CW:=C1.below BR;have FW:=F1.below BR;have QW:=bx4_below ⟨k0,k1,k2,k3⟩ L1 BR;have LW:=Nat.lt_of_lt_of_le L1 BR.size;have BW:=B1.trans (BR.mono B1.size);subst fin;clear k0 k1 k2 k3 HA HNB hlt;obtain⟨k0,k1,k2,k3⟩:=QW;go_wp2_with fail;go_loopw [37] (fun v ws=>∃j:Nat,v=.int .i64 (j:Nat)/\j<=c.ks.length/\Hid ((c.ks.take j).all kndB=true)/\Below wr.heap.size wr ws) (fun v _=>c.ks.length-(intOf v).toNat)
    case atStart=>exact⟨0,by go_num,by omega,rfl,Below.refl _ _⟩
    case round =>
     rename_i ws
     obtain⟨j,rfl,hj,HA,BS⟩:=hrel;by_cases hlt:j<c.ks.length
     ·have hjI:(j:Int)<(c.ks.length:Int):=by omega
      have CS:=CW.below BS;obtain⟨q0,q1,q2,q3⟩:=bx4_below ⟨k0,k1,k2,k3⟩ LW BS;obtain⟨wb,wo,haw,hwl,hcx⟩:=CS.ks.at (isV_get hlt);have WR:=fun w=>may_c 7 (by omega) (c.ks[j]) p c w hlc hln hlk;have e7:mayB c 7 (c.ks[j])=kndB (c.ks[j]):=rfl;rw[e7] at WR;have HN:Hid ((c.ks.take (j+1)).all kndB=kndB (c.ks[j])):=by
       show _=_;rw[all_next _ _ _ hlt,HA.out,Bool.true_and]
      have HZ:Hid (kndB (c.ks[j])=false->KB=false):=fun h=>by rw[HKB.out];exact all_no _ _ _ hlt h
      clear e7;generalize kndB (c.ks[j])=bb at WR HN HZ;generalize c.ks[j]=u at *;unfold cdV cdA at WR;rw[haw] at WR;clear k0 k1 k2 k3;rw[haw] at q3;cases bb
      ·have fin:=HZ.out rfl;rw[haw];go_wp2_with (go_at_call 54;refine(WR _).mono ?_;rintro e w5 ⟨rfl,B6⟩);go_ret;exact⟨by first|rfl|(rw[fin];rfl),BW.trans ((BS.trans (B6.mono BS.size)).mono BW.size)⟩
      ·rw[haw];go_wp2_with (go_at_call 54;refine(WR _).mono ?_;rintro e w5 ⟨rfl,B6⟩);go_roundw
       case rel=>(try ((repeat apply Exists.intro);refine⟨?_,rfl⟩));exact⟨j+1,by go_num,by omega,HN.out,BS.trans (B6.mono BS.size)⟩
       case measure=>simp[intOf];omega
     ·have hjI:¬(j:Int)<(c.ks.length:Int):=by omega
      have fin:KB=true:=by
       have:=HA.out
       rw[List.take_of_length_le (by omega)] at this;rw[HKB.out];exact this
      go_wp2;go_ret;exact⟨by first|rfl|(rw[fin];rfl),BW.trans (BS.mono BW.size)⟩
theorem right_c (p:Pl)(c:Cd)(w:World)(hF:Fx w)(hC:CdW w p c) :
  Calls Tryd.prog 17 #[cdV p c] w fun e w'=>e=.returned (.bool (rgtB c))/\Below w.heap.size w w':=by
 obtain⟨w1,hw1⟩:∃w1,w1=w.alloc (.cells (cdA p c) 33):=⟨_,rfl⟩
 obtain⟨b0G,hb0⟩:∃b0G,b0G=w.heap.size:=⟨_,rfl⟩
 have B1:Below w.heap.size w w1:=by rw[hw1];exact b1G _ _
 have K1:bx4 p c w1 b0G:=by rw[hw1,hb0];exact bx4_new p c w
 have L1:b0G<w1.heap.size:=by rw[hw1,hb0];simp
 have F1:=hF.below B1;have C1:=hC.below B1;have HB0:Hid (b0G=w.heap.size):=hb0;clear hb0 hF hC;obtain⟨k0,k1,k2,k3⟩:=K1;have R1:=listsRight_c p c w1 F1 C1;have fin:rgtB c=(lstB c&&wdsB c):=rfl;rw[fin];cases hl:lstB c
 ·rw[hl] at R1;rw[Bool.false_and];go_enter Tryd.func17,Tryd.ntmps17;go_wp2_with fail;rw[<-hw1,<-HB0.out];clear hw1;go_wp2_with (go_at_call 33;refine R1.mono ?_;rintro e w2 ⟨rfl,B2⟩);go_ret;exact⟨rfl,by first|(rw[HB0.out];exact B1.trans (B2.mono B1.size))|exact B1.trans (B2.mono B1.size)⟩
 ·rw[hl] at R1;rw[Bool.true_and];have R2:=fun w2 F2 C2=>wordsRight_c p c w2 F2 C2;generalize wdsB c=X at R2;go_enter Tryd.func17,Tryd.ntmps17;go_wp2_with fail;rw[<-hw1,<-HB0.out];clear hw1;go_wp2_with (first|(go_at_call 33;refine R1.mono ?_;rintro e w2 ⟨rfl,B2⟩;have F2:=F1.below B2;have C2:=C1.below B2;obtain⟨q0,q1,q2,q3⟩:=bx4_below ⟨k0,k1,k2,k3⟩ L1 B2)|(go_at_call 34;refine(R2 _ F2 C2).mono ?_;rintro e w3 ⟨rfl,B3⟩));go_ret;exact⟨rfl,by first|(rw[HB0.out];exact B1.trans ((B2.trans (B3.mono B2.size)).mono B1.size))|exact B1.trans ((B2.trans (B3.mono B2.size)).mono B1.size)⟩
theorem Step.ofBelowG {I:Nat->Prop}{w w':World}(o:Nat->Nat)(h:Below w.heap.size w w'):Step I w o w' o:=⟨h.os,h.tape,h.output,h.size,fun _ _=>rfl,fun k hk _=>h.block k hk⟩
theorem infoW:(Tryd.prog.info? 54).map (fun i=>(i.zero,i.size,i.bytes))=some (some (.int .u64 0),1,8):=by kernel_rfl
theorem one_one (v:Value)(h:v.oneCell'=true):∀ u ∈ [v],u.oneCell'=true:=by
 intro u hu;simp at hu;subst hu;exact h
abbrev nil4:Array Value:=#[.slice none 0 0,.slice none 0 0,.slice none 0 0,.slice none 0 0]
theorem cells4 {w:World}{b:Nat}{x0 x1 x2 x3:Value}{t:TypeId}(h:w.heap[b]?=some (.cells #[x0,x1,x2,x3] t)):(w.cell? ⟨b,0,none⟩=some x0/\w.cell? ⟨b,1,none⟩=some x1/\w.cell? ⟨b,2,none⟩=some x2/\w.cell? ⟨b,3,none⟩=some x3)/\∀ j,w.frozen? ⟨b,j,none⟩=false:=by
 refine⟨⟨?_,?_,?_,?_⟩,fun j=>?_⟩<;>simp[World.cell?,World.frozen?,h]
theorem set4c {w:World}{b:Nat}{x0 x1 x2 x3:Value}{t:TypeId}(y0 y1 y2 y3:Value)(h:w.heap[b]?=some (.cells #[x0,x1,x2,x3] t)):((((w.setCell ⟨b,0,none⟩ y0).setCell ⟨b,1,none⟩ y1).setCell ⟨b,2,none⟩ y2).setCell ⟨b,3,none⟩ y3).heap[b]?=some (.cells #[y0,y1,y2,y3] t) :=
 heap_setCell_same _ b 3 _ _ _ (heap_setCell_same _ b 2 _ _ _ (heap_setCell_same _ b 1 _ _ _ (heap_setCell_same w b 0 _ _ _ h)))
theorem Row.lsv {w:World}{o:Nat->Nat}{i:Nat}{e:TypeId}{ao:Option Addr}{n cap:Nat}{xs:List Value}(h:Row w o i e 1 (.slice ao n cap) n xs):Lsv w ao xs:=by
 by_cases hn:0<n
 ·obtain⟨g,c,hv,-,-,-,hlt,hc,-⟩:=h.pos hn;simp only[Value.slice.injEq,true_and] at hv;refine .inr ⟨g,0,hv.1,hlt,fun j x hx=>?_⟩;have hl:=h.len;have hj:j<n*1:=by have:=(List.getElem?_eq_some_iff.1 hx).1;omega
  rw[Nat.zero_add,hc j hj];exact hx
 ·have hl:=h.len;exact .inl (List.eq_nil_of_length_eq_zero (by omega))
theorem bdt {g:Nat}{a b c:World}(h:Below g a b)(k:Below b.heap.size b c)(hg:g<=b.heap.size):Below g a c:=h.trans (k.mono hg)
structure Kb (b:Nat)(w w':World):Prop where
 os:w'.os=w.os
 tape:w'.tape=w.tape
 output:w'.output=w.output
 size:w.heap.size<=w'.heap.size
 block:∀ k,k<w.heap.size->k≠b->w'.heap[k]?=w.heap[k]?
theorem Kb.refl (b:Nat)(w:World):Kb b w w:=⟨rfl,rfl,rfl,Nat.le_refl _,fun _ _ _=>rfl⟩
theorem Kb.trans {b:Nat}{x y z:World}(h:Kb b x y)(k:Kb b y z):Kb b x z :=
 ⟨k.os.trans h.os,k.tape.trans h.tape,k.output.trans h.output,Nat.le_trans h.size k.size,fun i hi hn=>(k.block i (Nat.lt_of_lt_of_le hi h.size) hn).trans (h.block i hi hn)⟩
theorem Kb.ofBelowG {b:Nat}{w w':World}(h:Below w.heap.size w w'):Kb b w w':=⟨h.os,h.tape,h.output,h.size,fun k hk _=>h.block k hk⟩
theorem Kb.set {b:Nat}{a w:World}(h:Kb b a w)(n:Nat)(u:Value):Kb b a (w.setCell ⟨b,n,none⟩ u) :=
 h.trans ⟨rfl,rfl,rfl,by simp,fun k hk hn=>heap_setCell_other w _ k u hn⟩
theorem Kb.drew {b:Nat}{a w:World}(h:Kb b a w):Kb b a w.drew:=h.trans ⟨rfl,rfl,rfl,Nat.le_refl _,fun _ _ _=>rfl⟩
theorem Kb.step {b:Nat}{w w':World}(h:Kb b w w')(o:Nat->Nat){I:Nat->Prop}(hb:I (o b)):Step I w o w' o :=
 ⟨h.os,h.tape,h.output,h.size,fun _ _=>rfl,fun k hk hn=>h.block k hk (fun e=>hn (by rw[e];exact hb))⟩
theorem Kb.below {b n:Nat}{w w':World}(h:Kb b w w')(hb:n<=b)(hs:n<=w.heap.size):Below n w w':=⟨h.os,h.tape,h.output,h.size,fun k hk=>h.block k (by omega) (by omega)⟩
abbrev StB (w:World)(b:Nat)(s:StG):Prop:=w.heap[b]?=some (.cells (stC s).toArray 81 (0,0))
theorem StB.lt {w:World}{b:Nat}{s:StG}(h:StB w b s):b<w.heap.size:=lt_of_block h
theorem blk_cell {w:World}{b:Nat}{cs:List Value}{t:TypeId}(h:w.heap[b]?=some (.cells cs.toArray t (0,0)))(j:Nat):w.cell? ⟨b,j,none⟩=cs[j]?:=by
 rw[cell_of_row w b j _ t (0,0) h];simp
theorem blk_frz {w:World}{b:Nat}{cs:List Value}{t:TypeId}(h:w.heap[b]?=some (.cells cs.toArray t (0,0)))(j:Nat):w.frozen? ⟨b,j,none⟩=false :=
 frozen_of_row w b j _ t h
theorem blk_set {w:World}{b n:Nat}{cs:List Value}{t:TypeId}(h:w.heap[b]?=some (.cells cs.toArray t (0,0)))(u:Value):(w.setCell ⟨b,n,none⟩ u).heap[b]?=some (.cells (cs.set n u).toArray t (0,0)):=by
 have:=heap_setCell_same w b n _ t u h
 simpa using this
theorem ret_two2 {a b c d:Int}(h:a=b)(g:c=d):Ending.returned (.tuple #[.int .i64 a,.int .i64 c])=.returned (.tuple #[.int .i64 b,.int .i64 d]):=by rw[h,g]
theorem place_cG (h:Nat)(w:World)(hh:h<=1024):Calls Tryd.prog 77 #[.int .i64 (h:Nat)] w fun e w'=>e=.returned (.tuple #[.int .i64 ((h / 32:Nat):Nat),.int .i64 ((h % 32*2:Nat):Nat)])/\w'=w:=by
 go_enter Tryd.func77,Tryd.ntmps77;go_wp2;go_ret2;exact⟨ret_two2 (by omega) (by omega),rfl⟩
def PostPu (b:Nat)(s:StG)(k:Nat)(w:World)(e:Ending)(w':World):Prop :=
 Kb b w w'/\if s.1.length<1024 then e=.returned (.bool true)/\StB w' b (s.1++[k],s.2) else e=.returned (.bool false)
theorem push_cG (b:Nat)(s:StG)(k:Nat)(w:World)(S:StOkG s)(hk:1<=k/\k<=3)(hB:StB w b s) :
  Calls Tryd.prog 63 #[.pointer (some ⟨b,0,none⟩),.int .i64 (k:Nat)] w (PostPu b s k w):=by
 obtain⟨l,r⟩:=s;have hlen:=S.len;simp only at hlen;have c32:=(blk_cell hB 32).trans (stC_ht (l,r));have f32:=blk_frz hB 32;obtain⟨h,hh⟩:∃h,h=l.length:=⟨_,rfl⟩
 simp only[<-hh] at c32 hlen;by_cases hlt:h<1024
 ·have hP:Hid (∀ e w',e=.returned (.bool true)->Kb b w w'->StB w' b (l++[k],r)->PostPu b (l,r) k w e w'):=fun e w' h1 h2 h3=>⟨h2,by rw[if_pos (by show l.length<1024;omega)];exact⟨h1,h3⟩⟩;have cq:=(blk_cell hB (h / 32)).trans (stC_get (l,r) (by omega));have fq:=blk_frz hB (h / 32);have hlt2:=(gk_top S.kd hh.symm).2;have hsp:=stC_push l r k (by omega);rw[<-hh] at hsp;simp only at cq hlt2;generalize gk l (h / 32)=a at *;have hne:¬(h:Int)=1024:=by omega
  have PC:=fun w=>place_cG h w (by omega);have hkw:IntKind.u64.wrap ((k:Nat):Int)=(k:Int):=by rw[IntKind.wrap_u64];omega
  obtain⟨q,hq⟩:∃q,q=h / 32:=⟨_,rfl⟩
  obtain⟨m,hm⟩:∃m,m=h % 32:=⟨_,rfl⟩
  have e1:=pk_wrap (k:=k) (r:=m) hk.2 (by omega);have e2:=pk_or (a:=a) (k:=k) (r:=m) hk.2 (by omega) (by rw[hm];exact hlt2);rw[<-hq,<-hm] at hsp PC;rw[<-hq] at cq fq;have hq32:q<32:=by omega
  have hm32:m<32:=by omega
  have hqn:q≠32:=by omega
  obtain⟨n,hn⟩:∃n,n=a+k*4 ^ m:=⟨_,rfl⟩
  obtain⟨u,hu⟩:∃u,u=k*4 ^ m:=⟨_,rfl⟩
  rw[<-hn] at e2 hsp;rw[<-hu] at e1 e2;obtain⟨w1,hw1⟩:∃w1,w1=(w.setCell ⟨b,q,none⟩ (.int .u64 (n:Nat))).drew:=⟨_,rfl⟩
  have HB1:w1.heap[b]?=some (.cells ((stC (l,r)).set q (.int .u64 (n:Nat))).toArray 81 (0,0)):=by rw[hw1];exact blk_set hB _
  have HK1:Kb b w w1:=by rw[hw1];exact((Kb.refl b w).set q _).drew
  have d32:w1.cell? ⟨b,32,none⟩=some (.int .i64 (h:Nat)):=by
   rw[blk_cell HB1,List.getElem?_set,if_neg hqn,stC_ht,hh]
  have g32:=blk_frz HB1 32;have HB2:StB (w1.setCell ⟨b,32,none⟩ (.int .i64 ((h+1:Nat):Nat))) b (l++[k],r):=by
   have:=blk_set (n:=32) HB1 (.int .i64 ((h+1:Nat):Nat))
   rw[hsp] at this;exact this
  have HZ:=Lib.hid (hP.out _ _ rfl (HK1.set 32 (.int .i64 ((h+1:Nat):Nat))) HB2);have HW1:=Lib.hid hw1;have E1:=Lib.hid e1;have E2:=Lib.hid e2;have hhI:((h:Int)+1)=((h+1:Nat):Int):=by omega
  have HI:=Lib.hid hhI;clear hP hw1 HB1 HK1 HB2 hsp hn hu hq hm e1 e2 hh S hB hlt2 hhI;go_enter Tryd.func63,Tryd.ntmps63;go_upto_region 4 with (go_at_call 77;refine(PC _).mono ?_;rintro e w1 ⟨rfl,rfl⟩)
  go_region;rw[E1.out,E2.out,<-HW1.out];clear HW1 c32 f32 cq fq;go_wp2;go_ret
  first|exact HZ.out|(rw[HI.out];exact HZ.out)
 ·have hP:Hid (∀ e w',e=.returned (.bool false)->Kb b w w'->PostPu b (l,r) k w e w'):=fun e w' h1 h2=>⟨h2,by rw[if_neg (by show ¬l.length<1024;omega)];exact h1⟩;obtain rfl:h=1024:=by omega
  clear hh S;go_enter Tryd.func63,Tryd.ntmps63;go_wp2;go_ret;exact hP.out _ _ rfl (Kb.refl _ _)
def PostPo (b:Nat)(s:StG)(w:World)(e:Ending)(w':World):Prop :=
 Kb b w w'/\((s.1=[]/\e=.returned (.int .i64 0))\/∃l k,s.1=l++[k]/\e=.returned (.int .i64 (k:Nat))/\StB w' b (l,s.2))
theorem pop_c (b:Nat)(s:StG)(w:World)(S:StOkG s)(hB:StB w b s) :
  Calls Tryd.prog 58 #[.pointer (some ⟨b,0,none⟩)] w (PostPo b s w):=by
 obtain⟨l0,r⟩:=s;rcases List.eq_nil_or_concat l0 with rfl|⟨l,k,hlk⟩
 ·have c32:=(blk_cell hB 32).trans (stC_ht ([],r));have hP:Hid (PostPo b ([],r) w (.returned (.int .i64 0)) w):=⟨Kb.refl _ _,.inl ⟨rfl,rfl⟩⟩
  clear S hB;simp only[List.length_nil] at c32;go_enter Tryd.func58,Tryd.ntmps58;go_wp2;go_ret;exact hP.out
 ·rw[List.concat_eq_append] at hlk;subst hlk;have hlen:=S.len;have hk:=S.kd k (by simp);have Sl:∀ x ∈ l,1<=x/\x<=3:=fun x hx=>S.kd x (List.mem_append_left _ hx);simp only[List.length_append,List.length_cons,List.length_nil] at hlen;have c32:=(blk_cell hB 32).trans (stC_ht (l++[k],r));have f32:=blk_frz hB 32;obtain⟨h,hh⟩:∃h,h=l.length:=⟨_,rfl⟩
  simp only[List.length_append,List.length_cons,List.length_nil,<-hh] at c32 hlen;have hlt:h<1024:=by omega
  have hP:Hid (∀ w',Kb b w w'->StB w' b (l,r)->PostPo b (l++[k],r) w (.returned (.int .i64 (k:Nat))) w'):=fun w' h2 h3=>⟨h2,.inr ⟨l,k,rfl,rfl,h3⟩⟩;have cq:=(blk_cell hB (h / 32)).trans (stC_get (l++[k],r) (by omega));have fq:=blk_frz hB (h / 32);have hlt2:=(gk_top Sl hh.symm).2;have hsp:=stC_pop l r k (by omega);rw[<-hh] at hsp;rw[gk_snoc,<-hh,if_pos rfl] at cq;try simp only at cq
  generalize gk l (h / 32)=a at *;have hne:¬((h+1:Nat):Int)=0:=by omega
  have PC:=fun w=>place_cG h w (by omega);obtain⟨q,hq⟩:∃q,q=h / 32:=⟨_,rfl⟩
  obtain⟨m,hm⟩:∃m,m=h % 32:=⟨_,rfl⟩
  rw[<-hq,<-hm] at PC;rw[<-hq] at cq fq hsp;rw[<-hm] at cq hlt2;have e1:=pk_wrap (k:=k) (r:=m) hk.2 (by omega);have e2:=pk_xor (a:=a) (k:=k) (r:=m) hk.2 (by omega) hlt2;have e3:=pk_shr (a:=a) (k:=k) (r:=m) hk.2 (by omega) hlt2;have e4:=pk_and (k:=k) hk.2;have hn64:a+k*4 ^ m<18446744073709551616:=by
   have:=pk_lt (k:=k) (r:=m) hk.2 (by omega)
   omega
  have hq32:q<32:=by omega
  have hm32:m<32:=by omega
  have hqn:q≠32:=by omega
  obtain⟨n,hn⟩:∃n,n=a+k*4 ^ m:=⟨_,rfl⟩
  obtain⟨u,hu⟩:∃u,u=k*4 ^ m:=⟨_,rfl⟩
  rw[<-hn] at e3 cq;rw[<-hu] at e1 e2;rw[hu,<-hn,<-hu] at e2;have hhI:(((h+1:Nat):Int)-1)=(h:Int):=by omega
  obtain⟨H,hH⟩:∃H,H=h+1:=⟨_,rfl⟩
  rw[<-hH] at c32 hne hhI;have hHI:(H:Int)<=1024/\0<(H:Int):=by omega
  obtain⟨w1,hw1⟩:∃w1,w1=w.setCell ⟨b,32,none⟩ (.int .i64 (h:Nat)):=⟨_,rfl⟩
  have HB1:w1.heap[b]?=some (.cells ((stC (l++[k],r)).set 32 (.int .i64 (h:Nat))).toArray 81 (0,0)):=by rw[hw1];exact blk_set hB _
  have HK1:Kb b w w1:=by rw[hw1];exact((Kb.refl b w).set 32 _)
  have d32:w1.cell? ⟨b,32,none⟩=some (.int .i64 (h:Nat)):=by
   rw[blk_cell HB1,List.getElem?_set,if_pos rfl,if_pos (by rw[stC_len];omega)]
  have dq:w1.cell? ⟨b,q,none⟩=some (.int .u64 (n:Nat)):=by
   rw[blk_cell HB1,List.getElem?_set,if_neg (fun e=>hqn e.symm),<-blk_cell hB,cq]
  have gq:=blk_frz HB1 q;have HB2:StB (w1.setCell ⟨b,q,none⟩ (.int .u64 (a:Nat))).drew b (l,r):=by
   have:=blk_set (n:=q) HB1 (.int .u64 (a:Nat))
   rw[hsp] at this;exact this
  have HZ:=Lib.hid (hP.out _ ((HK1.set q (.int .u64 (a:Nat))).drew) HB2);have HW1:=Lib.hid hw1;have E1:=Lib.hid e1;have E2:=Lib.hid e2;have E3:=Lib.hid e3;have E4:=Lib.hid e4;have HI:=Lib.hid hhI;have EN:IntKind.i64.wrap ((k:Nat):Int)=(k:Int):=by rw[IntKind.wrap_i64];omega
  clear hP hw1 HB1 HK1 HB2 hsp hn hu hq hm e1 e2 e3 e4 hh S hB hlt2 hhI hH Sl cq fq;go_enter Tryd.func58,Tryd.ntmps58;go_upto_region 4 with fail;rw[HI.out,<-HW1.out];clear HW1 c32 f32;go_upto_region 6 with (go_at_call 77;refine(PC _).mono ?_;rintro e w1 ⟨rfl,rfl⟩)
  rw[E3.out,E4.out];go_region;rw[E1.out,E2.out];have HZ':=HZ.out;clear HZ d32 dq gq;generalize (w1.setCell ⟨b,q,none⟩ (.int .u64 (a:Nat))).drew=w2 at *;go_wp2;go_ret;exact HZ'
end Go.Proofs.YtejnhibajmncaaaDoor

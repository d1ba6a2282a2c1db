import Derived.Test.YtpdfdhkdfkhfkaaDoorCodA
import Derived.Deep.RegionHeld3
set_option maxRecDepth 100000
set_option maxHeartbeats 8000000
namespace Go.Proofs.YtpdfdhkdfkhfkaaDoor
open Go.ChangeShapes Go.WideShapes Go.ChangeAt Go.RowKit
set_option linter.unusedVariables false
set_option linter.unusedSimpArgs false
def Rul (w:World):Prop:=1<w.heap.size/\∀ o,o<28->w.cell? ⟨1,o*2,none⟩=some (.int .i64 (rulA.getD o 0:Nat))/\w.cell? ⟨1,o*2+1,none⟩=some (.int .i64 (rulB.getD o 0:Nat))
theorem Rul.below {w w':World}(h:Rul w)(B:Below w.heap.size w w'):Rul w' :=
 ⟨Nat.lt_of_lt_of_le h.1 B.size,fun o ho=>⟨(B.cell (p:=⟨1,o*2,none⟩) h.1).trans (h.2 o ho).1,(B.cell (p:=⟨1,o*2+1,none⟩) h.1).trans (h.2 o ho).2⟩⟩
theorem rul_le (o:Nat):rulA.getD o 0<=10/\rulB.getD o 0<=10:=by
 by_cases h:o<28
 ·have H:∀ o,o<28->rulA.getD o 0<=10/\rulB.getD o 0<=10:=by decide
  exact H o h
 ·have h1:rulA.length<=o:=by have:rulA.length=28:=rfl;omega
  have h2:rulB.length<=o:=by have:rulB.length=28:=rfl;omega
  simp[List.getD,List.getElem?_eq_none h1,List.getElem?_eq_none h2]
theorem isV_at {l:List Int}{k:Nat}(h:k<l.length):(isV l)[k]?=some (.int .i64 (l.getD k 0)):=by
 simp[isV,List.getD,List.getElem?_eq_getElem h]
theorem keep2 {w w':World}{g b:Nat}(B:Below w.heap.size w w')(h:g<w.heap.size/\b<w.heap.size):g<w'.heap.size/\b<w'.heap.size:=⟨Nat.lt_of_lt_of_le h.1 B.size,Nat.lt_of_lt_of_le h.2 B.size⟩
theorem keep6 {w w':World}{g b x y:Nat}{v0 v1 v2 v3 v4 v5:Option Value}(B:Below w.heap.size w w')(hg:g<w.heap.size)(hb:b<w.heap.size)
  (h:w.cell? ⟨g,x,none⟩=v0/\w.cell? ⟨g,y,none⟩=v1/\w.cell? ⟨b,0,none⟩=v2/\w.cell? ⟨b,1,none⟩=v3/\w.cell? ⟨b,2,none⟩=v4/\w.cell? ⟨b,3,none⟩=v5) :
  w'.cell? ⟨g,x,none⟩=v0/\w'.cell? ⟨g,y,none⟩=v1/\w'.cell? ⟨b,0,none⟩=v2/\w'.cell? ⟨b,1,none⟩=v3/\w'.cell? ⟨b,2,none⟩=v4/\w'.cell? ⟨b,3,none⟩=v5 :=
 ⟨(B.cell (p:=⟨g,x,none⟩) hg).trans h.1,(B.cell (p:=⟨g,y,none⟩) hg).trans h.2.1,(B.cell (p:=⟨b,0,none⟩) hb).trans h.2.2.1,(B.cell (p:=⟨b,1,none⟩) hb).trans h.2.2.2.1,(B.cell (p:=⟨b,2,none⟩) hb).trans h.2.2.2.2.1,(B.cell (p:=⟨b,3,none⟩) hb).trans h.2.2.2.2.2⟩
theorem keep5 {w w':World}{g b x:Nat}{v0 v2 v3 v4 v5:Option Value}(B:Below w.heap.size w w')(hg:g<w.heap.size)(hb:b<w.heap.size)
  (h:w.cell? ⟨g,x,none⟩=v0/\w.cell? ⟨b,0,none⟩=v2/\w.cell? ⟨b,1,none⟩=v3/\w.cell? ⟨b,2,none⟩=v4/\w.cell? ⟨b,3,none⟩=v5) :
  w'.cell? ⟨g,x,none⟩=v0/\w'.cell? ⟨b,0,none⟩=v2/\w'.cell? ⟨b,1,none⟩=v3/\w'.cell? ⟨b,2,none⟩=v4/\w'.cell? ⟨b,3,none⟩=v5 :=
 ⟨(B.cell (p:=⟨g,x,none⟩) hg).trans h.1,(B.cell (p:=⟨b,0,none⟩) hb).trans h.2.1,(B.cell (p:=⟨b,1,none⟩) hb).trans h.2.2.1,(B.cell (p:=⟨b,2,none⟩) hb).trans h.2.2.2.1,(B.cell (p:=⟨b,3,none⟩) hb).trans h.2.2.2.2⟩
theorem word_walk (u:Int)(o a b:Nat)(ho:u / 72057594037927936=(o:Int))(ha:u / 268435456 % 268435456=(a:Int))(hb:u % 268435456=(b:Int))(h1:0<=u)(h2:u<18446744073709551616)
  (p:Pl) (c:Cd) (w:World) (hT:Tab w) (hR:Rul w) (hC:CdW w p c) :
  Calls Tryd.prog 52 #[.int .u64 u,cdV p c] w fun e w'=>e=.returned (.bool (wrdP c o a b))/\Below w.heap.size w w':=by
 have HP:∀ w,Tab w->Calls Tryd.prog 54 #[.int .u64 u] w fun e w'=>e=.returned (.tuple #[.int .i64 (o:Int),.int .i64 (a:Int),.int .i64 (b:Int)])/\Below w.heap.size w w':=fun w hT=>by
  have:=parts_any u w hT h1 h2
  rw[ho,ha,hb] at this;exact this
 have hob:o<256:=by omega
 have hab:a<268435456:=by omega
 have hbb:b<268435456:=by omega
 clear ho ha hb h1 h2;obtain⟨w1,hw1⟩:∃w1,w1=w.alloc (.cells (cdA p c) 26):=⟨_,rfl⟩
 obtain⟨b0,hb0⟩:∃b0,b0=w.heap.size:=⟨_,rfl⟩
 have B1:Below w.heap.size w w1:=by rw[hw1];exact b1 _ _
 have K1:=box4_cells (w:=w1) (g:=b0) (by rw[hw1,hb0];exact box4 _ _ _ _ _ _);have L1:b0<w1.heap.size:=by rw[hw1,hb0];simp
 have T1:=hT.below B1;have R1:=hR.below B1;have C1:=hC.below B1;have HB0:Hid (b0=w.heap.size):=hb0;clear hb0 hT hR hC;by_cases h28:o<28
 ·have g28:(o:Int)<28:=by omega
  obtain⟨hra,hrb⟩:=rul_le o;obtain⟨ra,hra'⟩:∃ra,ra=rulA.getD o 0:=⟨_,rfl⟩
  obtain⟨rb,hrb'⟩:∃rb,rb=rulB.getD o 0:=⟨_,rfl⟩
  have hX:wrdP c o a b=(mayB c ra a&&mayB c rb b&&(if (o:Int)=1/\(b:Int)=2 then mayB c 2 (c.cs.getD a 0) else if (o:Int)=2 then decide (0<=c.cs.getD a 0) else true)):=by
   have:decide ((o:Int)<28)=true:=by simpa using g28
   rw[hra',hrb'];unfold wrdP;rw[this,Bool.true_and,Int.toNat_natCast,Int.toNat_natCast]
  rw[hX];have hal:ra=8->mayB c ra a=true->a<c.cs.length:=fun e h=>by
   subst e;simp[mayB,spn] at h;omega
  have h12:o=1\/o=2->ra=8:=fun h=>by rw[hra'];rcases h with rfl|rfl<;>rfl
  rw[<-hra'] at hra;rw[<-hrb'] at hrb;have MA:=fun w=>may_c ra hra a p c w C1.lc C1.ln C1.lk;have MB:=fun w=>may_c rb hrb b p c w C1.lc C1.ln C1.lk;clear hX;have HX:∀ w,Rul w->w.cell? ⟨1,o*2,none⟩=some (.int .i64 (ra:Nat))/\w.cell? ⟨1,o*2+1,none⟩=some (.int .i64 (rb:Nat)):=fun w h=>by rw[hra',hrb'];exact h.2 o h28
  clear hra' hrb';have n28:¬(28:Int)<=(o:Int):=by omega
  have d28:decide ((28:Int)<=(o:Int))=false:=by simpa using g28
  cases hma:mayB c ra a
  ·rw[hma] at MA;rw[Bool.false_and,Bool.false_and];clear MB hal h12;go_enter Tryd.func52,Tryd.ntmps52;go_wp2_with fail;rw[<-hw1];refine(HP _ T1).mono ?_;rintro e w2 ⟨rfl,B2⟩;rw[<-HB0.out];have R2:=R1.below B2;have KA:1<w2.heap.size/\b0<w2.heap.size:=⟨R2.1,Nat.lt_of_lt_of_le L1 B2.size⟩
   have KC:w2.cell? ⟨b0,0,none⟩=some (.slice p.aw c.ws.length p.cw)/\w2.cell? ⟨b0,1,none⟩=some (.slice p.ac c.cs.length p.cc)/\w2.cell? ⟨b0,2,none⟩=some (.slice p.an c.ns.length p.cn)/\w2.cell? ⟨b0,3,none⟩=some (.slice p.ak c.ks.length p.ck) :=
    ⟨(B2.cell (p:=⟨b0,0,none⟩) L1).trans K1.1,(B2.cell (p:=⟨b0,1,none⟩) L1).trans K1.2.1,(B2.cell (p:=⟨b0,2,none⟩) L1).trans K1.2.2.1,(B2.cell (p:=⟨b0,3,none⟩) L1).trans K1.2.2.2⟩
   have KB:(fun wx=>wx.cell? ⟨1,o*2,none⟩=some (.int .i64 (ra:Nat))/\wx.cell? ⟨1,o*2+1,none⟩=some (.int .i64 (rb:Nat))/\wx.cell? ⟨b0,0,none⟩=some (.slice p.aw c.ws.length p.cw)/\wx.cell? ⟨b0,1,none⟩=some (.slice p.ac c.cs.length p.cc)/\wx.cell? ⟨b0,2,none⟩=some (.slice p.an c.ns.length p.cn)/\wx.cell? ⟨b0,3,none⟩=some (.slice p.ak c.ks.length p.ck)) w2:=⟨(HX _ R2).1,(HX _ R2).2,KC⟩
   simp only at KB;have BB:=B1.trans (B2.mono B1.size);have C2:=C1.below B2;clear K1 HX KC;go_wp2_with fail;refine wp_region_held_drew (S:=(fun wx=>wx.cell? ⟨1,o*2,none⟩=some (.int .i64 (ra:Nat))/\wx.cell? ⟨1,o*2+1,none⟩=some (.int .i64 (rb:Nat))/\wx.cell? ⟨b0,0,none⟩=some (.slice p.aw c.ws.length p.cw)/\wx.cell? ⟨b0,1,none⟩=some (.slice p.ac c.cs.length p.cc)/\wx.cell? ⟨b0,2,none⟩=some (.slice p.an c.ns.length p.cn)/\wx.cell? ⟨b0,3,none⟩=some (.slice p.ak c.ks.length p.ck))) (by kernel_rfl) KB (fun hHeld=>?_);refine wpAnyH_take (i:=0) (v:=?v1) rfl (by kernel_rfl) (by kernel_rfl) (by kernel_rfl) (fun _ _ _ h=>h) (Or.inl ⟨by rfl,?hy1⟩) (by assumption) ?rest1
   case hy1=>(intro w hSw;(try dsimp only at hSw);go_simp;all_goals (with_reducible rfl))
   simp only[Act.put,List.getElem_toArray,List.getElem_cons_zero,List.getElem_cons_succ,List.setIfInBounds_toArray,List.set_cons_zero,List.set_cons_succ];refine wpAnyH_take (i:=1) (v:=?v2) rfl (by kernel_rfl) (by kernel_rfl) (by kernel_rfl) (fun _ _ _ h=>h) (Or.inl ⟨by rfl,?hy2⟩) (by assumption) ?rest2
   case hy2=>(intro w hSw;(try dsimp only at hSw);go_simp;all_goals (with_reducible rfl))
   simp only[Act.put,List.getElem_toArray,List.getElem_cons_zero,List.getElem_cons_succ,List.setIfInBounds_toArray,List.set_cons_zero,List.set_cons_succ];refine wpAnyH_take (i:=2) (v:=?v3) rfl (by kernel_rfl) (by kernel_rfl) (by kernel_rfl) (fun _ _ _ h=>h) (Or.inl ⟨by rfl,?hy3⟩) (by assumption) ?rest3
   case hy3=>(intro w hSw;(try dsimp only at hSw);go_simp;all_goals (with_reducible rfl))
   simp only[Act.put,List.getElem_toArray,List.getElem_cons_zero,List.getElem_cons_succ,List.setIfInBounds_toArray,List.set_cons_zero,List.set_cons_succ];refine wpAnyH_take (i:=3) (v:=?v4) rfl (by kernel_rfl) (by kernel_rfl) (by kernel_rfl) (fun _ _ _ h=>h) (Or.inl ⟨by rfl,?hy4⟩) (by assumption) ?rest4
   case hy4=>(intro w hSw;(try dsimp only at hSw);go_simp;all_goals (with_reducible rfl))
   simp only[Act.put,List.getElem_toArray,List.getElem_cons_zero,List.getElem_cons_succ,List.setIfInBounds_toArray,List.set_cons_zero,List.set_cons_succ];refine wpAnyH_take (i:=4) (v:=?v5) rfl (by kernel_rfl) (by kernel_rfl) (by kernel_rfl) (fun _ _ _ h=>h) (Or.inl ⟨by rfl,?hy5⟩) (by assumption) ?rest5
   case hy5=>(intro w hSw;(try dsimp only at hSw);go_simp;all_goals (with_reducible rfl))
   simp only[Act.put,List.getElem_toArray,List.getElem_cons_zero,List.getElem_cons_succ,List.setIfInBounds_toArray,List.set_cons_zero,List.set_cons_succ];refine wpAnyH_take (i:=5) (v:=?v6) rfl (by kernel_rfl) (by kernel_rfl) (by kernel_rfl) (fun _ _ _ h=>h) (Or.inl ⟨by rfl,?hy6⟩) (by assumption) ?rest6
   case hy6=>(intro w hSw;(try dsimp only at hSw);go_simp;all_goals (with_reducible rfl))
   simp only[Act.put,List.getElem_toArray,List.getElem_cons_zero,List.getElem_cons_succ,List.setIfInBounds_toArray,List.set_cons_zero,List.set_cons_succ];refine wpAnyH_take (i:=6) (v:=?v7) rfl (by kernel_rfl) (by kernel_rfl) (by kernel_rfl) (fun _ _ _ h=>h) (Or.inl ⟨by rfl,?hy7⟩) (by assumption) ?rest7
   case hy7=>(intro w hSw;(try dsimp only at hSw);obtain⟨z1,z2,z3,z4,z5,z6⟩:=hSw;go_simp;all_goals (with_reducible rfl))
   simp only[Act.put,List.getElem_toArray,List.getElem_cons_zero,List.getElem_cons_succ,List.setIfInBounds_toArray,List.set_cons_zero,List.set_cons_succ];refine wpAnyH_take (i:=7) (v:=?v8) rfl (by kernel_rfl) (by kernel_rfl) (by kernel_rfl) (fun _ _ _ h=>h) (Or.inl ⟨by rfl,?hy8⟩) (by assumption) ?rest8
   case hy8=>(intro w hSw;(try dsimp only at hSw);go_simp;all_goals (with_reducible rfl))
   simp only[Act.put,List.getElem_toArray,List.getElem_cons_zero,List.getElem_cons_succ,List.setIfInBounds_toArray,List.set_cons_zero,List.set_cons_succ];refine wpAnyH_take (i:=8) (v:=?v9) rfl (by kernel_rfl) (by kernel_rfl) (by kernel_rfl) (fun _ _ _ h=>h) (Or.inl ⟨by rfl,?hy9⟩) (by assumption) ?rest9
   case hy9=>(intro w hSw;(try dsimp only at hSw);obtain⟨z1,z2,z3,z4,z5,z6⟩:=hSw;go_simp;all_goals (with_reducible rfl))
   simp only[Act.put,List.getElem_toArray,List.getElem_cons_zero,List.getElem_cons_succ,List.setIfInBounds_toArray,List.set_cons_zero,List.set_cons_succ];refine wpAnyH_ready (rs:=[9]) (by kernel_rfl) (by simp) ?_;refine AllReadyH.cons rfl (fun K hK=>?_) AllReadyH.nil
   go_simp
   go_wp2_with (go_at_call 51;refine(MA _).mono ?_;rintro e w3 ⟨rfl,B3⟩;have KE:=keep6 B3 KA.1 KA.2 KB;have KD:=keep2 B3 KA);refine hK.out _ _ KE (fun hHeld=>?_);clear hK K;refine wpAnyH_take (i:=10) (v:=?v10) rfl (by kernel_rfl) (by kernel_rfl) (by kernel_rfl) (fun _ _ _ h=>h) (Or.inl ⟨by rfl,?hy10⟩) (by assumption) ?rest10
   case hy10=>(intro w hSw;(try dsimp only at hSw);go_simp;all_goals (with_reducible rfl))
   simp only[Act.put,List.getElem_toArray,List.getElem_cons_zero,List.getElem_cons_succ,List.setIfInBounds_toArray,List.set_cons_zero,List.set_cons_succ];refine wpAnyH_take (i:=11) (v:=?v11) rfl (by kernel_rfl) (by kernel_rfl) (by kernel_rfl) (fun _ _ _ h=>h) (Or.inl ⟨by rfl,?hy11⟩) (by assumption) ?rest11
   case hy11=>(intro w hSw;(try dsimp only at hSw);go_simp;all_goals (with_reducible rfl))
   simp only[Act.put,List.getElem_toArray,List.getElem_cons_zero,List.getElem_cons_succ,List.setIfInBounds_toArray,List.set_cons_zero,List.set_cons_succ];refine wpAnyH_take (i:=12) (v:=?v12) rfl (by kernel_rfl) (by kernel_rfl) (by kernel_rfl) (fun _ _ _ h=>h) (Or.inl ⟨by rfl,?hy12⟩) (by assumption) ?rest12
   case hy12=>(intro w hSw;(try dsimp only at hSw);go_simp;all_goals (with_reducible rfl))
   simp only[Act.put,List.getElem_toArray,List.getElem_cons_zero,List.getElem_cons_succ,List.setIfInBounds_toArray,List.set_cons_zero,List.set_cons_succ];refine wpAnyH_take (i:=13) (v:=undef) rfl (by kernel_rfl) (by kernel_rfl) (by kernel_rfl) (fun _ _ _ h=>h) (Or.inr ⟨?uw1,rfl⟩) (by assumption) ?urest1
   case uw1=>kernel_rfl
   simp only[Act.put,List.getElem_toArray,List.getElem_cons_zero,List.getElem_cons_succ,List.setIfInBounds_toArray,List.set_cons_zero,List.set_cons_succ];refine wpAnyH_take (i:=14) (v:=undef) rfl (by kernel_rfl) (by kernel_rfl) (by kernel_rfl) (fun _ _ _ h=>h) (Or.inr ⟨?uw2,rfl⟩) (by assumption) ?urest2
   case uw2=>kernel_rfl
   simp only[Act.put,List.getElem_toArray,List.getElem_cons_zero,List.getElem_cons_succ,List.setIfInBounds_toArray,List.set_cons_zero,List.set_cons_succ];refine wpAnyH_take (i:=15) (v:=undef) rfl (by kernel_rfl) (by kernel_rfl) (by kernel_rfl) (fun _ _ _ h=>h) (Or.inr ⟨?uw3,rfl⟩) (by assumption) ?urest3
   case uw3=>kernel_rfl
   simp only[Act.put,List.getElem_toArray,List.getElem_cons_zero,List.getElem_cons_succ,List.setIfInBounds_toArray,List.set_cons_zero,List.set_cons_succ];refine wpAnyH_take (i:=16) (v:=undef) rfl (by kernel_rfl) (by kernel_rfl) (by kernel_rfl) (fun _ _ _ h=>h) (Or.inr ⟨?uw4,rfl⟩) (by assumption) ?urest4
   case uw4=>kernel_rfl
   simp only[Act.put,List.getElem_toArray,List.getElem_cons_zero,List.getElem_cons_succ,List.setIfInBounds_toArray,List.set_cons_zero,List.set_cons_succ];refine wpAnyH_take (i:=17) (v:=undef) rfl (by kernel_rfl) (by kernel_rfl) (by kernel_rfl) (fun _ _ _ h=>h) (Or.inr ⟨?uw5,rfl⟩) (by assumption) ?urest5
   case uw5=>kernel_rfl
   simp only[Act.put,List.getElem_toArray,List.getElem_cons_zero,List.getElem_cons_succ,List.setIfInBounds_toArray,List.set_cons_zero,List.set_cons_succ];refine wpAnyH_take (i:=18) (v:=undef) rfl (by kernel_rfl) (by kernel_rfl) (by kernel_rfl) (fun _ _ _ h=>h) (Or.inr ⟨?uw6,rfl⟩) (by assumption) ?urest6
   case uw6=>kernel_rfl
   simp only[Act.put,List.getElem_toArray,List.getElem_cons_zero,List.getElem_cons_succ,List.setIfInBounds_toArray,List.set_cons_zero,List.set_cons_succ];refine wpAnyH_take (i:=19) (v:=undef) rfl (by kernel_rfl) (by kernel_rfl) (by kernel_rfl) (fun _ _ _ h=>h) (Or.inr ⟨?uw7,rfl⟩) (by assumption) ?urest7
   case uw7=>kernel_rfl
   simp only[Act.put,List.getElem_toArray,List.getElem_cons_zero,List.getElem_cons_succ,List.setIfInBounds_toArray,List.set_cons_zero,List.set_cons_succ];refine wpAnyH_take (i:=20) (v:=undef) rfl (by kernel_rfl) (by kernel_rfl) (by kernel_rfl) (fun _ _ _ h=>h) (Or.inr ⟨?uw8,rfl⟩) (by assumption) ?urest8
   case uw8=>kernel_rfl
   simp only[Act.put,List.getElem_toArray,List.getElem_cons_zero,List.getElem_cons_succ,List.setIfInBounds_toArray,List.set_cons_zero,List.set_cons_succ];refine wpAnyH_take (i:=21) (v:=?v13) rfl (by kernel_rfl) (by kernel_rfl) (by kernel_rfl) (fun _ _ _ h=>h) (Or.inl ⟨by rfl,?hy13⟩) (by assumption) ?rest13
   case hy13=>(intro w hSw;(try dsimp only at hSw);go_simp;all_goals (with_reducible rfl))
   simp only[Act.put,List.getElem_toArray,List.getElem_cons_zero,List.getElem_cons_succ,List.setIfInBounds_toArray,List.set_cons_zero,List.set_cons_succ];refine wpAnyH_done (by kernel_rfl) ?_ _;go_wp2;go_ret;exact⟨rfl,BB.drew.trans (B3.mono BB.size)⟩
  ·rw[hma] at MA;cases hmb:mayB c rb b
   ·rw[hmb] at MB;rw[Bool.true_and,Bool.false_and];clear hal h12;go_enter Tryd.func52,Tryd.ntmps52;go_wp2_with fail;rw[<-hw1];refine(HP _ T1).mono ?_;rintro e w2 ⟨rfl,B2⟩;rw[<-HB0.out];have R2:=R1.below B2;have KA:1<w2.heap.size/\b0<w2.heap.size:=⟨R2.1,Nat.lt_of_lt_of_le L1 B2.size⟩
    have KC:w2.cell? ⟨b0,0,none⟩=some (.slice p.aw c.ws.length p.cw)/\w2.cell? ⟨b0,1,none⟩=some (.slice p.ac c.cs.length p.cc)/\w2.cell? ⟨b0,2,none⟩=some (.slice p.an c.ns.length p.cn)/\w2.cell? ⟨b0,3,none⟩=some (.slice p.ak c.ks.length p.ck) :=
     ⟨(B2.cell (p:=⟨b0,0,none⟩) L1).trans K1.1,(B2.cell (p:=⟨b0,1,none⟩) L1).trans K1.2.1,(B2.cell (p:=⟨b0,2,none⟩) L1).trans K1.2.2.1,(B2.cell (p:=⟨b0,3,none⟩) L1).trans K1.2.2.2⟩
    have KB:(fun wx=>wx.cell? ⟨1,o*2,none⟩=some (.int .i64 (ra:Nat))/\wx.cell? ⟨1,o*2+1,none⟩=some (.int .i64 (rb:Nat))/\wx.cell? ⟨b0,0,none⟩=some (.slice p.aw c.ws.length p.cw)/\wx.cell? ⟨b0,1,none⟩=some (.slice p.ac c.cs.length p.cc)/\wx.cell? ⟨b0,2,none⟩=some (.slice p.an c.ns.length p.cn)/\wx.cell? ⟨b0,3,none⟩=some (.slice p.ak c.ks.length p.ck)) w2:=⟨(HX _ R2).1,(HX _ R2).2,KC⟩
    simp only at KB;have BB:=B1.trans (B2.mono B1.size);have C2:=C1.below B2;clear K1 HX KC;go_wp2_with fail;refine wp_region_held_drew (S:=(fun wx=>wx.cell? ⟨1,o*2,none⟩=some (.int .i64 (ra:Nat))/\wx.cell? ⟨1,o*2+1,none⟩=some (.int .i64 (rb:Nat))/\wx.cell? ⟨b0,0,none⟩=some (.slice p.aw c.ws.length p.cw)/\wx.cell? ⟨b0,1,none⟩=some (.slice p.ac c.cs.length p.cc)/\wx.cell? ⟨b0,2,none⟩=some (.slice p.an c.ns.length p.cn)/\wx.cell? ⟨b0,3,none⟩=some (.slice p.ak c.ks.length p.ck))) (by kernel_rfl) KB (fun hHeld=>?_);refine wpAnyH_take (i:=0) (v:=?v14) rfl (by kernel_rfl) (by kernel_rfl) (by kernel_rfl) (fun _ _ _ h=>h) (Or.inl ⟨by rfl,?hy14⟩) (by assumption) ?rest14
    case hy14=>(intro w hSw;(try dsimp only at hSw);go_simp;all_goals (with_reducible rfl))
    simp only[Act.put,List.getElem_toArray,List.getElem_cons_zero,List.getElem_cons_succ,List.setIfInBounds_toArray,List.set_cons_zero,List.set_cons_succ];refine wpAnyH_take (i:=1) (v:=?v15) rfl (by kernel_rfl) (by kernel_rfl) (by kernel_rfl) (fun _ _ _ h=>h) (Or.inl ⟨by rfl,?hy15⟩) (by assumption) ?rest15
    case hy15=>(intro w hSw;(try dsimp only at hSw);go_simp;all_goals (with_reducible rfl))
    simp only[Act.put,List.getElem_toArray,List.getElem_cons_zero,List.getElem_cons_succ,List.setIfInBounds_toArray,List.set_cons_zero,List.set_cons_succ];refine wpAnyH_take (i:=2) (v:=?v16) rfl (by kernel_rfl) (by kernel_rfl) (by kernel_rfl) (fun _ _ _ h=>h) (Or.inl ⟨by rfl,?hy16⟩) (by assumption) ?rest16
    case hy16=>(intro w hSw;(try dsimp only at hSw);go_simp;all_goals (with_reducible rfl))
    simp only[Act.put,List.getElem_toArray,List.getElem_cons_zero,List.getElem_cons_succ,List.setIfInBounds_toArray,List.set_cons_zero,List.set_cons_succ];refine wpAnyH_take (i:=3) (v:=?v17) rfl (by kernel_rfl) (by kernel_rfl) (by kernel_rfl) (fun _ _ _ h=>h) (Or.inl ⟨by rfl,?hy17⟩) (by assumption) ?rest17
    case hy17=>(intro w hSw;(try dsimp only at hSw);go_simp;all_goals (with_reducible rfl))
    simp only[Act.put,List.getElem_toArray,List.getElem_cons_zero,List.getElem_cons_succ,List.setIfInBounds_toArray,List.set_cons_zero,List.set_cons_succ];refine wpAnyH_take (i:=4) (v:=?v18) rfl (by kernel_rfl) (by kernel_rfl) (by kernel_rfl) (fun _ _ _ h=>h) (Or.inl ⟨by rfl,?hy18⟩) (by assumption) ?rest18
    case hy18=>(intro w hSw;(try dsimp only at hSw);go_simp;all_goals (with_reducible rfl))
    simp only[Act.put,List.getElem_toArray,List.getElem_cons_zero,List.getElem_cons_succ,List.setIfInBounds_toArray,List.set_cons_zero,List.set_cons_succ];refine wpAnyH_take (i:=5) (v:=?v19) rfl (by kernel_rfl) (by kernel_rfl) (by kernel_rfl) (fun _ _ _ h=>h) (Or.inl ⟨by rfl,?hy19⟩) (by assumption) ?rest19
    case hy19=>(intro w hSw;(try dsimp only at hSw);go_simp;all_goals (with_reducible rfl))
    simp only[Act.put,List.getElem_toArray,List.getElem_cons_zero,List.getElem_cons_succ,List.setIfInBounds_toArray,List.set_cons_zero,List.set_cons_succ];refine wpAnyH_take (i:=6) (v:=?v20) rfl (by kernel_rfl) (by kernel_rfl) (by kernel_rfl) (fun _ _ _ h=>h) (Or.inl ⟨by rfl,?hy20⟩) (by assumption) ?rest20
    case hy20=>(intro w hSw;(try dsimp only at hSw);obtain⟨z1,z2,z3,z4,z5,z6⟩:=hSw;go_simp;all_goals (with_reducible rfl))
    simp only[Act.put,List.getElem_toArray,List.getElem_cons_zero,List.getElem_cons_succ,List.setIfInBounds_toArray,List.set_cons_zero,List.set_cons_succ];refine wpAnyH_take (i:=7) (v:=?v21) rfl (by kernel_rfl) (by kernel_rfl) (by kernel_rfl) (fun _ _ _ h=>h) (Or.inl ⟨by rfl,?hy21⟩) (by assumption) ?rest21
    case hy21=>(intro w hSw;(try dsimp only at hSw);go_simp;all_goals (with_reducible rfl))
    simp only[Act.put,List.getElem_toArray,List.getElem_cons_zero,List.getElem_cons_succ,List.setIfInBounds_toArray,List.set_cons_zero,List.set_cons_succ];refine wpAnyH_take (i:=8) (v:=?v22) rfl (by kernel_rfl) (by kernel_rfl) (by kernel_rfl) (fun _ _ _ h=>h) (Or.inl ⟨by rfl,?hy22⟩) (by assumption) ?rest22
    case hy22=>(intro w hSw;(try dsimp only at hSw);obtain⟨z1,z2,z3,z4,z5,z6⟩:=hSw;go_simp;all_goals (with_reducible rfl))
    simp only[Act.put,List.getElem_toArray,List.getElem_cons_zero,List.getElem_cons_succ,List.setIfInBounds_toArray,List.set_cons_zero,List.set_cons_succ];refine wpAnyH_ready (rs:=[9]) (by kernel_rfl) (by simp) ?_;refine AllReadyH.cons rfl (fun K hK=>?_) AllReadyH.nil
    go_simp
    go_wp2_with (go_at_call 51;refine(MA _).mono ?_;rintro e w3 ⟨rfl,B3⟩;have KE:=keep6 B3 KA.1 KA.2 KB;have KD:=keep2 B3 KA);refine hK.out _ _ KE (fun hHeld=>?_);clear hK K;refine wpAnyH_take (i:=10) (v:=?v23) rfl (by kernel_rfl) (by kernel_rfl) (by kernel_rfl) (fun _ _ _ h=>h) (Or.inl ⟨by rfl,?hy23⟩) (by assumption) ?rest23
    case hy23=>(intro w hSw;(try dsimp only at hSw);go_simp;all_goals (with_reducible rfl))
    simp only[Act.put,List.getElem_toArray,List.getElem_cons_zero,List.getElem_cons_succ,List.setIfInBounds_toArray,List.set_cons_zero,List.set_cons_succ];refine wpAnyH_take (i:=11) (v:=?v24) rfl (by kernel_rfl) (by kernel_rfl) (by kernel_rfl) (fun _ _ _ h=>h) (Or.inl ⟨by rfl,?hy24⟩) (by assumption) ?rest24
    case hy24=>(intro w hSw;(try dsimp only at hSw);go_simp;all_goals (with_reducible rfl))
    simp only[Act.put,List.getElem_toArray,List.getElem_cons_zero,List.getElem_cons_succ,List.setIfInBounds_toArray,List.set_cons_zero,List.set_cons_succ];refine wpAnyH_take (i:=12) (v:=?v25) rfl (by kernel_rfl) (by kernel_rfl) (by kernel_rfl) (fun _ _ _ h=>h) (Or.inl ⟨by rfl,?hy25⟩) (by assumption) ?rest25
    case hy25=>(intro w hSw;(try dsimp only at hSw);go_simp;all_goals (with_reducible rfl))
    simp only[Act.put,List.getElem_toArray,List.getElem_cons_zero,List.getElem_cons_succ,List.setIfInBounds_toArray,List.set_cons_zero,List.set_cons_succ];refine wpAnyH_take (i:=13) (v:=?v26) rfl (by kernel_rfl) (by kernel_rfl) (by kernel_rfl) (fun _ _ _ h=>h) (Or.inl ⟨by rfl,?hy26⟩) (by assumption) ?rest26
    case hy26=>(intro w hSw;(try dsimp only at hSw);go_simp;all_goals (with_reducible rfl))
    simp only[Act.put,List.getElem_toArray,List.getElem_cons_zero,List.getElem_cons_succ,List.setIfInBounds_toArray,List.set_cons_zero,List.set_cons_succ];refine wpAnyH_take (i:=14) (v:=?v27) rfl (by kernel_rfl) (by kernel_rfl) (by kernel_rfl) (fun _ _ _ h=>h) (Or.inl ⟨by rfl,?hy27⟩) (by assumption) ?rest27
    case hy27=>(intro w hSw;(try dsimp only at hSw);go_simp;all_goals (with_reducible rfl))
    simp only[Act.put,List.getElem_toArray,List.getElem_cons_zero,List.getElem_cons_succ,List.setIfInBounds_toArray,List.set_cons_zero,List.set_cons_succ];refine wpAnyH_take (i:=15) (v:=?v28) rfl (by kernel_rfl) (by kernel_rfl) (by kernel_rfl) (fun _ _ _ h=>h) (Or.inl ⟨by rfl,?hy28⟩) (by assumption) ?rest28
    case hy28=>(intro w hSw;(try dsimp only at hSw);go_simp;all_goals (with_reducible rfl))
    simp only[Act.put,List.getElem_toArray,List.getElem_cons_zero,List.getElem_cons_succ,List.setIfInBounds_toArray,List.set_cons_zero,List.set_cons_succ];refine wpAnyH_take (i:=16) (v:=?v29) rfl (by kernel_rfl) (by kernel_rfl) (by kernel_rfl) (fun _ _ _ h=>h) (Or.inl ⟨by rfl,?hy29⟩) (by assumption) ?rest29
    case hy29=>(intro w hSw;(try dsimp only at hSw);obtain⟨z1,z2,z3,z4,z5,z6⟩:=hSw;go_simp;all_goals (with_reducible rfl))
    simp only[Act.put,List.getElem_toArray,List.getElem_cons_zero,List.getElem_cons_succ,List.setIfInBounds_toArray,List.set_cons_zero,List.set_cons_succ];refine wpAnyH_take (i:=17) (v:=?v30) rfl (by kernel_rfl) (by kernel_rfl) (by kernel_rfl) (fun _ _ _ h=>h) (Or.inl ⟨by rfl,?hy30⟩) (by assumption) ?rest30
    case hy30=>(intro w hSw;(try dsimp only at hSw);go_simp;all_goals (with_reducible rfl))
    simp only[Act.put,List.getElem_toArray,List.getElem_cons_zero,List.getElem_cons_succ,List.setIfInBounds_toArray,List.set_cons_zero,List.set_cons_succ];refine wpAnyH_take (i:=18) (v:=?v31) rfl (by kernel_rfl) (by kernel_rfl) (by kernel_rfl) (fun _ _ _ h=>h) (Or.inl ⟨by rfl,?hy31⟩) (by assumption) ?rest31
    case hy31=>(intro w hSw;(try dsimp only at hSw);obtain⟨z1,z2,z3,z4,z5,z6⟩:=hSw;go_simp;all_goals (with_reducible rfl))
    simp only[Act.put,List.getElem_toArray,List.getElem_cons_zero,List.getElem_cons_succ,List.setIfInBounds_toArray,List.set_cons_zero,List.set_cons_succ];refine wpAnyH_ready (rs:=[19]) (by kernel_rfl) (by simp) ?_;refine AllReadyH.cons rfl (fun K hK=>?_) AllReadyH.nil
    go_simp
    go_wp2_with (go_at_call 51;refine(MB _).mono ?_;rintro e w4 ⟨rfl,B4⟩;have KF:=keep6 B4 KD.1 KD.2 KE;have KG:=keep2 B4 KD);refine hK.out _ _ KF (fun hHeld=>?_);clear hK K;refine wpAnyH_take (i:=20) (v:=?v32) rfl (by kernel_rfl) (by kernel_rfl) (by kernel_rfl) (fun _ _ _ h=>h) (Or.inl ⟨by rfl,?hy32⟩) (by assumption) ?rest32
    case hy32=>(intro w hSw;(try dsimp only at hSw);go_simp;all_goals (with_reducible rfl))
    simp only[Act.put,List.getElem_toArray,List.getElem_cons_zero,List.getElem_cons_succ,List.setIfInBounds_toArray,List.set_cons_zero,List.set_cons_succ];refine wpAnyH_take (i:=21) (v:=?v33) rfl (by kernel_rfl) (by kernel_rfl) (by kernel_rfl) (fun _ _ _ h=>h) (Or.inl ⟨by rfl,?hy33⟩) (by assumption) ?rest33
    case hy33=>(intro w hSw;(try dsimp only at hSw);go_simp;all_goals (with_reducible rfl))
    simp only[Act.put,List.getElem_toArray,List.getElem_cons_zero,List.getElem_cons_succ,List.setIfInBounds_toArray,List.set_cons_zero,List.set_cons_succ];refine wpAnyH_done (by kernel_rfl) ?_ _;go_wp2;go_ret;exact⟨rfl,(BB.drew.trans (B3.mono BB.size)).trans (B4.mono (Nat.le_trans BB.size B3.size))⟩
   ·rw[hmb] at MB;rw[Bool.true_and,Bool.true_and];have hal':=fun h=>hal h hma;obtain⟨X,hX⟩:∃X:Bool,X=(if (o:Int)=1/\(b:Int)=2 then mayB c 2 (c.cs.getD a 0) else if (o:Int)=2 then decide (0<=c.cs.getD a 0) else true):=⟨_,rfl⟩
    rw[<-hX];have HX2:Hid (X=(if (o:Int)=1/\(b:Int)=2 then mayB c 2 (c.cs.getD a 0) else if (o:Int)=2 then decide (0<=c.cs.getD a 0) else true)):=hX;clear hX hal;go_enter Tryd.func52,Tryd.ntmps52;go_wp2_with fail;rw[<-hw1];refine(HP _ T1).mono ?_;rintro e w2 ⟨rfl,B2⟩;rw[<-HB0.out];have R2:=R1.below B2;have KA:1<w2.heap.size/\b0<w2.heap.size:=⟨R2.1,Nat.lt_of_lt_of_le L1 B2.size⟩
    have KC:w2.cell? ⟨b0,0,none⟩=some (.slice p.aw c.ws.length p.cw)/\w2.cell? ⟨b0,1,none⟩=some (.slice p.ac c.cs.length p.cc)/\w2.cell? ⟨b0,2,none⟩=some (.slice p.an c.ns.length p.cn)/\w2.cell? ⟨b0,3,none⟩=some (.slice p.ak c.ks.length p.ck) :=
     ⟨(B2.cell (p:=⟨b0,0,none⟩) L1).trans K1.1,(B2.cell (p:=⟨b0,1,none⟩) L1).trans K1.2.1,(B2.cell (p:=⟨b0,2,none⟩) L1).trans K1.2.2.1,(B2.cell (p:=⟨b0,3,none⟩) L1).trans K1.2.2.2⟩
    have KB:(fun wx=>wx.cell? ⟨1,o*2,none⟩=some (.int .i64 (ra:Nat))/\wx.cell? ⟨1,o*2+1,none⟩=some (.int .i64 (rb:Nat))/\wx.cell? ⟨b0,0,none⟩=some (.slice p.aw c.ws.length p.cw)/\wx.cell? ⟨b0,1,none⟩=some (.slice p.ac c.cs.length p.cc)/\wx.cell? ⟨b0,2,none⟩=some (.slice p.an c.ns.length p.cn)/\wx.cell? ⟨b0,3,none⟩=some (.slice p.ak c.ks.length p.ck)) w2:=⟨(HX _ R2).1,(HX _ R2).2,KC⟩
    simp only at KB;have BB:=B1.trans (B2.mono B1.size);have C2:=C1.below B2;clear K1 HX KC;go_wp2_with fail;refine wp_region_held_drew (S:=(fun wx=>wx.cell? ⟨1,o*2,none⟩=some (.int .i64 (ra:Nat))/\wx.cell? ⟨1,o*2+1,none⟩=some (.int .i64 (rb:Nat))/\wx.cell? ⟨b0,0,none⟩=some (.slice p.aw c.ws.length p.cw)/\wx.cell? ⟨b0,1,none⟩=some (.slice p.ac c.cs.length p.cc)/\wx.cell? ⟨b0,2,none⟩=some (.slice p.an c.ns.length p.cn)/\wx.cell? ⟨b0,3,none⟩=some (.slice p.ak c.ks.length p.ck))) (by kernel_rfl) KB (fun hHeld=>?_);refine wpAnyH_take (i:=0) (v:=?v34) rfl (by kernel_rfl) (by kernel_rfl) (by kernel_rfl) (fun _ _ _ h=>h) (Or.inl ⟨by rfl,?hy34⟩) (by assumption) ?rest34
    case hy34=>(intro w hSw;(try dsimp only at hSw);go_simp;all_goals (with_reducible rfl))
    simp only[Act.put,List.getElem_toArray,List.getElem_cons_zero,List.getElem_cons_succ,List.setIfInBounds_toArray,List.set_cons_zero,List.set_cons_succ];refine wpAnyH_take (i:=1) (v:=?v35) rfl (by kernel_rfl) (by kernel_rfl) (by kernel_rfl) (fun _ _ _ h=>h) (Or.inl ⟨by rfl,?hy35⟩) (by assumption) ?rest35
    case hy35=>(intro w hSw;(try dsimp only at hSw);go_simp;all_goals (with_reducible rfl))
    simp only[Act.put,List.getElem_toArray,List.getElem_cons_zero,List.getElem_cons_succ,List.setIfInBounds_toArray,List.set_cons_zero,List.set_cons_succ];refine wpAnyH_take (i:=2) (v:=?v36) rfl (by kernel_rfl) (by kernel_rfl) (by kernel_rfl) (fun _ _ _ h=>h) (Or.inl ⟨by rfl,?hy36⟩) (by assumption) ?rest36
    case hy36=>(intro w hSw;(try dsimp only at hSw);go_simp;all_goals (with_reducible rfl))
    simp only[Act.put,List.getElem_toArray,List.getElem_cons_zero,List.getElem_cons_succ,List.setIfInBounds_toArray,List.set_cons_zero,List.set_cons_succ];refine wpAnyH_take (i:=3) (v:=?v37) rfl (by kernel_rfl) (by kernel_rfl) (by kernel_rfl) (fun _ _ _ h=>h) (Or.inl ⟨by rfl,?hy37⟩) (by assumption) ?rest37
    case hy37=>(intro w hSw;(try dsimp only at hSw);go_simp;all_goals (with_reducible rfl))
    simp only[Act.put,List.getElem_toArray,List.getElem_cons_zero,List.getElem_cons_succ,List.setIfInBounds_toArray,List.set_cons_zero,List.set_cons_succ];refine wpAnyH_take (i:=4) (v:=?v38) rfl (by kernel_rfl) (by kernel_rfl) (by kernel_rfl) (fun _ _ _ h=>h) (Or.inl ⟨by rfl,?hy38⟩) (by assumption) ?rest38
    case hy38=>(intro w hSw;(try dsimp only at hSw);go_simp;all_goals (with_reducible rfl))
    simp only[Act.put,List.getElem_toArray,List.getElem_cons_zero,List.getElem_cons_succ,List.setIfInBounds_toArray,List.set_cons_zero,List.set_cons_succ];refine wpAnyH_take (i:=5) (v:=?v39) rfl (by kernel_rfl) (by kernel_rfl) (by kernel_rfl) (fun _ _ _ h=>h) (Or.inl ⟨by rfl,?hy39⟩) (by assumption) ?rest39
    case hy39=>(intro w hSw;(try dsimp only at hSw);go_simp;all_goals (with_reducible rfl))
    simp only[Act.put,List.getElem_toArray,List.getElem_cons_zero,List.getElem_cons_succ,List.setIfInBounds_toArray,List.set_cons_zero,List.set_cons_succ];refine wpAnyH_take (i:=6) (v:=?v40) rfl (by kernel_rfl) (by kernel_rfl) (by kernel_rfl) (fun _ _ _ h=>h) (Or.inl ⟨by rfl,?hy40⟩) (by assumption) ?rest40
    case hy40=>(intro w hSw;(try dsimp only at hSw);obtain⟨z1,z2,z3,z4,z5,z6⟩:=hSw;go_simp;all_goals (with_reducible rfl))
    simp only[Act.put,List.getElem_toArray,List.getElem_cons_zero,List.getElem_cons_succ,List.setIfInBounds_toArray,List.set_cons_zero,List.set_cons_succ];refine wpAnyH_take (i:=7) (v:=?v41) rfl (by kernel_rfl) (by kernel_rfl) (by kernel_rfl) (fun _ _ _ h=>h) (Or.inl ⟨by rfl,?hy41⟩) (by assumption) ?rest41
    case hy41=>(intro w hSw;(try dsimp only at hSw);go_simp;all_goals (with_reducible rfl))
    simp only[Act.put,List.getElem_toArray,List.getElem_cons_zero,List.getElem_cons_succ,List.setIfInBounds_toArray,List.set_cons_zero,List.set_cons_succ];refine wpAnyH_take (i:=8) (v:=?v42) rfl (by kernel_rfl) (by kernel_rfl) (by kernel_rfl) (fun _ _ _ h=>h) (Or.inl ⟨by rfl,?hy42⟩) (by assumption) ?rest42
    case hy42=>(intro w hSw;(try dsimp only at hSw);obtain⟨z1,z2,z3,z4,z5,z6⟩:=hSw;go_simp;all_goals (with_reducible rfl))
    simp only[Act.put,List.getElem_toArray,List.getElem_cons_zero,List.getElem_cons_succ,List.setIfInBounds_toArray,List.set_cons_zero,List.set_cons_succ];refine wpAnyH_ready (rs:=[9]) (by kernel_rfl) (by simp) ?_;refine AllReadyH.cons rfl (fun K hK=>?_) AllReadyH.nil
    go_simp
    go_wp2_with (go_at_call 51;refine(MA _).mono ?_;rintro e w3 ⟨rfl,B3⟩;have KE:=keep6 B3 KA.1 KA.2 KB;have KD:=keep2 B3 KA);refine hK.out _ _ KE (fun hHeld=>?_);clear hK K;refine wpAnyH_take (i:=10) (v:=?v43) rfl (by kernel_rfl) (by kernel_rfl) (by kernel_rfl) (fun _ _ _ h=>h) (Or.inl ⟨by rfl,?hy43⟩) (by assumption) ?rest43
    case hy43=>(intro w hSw;(try dsimp only at hSw);go_simp;all_goals (with_reducible rfl))
    simp only[Act.put,List.getElem_toArray,List.getElem_cons_zero,List.getElem_cons_succ,List.setIfInBounds_toArray,List.set_cons_zero,List.set_cons_succ];refine wpAnyH_take (i:=11) (v:=?v44) rfl (by kernel_rfl) (by kernel_rfl) (by kernel_rfl) (fun _ _ _ h=>h) (Or.inl ⟨by rfl,?hy44⟩) (by assumption) ?rest44
    case hy44=>(intro w hSw;(try dsimp only at hSw);go_simp;all_goals (with_reducible rfl))
    simp only[Act.put,List.getElem_toArray,List.getElem_cons_zero,List.getElem_cons_succ,List.setIfInBounds_toArray,List.set_cons_zero,List.set_cons_succ];refine wpAnyH_take (i:=12) (v:=?v45) rfl (by kernel_rfl) (by kernel_rfl) (by kernel_rfl) (fun _ _ _ h=>h) (Or.inl ⟨by rfl,?hy45⟩) (by assumption) ?rest45
    case hy45=>(intro w hSw;(try dsimp only at hSw);go_simp;all_goals (with_reducible rfl))
    simp only[Act.put,List.getElem_toArray,List.getElem_cons_zero,List.getElem_cons_succ,List.setIfInBounds_toArray,List.set_cons_zero,List.set_cons_succ];refine wpAnyH_take (i:=13) (v:=?v46) rfl (by kernel_rfl) (by kernel_rfl) (by kernel_rfl) (fun _ _ _ h=>h) (Or.inl ⟨by rfl,?hy46⟩) (by assumption) ?rest46
    case hy46=>(intro w hSw;(try dsimp only at hSw);go_simp;all_goals (with_reducible rfl))
    simp only[Act.put,List.getElem_toArray,List.getElem_cons_zero,List.getElem_cons_succ,List.setIfInBounds_toArray,List.set_cons_zero,List.set_cons_succ];refine wpAnyH_take (i:=14) (v:=?v47) rfl (by kernel_rfl) (by kernel_rfl) (by kernel_rfl) (fun _ _ _ h=>h) (Or.inl ⟨by rfl,?hy47⟩) (by assumption) ?rest47
    case hy47=>(intro w hSw;(try dsimp only at hSw);go_simp;all_goals (with_reducible rfl))
    simp only[Act.put,List.getElem_toArray,List.getElem_cons_zero,List.getElem_cons_succ,List.setIfInBounds_toArray,List.set_cons_zero,List.set_cons_succ];refine wpAnyH_take (i:=15) (v:=?v48) rfl (by kernel_rfl) (by kernel_rfl) (by kernel_rfl) (fun _ _ _ h=>h) (Or.inl ⟨by rfl,?hy48⟩) (by assumption) ?rest48
    case hy48=>(intro w hSw;(try dsimp only at hSw);go_simp;all_goals (with_reducible rfl))
    simp only[Act.put,List.getElem_toArray,List.getElem_cons_zero,List.getElem_cons_succ,List.setIfInBounds_toArray,List.set_cons_zero,List.set_cons_succ];refine wpAnyH_take (i:=16) (v:=?v49) rfl (by kernel_rfl) (by kernel_rfl) (by kernel_rfl) (fun _ _ _ h=>h) (Or.inl ⟨by rfl,?hy49⟩) (by assumption) ?rest49
    case hy49=>(intro w hSw;(try dsimp only at hSw);obtain⟨z1,z2,z3,z4,z5,z6⟩:=hSw;go_simp;all_goals (with_reducible rfl))
    simp only[Act.put,List.getElem_toArray,List.getElem_cons_zero,List.getElem_cons_succ,List.setIfInBounds_toArray,List.set_cons_zero,List.set_cons_succ];refine wpAnyH_take (i:=17) (v:=?v50) rfl (by kernel_rfl) (by kernel_rfl) (by kernel_rfl) (fun _ _ _ h=>h) (Or.inl ⟨by rfl,?hy50⟩) (by assumption) ?rest50
    case hy50=>(intro w hSw;(try dsimp only at hSw);go_simp;all_goals (with_reducible rfl))
    simp only[Act.put,List.getElem_toArray,List.getElem_cons_zero,List.getElem_cons_succ,List.setIfInBounds_toArray,List.set_cons_zero,List.set_cons_succ];refine wpAnyH_take (i:=18) (v:=?v51) rfl (by kernel_rfl) (by kernel_rfl) (by kernel_rfl) (fun _ _ _ h=>h) (Or.inl ⟨by rfl,?hy51⟩) (by assumption) ?rest51
    case hy51=>(intro w hSw;(try dsimp only at hSw);obtain⟨z1,z2,z3,z4,z5,z6⟩:=hSw;go_simp;all_goals (with_reducible rfl))
    simp only[Act.put,List.getElem_toArray,List.getElem_cons_zero,List.getElem_cons_succ,List.setIfInBounds_toArray,List.set_cons_zero,List.set_cons_succ];refine wpAnyH_ready (rs:=[19]) (by kernel_rfl) (by simp) ?_;refine AllReadyH.cons rfl (fun K hK=>?_) AllReadyH.nil
    go_simp
    go_wp2_with (go_at_call 51;refine(MB _).mono ?_;rintro e w4 ⟨rfl,B4⟩;have KF:=keep6 B4 KD.1 KD.2 KE;have KG:=keep2 B4 KD);refine hK.out _ _ KF (fun hHeld=>?_);clear hK K;refine wpAnyH_take (i:=20) (v:=?v52) rfl (by kernel_rfl) (by kernel_rfl) (by kernel_rfl) (fun _ _ _ h=>h) (Or.inl ⟨by rfl,?hy52⟩) (by assumption) ?rest52
    case hy52=>(intro w hSw;(try dsimp only at hSw);go_simp;all_goals (with_reducible rfl))
    simp only[Act.put,List.getElem_toArray,List.getElem_cons_zero,List.getElem_cons_succ,List.setIfInBounds_toArray,List.set_cons_zero,List.set_cons_succ];refine wpAnyH_take (i:=21) (v:=?v53) rfl (by kernel_rfl) (by kernel_rfl) (by kernel_rfl) (fun _ _ _ h=>h) (Or.inl ⟨by rfl,?hy53⟩) (by assumption) ?rest53
    case hy53=>(intro w hSw;(try dsimp only at hSw);go_simp;all_goals (with_reducible rfl))
    simp only[Act.put,List.getElem_toArray,List.getElem_cons_zero,List.getElem_cons_succ,List.setIfInBounds_toArray,List.set_cons_zero,List.set_cons_succ];refine wpAnyH_done (by kernel_rfl) ?_ _;have B5:=(BB.drew.trans (B3.mono BB.size)).trans (B4.mono (Nat.le_trans BB.size B3.size));have C4:=((C2.below (Below.refl _ w2).drew).below B3).below B4;clear MA MB hHeld B3 B4 BB B2 KB KE KA KD B1 C2 C1 R1 R2 T1;obtain⟨-,-,k0,k1,k2,k3⟩:=KF;by_cases o1:o=1
    ·have hlt:=hal' (h12 (.inl o1));obtain⟨cb,co,hac,hcb,hcx⟩:=C4.cs.at (isV_at hlt);have hl4:=C4.lc;have MC:=fun w=>may_c 2 (by omega) (c.cs.getD a 0) p c w C4.lc C4.ln C4.lk;have oI:(o:Int)=1:=by omega
     have haI:(a:Int)<(c.cs.length:Int):=by omega
     by_cases hb2:b=2
     ·have bI:(b:Int)=2:=by omega
      have fin:X=mayB c 2 (c.cs.getD a 0):=by rw[HX2.out,if_pos ⟨oI,bI⟩]
      clear HX2 hal' h12;rw[<-fin] at MC;clear fin;generalize c.cs.getD a 0=z at MC hcx;rw[hac] at k1;have KH:w4.cell? ⟨cb,co+a,none⟩=some (.int .i64 z)/\w4.cell? ⟨b0,0,none⟩=some (.slice p.aw c.ws.length p.cw)/\w4.cell? ⟨b0,1,none⟩=some (.slice (some ⟨cb,co,none⟩) c.cs.length p.cc)/\w4.cell? ⟨b0,2,none⟩=some (.slice p.an c.ns.length p.cn)/\w4.cell? ⟨b0,3,none⟩=some (.slice p.ak c.ks.length p.ck):=⟨hcx,k0,k1,k2,k3⟩
      unfold cdV cdA at MC;rw[hac] at MC;go_wp2_with fail;go_region_held3 (fun wx=>wx.cell? ⟨cb,co+a,none⟩=some (.int .i64 z)/\wx.cell? ⟨b0,0,none⟩=some (.slice p.aw c.ws.length p.cw)/\wx.cell? ⟨b0,1,none⟩=some (.slice (some ⟨cb,co,none⟩) c.cs.length p.cc)/\wx.cell? ⟨b0,2,none⟩=some (.slice p.an c.ns.length p.cn)/\wx.cell? ⟨b0,3,none⟩=some (.slice p.ak c.ks.length p.ck)) (first|exact KH|go_keep) ((go_at_call 51;refine(MC _).mono ?_;rintro e w5 ⟨rfl,B6⟩;have KH:=keep5 B6 hcb KG.2 KH));go_wp2;go_ret;exact⟨rfl,B5.drew.trans (B6.mono B5.size)⟩
     ·have bI:¬(b:Int)=2:=by omega
      have fin:X=true:=by rw[HX2.out,if_neg (fun h=>bI h.2),if_neg (by omega)]
      clear HX2 hal' h12;subst fin;go_wp2;go_ret;exact⟨rfl,B5⟩
    ·have oI:¬(o:Int)=1:=by omega
     by_cases o2:o=2
     ·have hlt:=hal' (h12 (.inr o2));obtain⟨cb,co,hac,hcb,hcx⟩:=C4.cs.at (isV_at hlt);have hl4:=C4.lc;have oJ:(o:Int)=2:=by omega
      have haI:(a:Int)<(c.cs.length:Int):=by omega
      have fin:X=decide (0<=c.cs.getD a 0):=by rw[HX2.out,if_neg (fun h=>oI h.1),if_pos oJ]
      clear HX2 hal' h12;generalize c.cs.getD a 0=z at hcx fin;have FN:=Lib.hid fin;clear fin;rw[hac] at k1;go_wp2;go_ret;exact⟨by rw[FN.out];rfl,B5⟩
     ·have oJ:¬(o:Int)=2:=by omega
      have fin:X=true:=by rw[HX2.out,if_neg (fun h=>oI h.1),if_neg oJ]
      clear HX2 hal' h12;subst fin;go_wp2;go_ret;exact⟨rfl,B5⟩
 ·have fin:wrdP c o a b=false:=by
   have:decide ((o:Int)<28)=false:=by simp;omega
   unfold wrdP;rw[this];rfl
  rw[fin];have g28:(28:Int)<=(o:Int):=by omega
  go_enter Tryd.func52,Tryd.ntmps52;go_wp2_with fail;rw[<-hw1];refine(HP _ T1).mono ?_;rintro e w2 ⟨rfl,B2⟩;go_wp2_with fail
  go_quiet (fail)
  go_wp2;go_ret;exact⟨rfl,B1.trans ((B2.trans ((below_drewN _ _).mono B2.size)).mono B1.size)⟩
theorem wordRight_c (u:Int)(h1:0<=u)(h2:u<18446744073709551616)(p:Pl)(c:Cd)(w:World)(hT:Tab w)(hR:Rul w)(hC:CdW w p c) :
  Calls Tryd.prog 52 #[.int .u64 u,cdV p c] w fun e w'=>e=.returned (.bool (wrdB c u))/\Below w.heap.size w w':=by
 obtain⟨o,ho⟩:=Int.eq_ofNat_of_zero_le (show 0<=u / 72057594037927936 by omega);obtain⟨a,ha⟩:=Int.eq_ofNat_of_zero_le (show 0<=u / 268435456 % 268435456 by omega);obtain⟨b,hb⟩:=Int.eq_ofNat_of_zero_le (show 0<=u % 268435456 by omega);have e:wrdB c u=wrdP c o a b:=by
  unfold wrdB;rw[show opW u=(o:Int) from ho,show aW u=(a:Int) from ha,show bW u=(b:Int) from hb,wrd_same c o a b (by omega) (by omega) (by omega) (by omega) (by omega)]
 rw[e];exact word_walk u o a b ho ha hb h1 h2 p c w hT hR hC
end Go.Proofs.YtpdfdhkdfkhfkaaDoor

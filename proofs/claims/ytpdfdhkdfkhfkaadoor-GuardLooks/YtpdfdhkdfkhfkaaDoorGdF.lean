import Derived.Test.YtpdfdhkdfkhfkaaDoorGdE
set_option maxRecDepth 100000
set_option maxHeartbeats 8000000
namespace Go.Proofs.YtpdfdhkdfkhfkaaDoor
open Go.ChangeShapes Go.WideShapes Go.ChangeAt Go.RowKit
set_option linter.unusedVariables false
set_option linter.unusedSimpArgs false
theorem InG.drew {w:World}{m:Nat}{v:Value}{xs:List Nat}(h:InG w m v xs):InG w.drew m v xs:=h.below ⟨rfl,rfl,rfl,Nat.le_refl _,fun _ _=>rfl⟩
theorem eff_1 (c:Cd)(a b:Nat)(w:World)(ak:Option Addr)(nk ck:Nat):Calls Tryd.prog 57 #[wdV 1 a b,.slice ak nk ck] w (EffOut w (effE c 1 a b).1 (effE c 1 a b).2):=by
 have HZ:Hid (EffOut w (effE c 1 a b).1 (effE c 1 a b).2 (.returned (.tuple #[.slice none 0 0,.slice (some ⟨w.heap.size+1,0,none⟩) 1 1])) ((w.alloc (bxW 1 a b)).alloc (.cells #[.int .i64 (b:Nat)] 3)).drew) :=
  ⟨_,_,rfl,InG.nil _ _,(InG.one (x:=b) (hA2 w _ _) (by omega)).drew,(bG2 _ (bG w _)).drew⟩
 go_enter Tryd.func57,Tryd.ntmps57;go_upto_region 3 with fail;go_region;go_wp2;go_ret2;exact HZ.out
theorem eff_16 (c:Cd)(a b:Nat)(h:1<=a/\a<=10)(w:World)(ak:Option Addr)(nk ck:Nat):Calls Tryd.prog 57 #[wdV 16 a b,.slice ak nk ck] w (EffOut w (effE c 16 a b).1 (effE c 16 a b).2):=by
 have HC:=fun wx=>call_c a h wx;have HE:Hid (∀ e w',EffOut (w.alloc (bxW 16 a b)) (callE a).1 (callE a).2 e w'->EffOut w (effE c 16 a b).1 (effE c 16 a b).2 e w'):=fun e w' H=>H.mono (bG w _);clear h;go_enter Tryd.func57,Tryd.ntmps57;go_wp2_with fail;refine(HC _).mono ?_;rintro e w2 H;have HF:=HE.out _ _ H;obtain⟨v,u,rfl,H1,H2,H3⟩:=H;have HZ:=Lib.hid HF;clear H1 H2 H3 HF HC HE;go_wp2;go_ret2;exact HZ.out
theorem eff_22 (c:Cd)(a b:Nat)(w:World)(ak:Option Addr)(nk ck:Nat):Calls Tryd.prog 57 #[wdV 22 a b,.slice ak nk ck] w (EffOut w (effE c 22 a b).1 (effE c 22 a b).2):=by
 have HC:=fun wx=>vertices_c 1 (by omega) wx;go_enter Tryd.func57,Tryd.ntmps57;go_wp2_with fail;refine(HC _).mono ?_;rintro e w2 ⟨v,rfl,HI,B2⟩;have HZ:Hid (EffOut w (effE c 22 a b).1 (effE c 22 a b).2 (.returned (.tuple #[v,.slice none 0 0])) w2):=⟨_,_,rfl,HI.mono (by simp),InG.nil _ _,(bG w _).trans (B2.mono (by simp))⟩
 clear HI B2 HC;go_wp2;go_ret2;exact HZ.out
theorem eff_23 (c:Cd)(a b:Nat)(h:a<=1024)(w:World)(ak:Option Addr)(nk ck:Nat):Calls Tryd.prog 57 #[wdV 23 a b,.slice ak nk ck] w (EffOut w (effE c 23 a b).1 (effE c 23 a b).2):=by
 have HC:=fun wx=>vertices_c a h wx;go_enter Tryd.func57,Tryd.ntmps57;go_wp2_with fail;refine(HC _).mono ?_;rintro e w2 ⟨v,rfl,HI,B2⟩;have HZ:Hid (EffOut w (effE c 23 a b).1 (effE c 23 a b).2 (.returned (.tuple #[v,.slice none 0 0])) w2):=⟨_,_,rfl,HI.mono (by simp),InG.nil _ _,(bG w _).trans (B2.mono (by simp))⟩
 clear HI B2 HC;go_wp2;go_ret2;exact HZ.out
theorem eff_18 (c:Cd)(hr:rgtB c=true)(a b:Nat)(h:a<c.ks.length)(w:World)(ak:Option Addr)(ck:Nat)(hC:Lsv w ak (isV c.ks))(hl:c.ks.length<=256):Calls Tryd.prog 57 #[wdV 18 a b,.slice ak c.ks.length ck] w (EffOut w (effE c 18 a b).1 (effE c 18 a b).2):=by
 obtain⟨w1,hw1⟩:∃w1,w1=w.alloc (bxW 18 a b):=⟨_,rfl⟩
 have B1:Below w.heap.size w w1:=by rw[hw1];exact bG _ _
 obtain⟨g,hg⟩:∃g,g=w.heap.size:=⟨_,rfl⟩
 have hs1:w1.heap.size=g+1:=by rw[hw1,hg];simp
 have hb:w1.heap[g]?=some (bxW 18 a b):=by rw[hw1,hg];exact h1G _ _
 have c0:w1.cell? ⟨g,0,none⟩=some (.int .i64 18):=by rw[cell_of_row _ _ _ _ _ _ hb];rfl
 have c1:w1.cell? ⟨g,1,none⟩=some (.int .i64 (a:Nat)):=by rw[cell_of_row _ _ _ _ _ _ hb];rfl
 obtain⟨kb,off,rfl,hkl,hkc⟩:=(hC.below B1).at (isV_get h);rw[kdC_int hr h] at hkc;have hZ:∀ w2:World,(∀ x y:Obj,True)->Below w.heap.size w w2->w2.heap[g+1]?=some (.cells #[.int .i64 (kdC c a:Nat)] 3 (0,0))->w2.heap[g+2]?=some (.cells #[.int .i64 (kdC c a:Nat)] 3 (0,0))->EffOut w (effE c 18 a b).1 (effE c 18 a b).2 (.returned (.tuple #[.slice (some ⟨g+1,0,none⟩) 1 1,.slice (some ⟨g+2,0,none⟩) 1 1])) w2:=fun w2 _ B h1 h2=>⟨_,_,rfl,InG.one h1 (by omega),InG.one h2 (by omega),B⟩;have hZ2:∀ w2:World,(∀ x y:Obj,True)->Below w.heap.size w w2->w2.heap[g+1]?=some (.cells #[.int .i64 (kdC c a:Nat)] 3 (0,0))->w2.heap[g+2]?=some (.cells #[.int .i64 (kdC c a:Nat)] 3 (0,0))->EffOut w (effE c 18 a b).1 (effE c 18 a b).2 (.returned (.tuple #[.slice (some ⟨g+2,0,none⟩) 1 1,.slice (some ⟨g+1,0,none⟩) 1 1])) w2:=fun w2 _ B h1 h2=>⟨_,_,rfl,InG.one h2 (by omega),InG.one h1 (by omega),B⟩;have B3:Below w.heap.size w ((w1.alloc (.cells #[.int .i64 (kdC c a:Nat)] 3)).alloc (.cells #[.int .i64 (kdC c a:Nat)] 3)).drew:=(bG2 _ (bG2 _ B1)).drew;have E1:((w1.alloc (.cells #[.int .i64 (kdC c a:Nat)] 3)).alloc (.cells #[.int .i64 (kdC c a:Nat)] 3)).drew.heap[g+1]?=some (.cells #[.int .i64 (kdC c a:Nat)] 3 (0,0)):=by
  rw[<-hs1];exact h2G w1 _ _
 have E2:((w1.alloc (.cells #[.int .i64 (kdC c a:Nat)] 3)).alloc (.cells #[.int .i64 (kdC c a:Nat)] 3)).drew.heap[g+2]?=some (.cells #[.int .i64 (kdC c a:Nat)] 3 (0,0)):=by
  rw[show g+2=w1.heap.size+1 by omega];exact hA2 w1 _ _
 have HZ:=Lib.hid (hZ _ (fun _ _=>trivial) B3 E1 E2);have HZ2:=Lib.hid (hZ2 _ (fun _ _=>trivial) B3 E1 E2);have haI:(a:Int)<(c.ks.length:Int):=by omega
 generalize kdC c a=kd at *;have HG:=Lib.hid hg;have HS:=Lib.hid hs1;have A1:=bG w1 (.cells #[.int .i64 (kd:Nat)] 3);have c1a:(w1.alloc (.cells #[.int .i64 (kd:Nat)] 3)).cell? ⟨g,1,none⟩=some (.int .i64 (a:Nat)):=(A1.cell (p:=⟨g,1,none⟩) (by show g<w1.heap.size;omega)).trans c1;have hka:(w1.alloc (.cells #[.int .i64 (kd:Nat)] 3)).cell? ⟨kb,off+a,none⟩=some (.int .i64 (kd:Nat)):=(A1.cell (p:=⟨kb,off+a,none⟩) hkl).trans hkc;clear A1 hZ hZ2 B3 E1 E2 hg hs1 hb hC B1;go_enter Tryd.func57,Tryd.ntmps57;go_upto_region 1 with fail;have hw2:w1=w.alloc (.cells #[.int .i64 18,.int .i64 (a:Nat),.int .i64 (b:Nat)] 81):=hw1;rw[<-hw2,<-HG.out];clear hw1 hw2;go_upto_region 28 with fail;go_region
 all_goals
  rw[HS.out];go_wp2;go_ret2
  first|exact HZ.out|exact HZ2.out
end Go.Proofs.YtpdfdhkdfkhfkaaDoor

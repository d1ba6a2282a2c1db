import Derived.Test.YtpdfdhkdfkhfkaaDoorGdF
set_option maxRecDepth 100000
set_option maxHeartbeats 8000000
namespace Go.Proofs.YtpdfdhkdfkhfkaaDoor
open Go.ChangeShapes Go.WideShapes Go.ChangeAt Go.RowKit
set_option linter.unusedVariables false
set_option linter.unusedSimpArgs false
theorem effect_c (c:Cd)(hr:rgtB c=true)(o a b:Nat)(W:WdR c o a b)(w:World)(ak:Option Addr)(ck:Nat)(hC:Lsv w ak (isV c.ks)):Calls Tryd.prog 57 #[wdV o a b,.slice ak c.ks.length ck] w (EffOut w (effE c o a b).1 (effE c o a b).2):=by
 have hl:=(rgt_lens hr).2.2.2.2;have h16:=W.c16;have h18:=W.c17;have h23:=W.c23;have ho:=W.ol;clear W
 match o,ho,h16,h18,h23 with
 | 0,_,_,_,_=>exact eff_0 c a b w ak _ ck
 | 1,_,_,_,_=>exact eff_1 c a b w ak _ ck
 | 2,_,_,_,_=>exact eff_2 c a b w ak _ ck
 | 3,_,_,_,_=>exact eff_3 c a b w ak _ ck
 | 4,_,_,_,_=>exact eff_4 c a b w ak _ ck
 | 5,_,_,_,_=>exact eff_5 c a b w ak _ ck
 | 6,_,_,_,_=>exact eff_6 c a b w ak _ ck
 | 7,_,_,_,_=>exact eff_7 c a b w ak _ ck
 | 8,_,_,_,_=>exact eff_8 c a b w ak _ ck
 | 9,_,_,_,_=>exact eff_9 c a b w ak _ ck
 | 10,_,_,_,_=>exact eff_10 c a b w ak _ ck
 | 11,_,_,_,_=>exact eff_11 c a b w ak _ ck
 | 12,_,_,_,_=>exact eff_12 c a b w ak _ ck
 | 13,_,_,_,_=>exact eff_13 c a b w ak _ ck
 | 14,_,_,_,_=>exact eff_14 c a b w ak _ ck
 | 15,_,_,_,_=>exact eff_15 c a b w ak _ ck
 | 16,_,h,_,_=>exact eff_16 c a b (h rfl) w ak _ ck
 | 17,_,_,_,_=>exact eff_17 c a b w ak _ ck
 | 18,_,_,h,_=>exact eff_18 c hr a b (h (Or.inr (Or.inl rfl))) w ak ck hC hl
 | 19,_,_,_,_=>exact eff_19 c a b w ak _ ck
 | 20,_,_,_,_=>exact eff_20 c a b w ak _ ck
 | 21,_,_,_,_=>exact eff_21 c a b w ak _ ck
 | 22,_,_,_,_=>exact eff_22 c a b w ak _ ck
 | 23,_,_,_,h=>exact eff_23 c a b (h rfl) w ak _ ck
 | 24,_,_,_,_=>exact eff_24 c a b w ak _ ck
 | 25,_,_,_,_=>exact eff_25 c a b w ak _ ck
 | 26,_,_,_,_=>exact eff_26 c a b w ak _ ck
 | 27,_,_,_,_=>exact eff_27 c a b w ak _ ck
 | n+28,h,_,_,_=>omega
theorem fits_0 (a b r:Nat)(w:World):Calls Tryd.prog 56 #[wdV 0 a b,.int .i64 (r:Nat)] w fun e w'=>e=.returned (.bool (fitE 0 a r))/\Below w.heap.size w w':=by
 go_enter Tryd.func56,Tryd.ntmps56;go_wp2;go_ret;exact⟨ret_bool (by simp[fitE]<;>omega),bG _ _⟩
theorem opens_0 (a b:Nat)(w:World):Calls Tryd.prog 61 #[wdV 0 a b] w fun e w'=>e=.returned (.int .i64 (0))/\Below w.heap.size w w':=by
 go_enter Tryd.func61,Tryd.ntmps61;go_wp2;go_ret;exact⟨rfl,bG _ _⟩
theorem leads_0 (a b:Nat)(w:World):Calls Tryd.prog 42 #[wdV 0 a b] w fun e w'=>e=.returned (.tuple #[.int .i64 ((ledTo 0 a b).getD 0:Nat),.bool (ledTo 0 a b).isSome])/\Below w.heap.size w w':=by
 go_enter Tryd.func42,Tryd.ntmps42;go_wp2;go_ret2;exact⟨rfl,bG _ _⟩
theorem fits_1 (a b r:Nat)(w:World):Calls Tryd.prog 56 #[wdV 1 a b,.int .i64 (r:Nat)] w fun e w'=>e=.returned (.bool (fitE 1 a r))/\Below w.heap.size w w':=by
 go_enter Tryd.func56,Tryd.ntmps56;go_wp2;go_ret;exact⟨ret_bool (by simp[fitE]<;>omega),bG _ _⟩
theorem opens_1 (a b:Nat)(w:World):Calls Tryd.prog 61 #[wdV 1 a b] w fun e w'=>e=.returned (.int .i64 (0))/\Below w.heap.size w w':=by
 go_enter Tryd.func61,Tryd.ntmps61;go_wp2;go_ret;exact⟨rfl,bG _ _⟩
theorem leads_1 (a b:Nat)(w:World):Calls Tryd.prog 42 #[wdV 1 a b] w fun e w'=>e=.returned (.tuple #[.int .i64 ((ledTo 1 a b).getD 0:Nat),.bool (ledTo 1 a b).isSome])/\Below w.heap.size w w':=by
 go_enter Tryd.func42,Tryd.ntmps42;go_wp2;go_ret2;exact⟨rfl,bG _ _⟩
theorem fits_2 (a b r:Nat)(w:World):Calls Tryd.prog 56 #[wdV 2 a b,.int .i64 (r:Nat)] w fun e w'=>e=.returned (.bool (fitE 2 a r))/\Below w.heap.size w w':=by
 go_enter Tryd.func56,Tryd.ntmps56;go_wp2;go_ret;exact⟨ret_bool (by simp[fitE]<;>omega),bG _ _⟩
theorem opens_2 (a b:Nat)(w:World):Calls Tryd.prog 61 #[wdV 2 a b] w fun e w'=>e=.returned (.int .i64 (0))/\Below w.heap.size w w':=by
 go_enter Tryd.func61,Tryd.ntmps61;go_wp2;go_ret;exact⟨rfl,bG _ _⟩
theorem leads_2 (a b:Nat)(w:World):Calls Tryd.prog 42 #[wdV 2 a b] w fun e w'=>e=.returned (.tuple #[.int .i64 ((ledTo 2 a b).getD 0:Nat),.bool (ledTo 2 a b).isSome])/\Below w.heap.size w w':=by
 go_enter Tryd.func42,Tryd.ntmps42;go_wp2;go_ret2;exact⟨rfl,bG _ _⟩
theorem fits_3 (a b r:Nat)(w:World):Calls Tryd.prog 56 #[wdV 3 a b,.int .i64 (r:Nat)] w fun e w'=>e=.returned (.bool (fitE 3 a r))/\Below w.heap.size w w':=by
 go_enter Tryd.func56,Tryd.ntmps56;go_wp2;go_ret;exact⟨ret_bool (by simp[fitE]<;>omega),bG _ _⟩
theorem opens_3 (a b:Nat)(w:World):Calls Tryd.prog 61 #[wdV 3 a b] w fun e w'=>e=.returned (.int .i64 (0))/\Below w.heap.size w w':=by
 go_enter Tryd.func61,Tryd.ntmps61;go_wp2;go_ret;exact⟨rfl,bG _ _⟩
theorem leads_3 (a b:Nat)(w:World):Calls Tryd.prog 42 #[wdV 3 a b] w fun e w'=>e=.returned (.tuple #[.int .i64 ((ledTo 3 a b).getD 0:Nat),.bool (ledTo 3 a b).isSome])/\Below w.heap.size w w':=by
 go_enter Tryd.func42,Tryd.ntmps42;go_wp2;go_ret2;exact⟨rfl,bG _ _⟩
theorem fits_4 (a b r:Nat)(w:World):Calls Tryd.prog 56 #[wdV 4 a b,.int .i64 (r:Nat)] w fun e w'=>e=.returned (.bool (fitE 4 a r))/\Below w.heap.size w w':=by
 go_enter Tryd.func56,Tryd.ntmps56;go_wp2;go_ret;exact⟨ret_bool (by simp[fitE]<;>omega),bG _ _⟩
theorem opens_4 (a b:Nat)(w:World):Calls Tryd.prog 61 #[wdV 4 a b] w fun e w'=>e=.returned (.int .i64 (0))/\Below w.heap.size w w':=by
 go_enter Tryd.func61,Tryd.ntmps61;go_wp2;go_ret;exact⟨rfl,bG _ _⟩
theorem leads_4 (a b:Nat)(w:World):Calls Tryd.prog 42 #[wdV 4 a b] w fun e w'=>e=.returned (.tuple #[.int .i64 ((ledTo 4 a b).getD 0:Nat),.bool (ledTo 4 a b).isSome])/\Below w.heap.size w w':=by
 go_enter Tryd.func42,Tryd.ntmps42;go_wp2;go_ret2;exact⟨rfl,bG _ _⟩
theorem fits_5 (a b r:Nat)(w:World):Calls Tryd.prog 56 #[wdV 5 a b,.int .i64 (r:Nat)] w fun e w'=>e=.returned (.bool (fitE 5 a r))/\Below w.heap.size w w':=by
 go_enter Tryd.func56,Tryd.ntmps56;go_wp2;go_ret;exact⟨ret_bool (by simp[fitE]<;>omega),bG _ _⟩
theorem opens_5 (a b:Nat)(w:World):Calls Tryd.prog 61 #[wdV 5 a b] w fun e w'=>e=.returned (.int .i64 (0))/\Below w.heap.size w w':=by
 go_enter Tryd.func61,Tryd.ntmps61;go_wp2;go_ret;exact⟨rfl,bG _ _⟩
theorem leads_5 (a b:Nat)(w:World):Calls Tryd.prog 42 #[wdV 5 a b] w fun e w'=>e=.returned (.tuple #[.int .i64 ((ledTo 5 a b).getD 0:Nat),.bool (ledTo 5 a b).isSome])/\Below w.heap.size w w':=by
 go_enter Tryd.func42,Tryd.ntmps42;go_wp2;go_ret2;exact⟨rfl,bG _ _⟩
theorem fits_6 (a b r:Nat)(w:World):Calls Tryd.prog 56 #[wdV 6 a b,.int .i64 (r:Nat)] w fun e w'=>e=.returned (.bool (fitE 6 a r))/\Below w.heap.size w w':=by
 go_enter Tryd.func56,Tryd.ntmps56;go_wp2;go_ret;exact⟨ret_bool (by simp[fitE]<;>omega),bG _ _⟩
theorem opens_6 (a b:Nat)(w:World):Calls Tryd.prog 61 #[wdV 6 a b] w fun e w'=>e=.returned (.int .i64 (0))/\Below w.heap.size w w':=by
 go_enter Tryd.func61,Tryd.ntmps61;go_wp2;go_ret;exact⟨rfl,bG _ _⟩
theorem leads_6 (a b:Nat)(w:World):Calls Tryd.prog 42 #[wdV 6 a b] w fun e w'=>e=.returned (.tuple #[.int .i64 ((ledTo 6 a b).getD 0:Nat),.bool (ledTo 6 a b).isSome])/\Below w.heap.size w w':=by
 go_enter Tryd.func42,Tryd.ntmps42;go_wp2;go_ret2;exact⟨rfl,bG _ _⟩
theorem fits_7 (a b r:Nat)(w:World):Calls Tryd.prog 56 #[wdV 7 a b,.int .i64 (r:Nat)] w fun e w'=>e=.returned (.bool (fitE 7 a r))/\Below w.heap.size w w':=by
 go_enter Tryd.func56,Tryd.ntmps56;go_wp2;go_ret;exact⟨ret_bool (by simp[fitE]<;>omega),bG _ _⟩
theorem opens_7 (a b:Nat)(w:World):Calls Tryd.prog 61 #[wdV 7 a b] w fun e w'=>e=.returned (.int .i64 (0))/\Below w.heap.size w w':=by
 go_enter Tryd.func61,Tryd.ntmps61;go_wp2;go_ret;exact⟨rfl,bG _ _⟩
theorem leads_7 (a b:Nat)(w:World):Calls Tryd.prog 42 #[wdV 7 a b] w fun e w'=>e=.returned (.tuple #[.int .i64 ((ledTo 7 a b).getD 0:Nat),.bool (ledTo 7 a b).isSome])/\Below w.heap.size w w':=by
 go_enter Tryd.func42,Tryd.ntmps42;go_wp2;go_ret2;exact⟨rfl,bG _ _⟩
theorem fits_8 (a b r:Nat)(w:World):Calls Tryd.prog 56 #[wdV 8 a b,.int .i64 (r:Nat)] w fun e w'=>e=.returned (.bool (fitE 8 a r))/\Below w.heap.size w w':=by
 go_enter Tryd.func56,Tryd.ntmps56;go_wp2;go_ret;exact⟨ret_bool (by simp[fitE]<;>omega),bG _ _⟩
theorem opens_8 (a b:Nat)(w:World):Calls Tryd.prog 61 #[wdV 8 a b] w fun e w'=>e=.returned (.int .i64 (0))/\Below w.heap.size w w':=by
 go_enter Tryd.func61,Tryd.ntmps61;go_wp2;go_ret;exact⟨rfl,bG _ _⟩
theorem leads_8 (a b:Nat)(w:World):Calls Tryd.prog 42 #[wdV 8 a b] w fun e w'=>e=.returned (.tuple #[.int .i64 ((ledTo 8 a b).getD 0:Nat),.bool (ledTo 8 a b).isSome])/\Below w.heap.size w w':=by
 go_enter Tryd.func42,Tryd.ntmps42;go_wp2;go_ret2;exact⟨rfl,bG _ _⟩
theorem fits_9 (a b r:Nat)(w:World):Calls Tryd.prog 56 #[wdV 9 a b,.int .i64 (r:Nat)] w fun e w'=>e=.returned (.bool (fitE 9 a r))/\Below w.heap.size w w':=by
 go_enter Tryd.func56,Tryd.ntmps56;go_wp2;go_ret;exact⟨ret_bool (by simp[fitE]<;>omega),bG _ _⟩
theorem opens_9 (a b:Nat)(w:World):Calls Tryd.prog 61 #[wdV 9 a b] w fun e w'=>e=.returned (.int .i64 (0))/\Below w.heap.size w w':=by
 go_enter Tryd.func61,Tryd.ntmps61;go_wp2;go_ret;exact⟨rfl,bG _ _⟩
theorem leads_9 (a b:Nat)(w:World):Calls Tryd.prog 42 #[wdV 9 a b] w fun e w'=>e=.returned (.tuple #[.int .i64 ((ledTo 9 a b).getD 0:Nat),.bool (ledTo 9 a b).isSome])/\Below w.heap.size w w':=by
 go_enter Tryd.func42,Tryd.ntmps42;go_wp2;go_ret2;exact⟨rfl,bG _ _⟩
theorem fits_10 (a b r:Nat)(w:World):Calls Tryd.prog 56 #[wdV 10 a b,.int .i64 (r:Nat)] w fun e w'=>e=.returned (.bool (fitE 10 a r))/\Below w.heap.size w w':=by
 go_enter Tryd.func56,Tryd.ntmps56;go_wp2;go_ret;exact⟨ret_bool (by simp[fitE]<;>omega),bG _ _⟩
theorem opens_10 (a b:Nat)(w:World):Calls Tryd.prog 61 #[wdV 10 a b] w fun e w'=>e=.returned (.int .i64 (0))/\Below w.heap.size w w':=by
 go_enter Tryd.func61,Tryd.ntmps61;go_wp2;go_ret;exact⟨rfl,bG _ _⟩
theorem leads_10 (a b:Nat)(w:World):Calls Tryd.prog 42 #[wdV 10 a b] w fun e w'=>e=.returned (.tuple #[.int .i64 ((ledTo 10 a b).getD 0:Nat),.bool (ledTo 10 a b).isSome])/\Below w.heap.size w w':=by
 go_enter Tryd.func42,Tryd.ntmps42;go_wp2;go_ret2;exact⟨rfl,bG _ _⟩
theorem fits_11 (a b r:Nat)(w:World):Calls Tryd.prog 56 #[wdV 11 a b,.int .i64 (r:Nat)] w fun e w'=>e=.returned (.bool (fitE 11 a r))/\Below w.heap.size w w':=by
 go_enter Tryd.func56,Tryd.ntmps56;go_wp2;go_ret;exact⟨ret_bool (by simp[fitE]<;>omega),bG _ _⟩
theorem opens_11 (a b:Nat)(w:World):Calls Tryd.prog 61 #[wdV 11 a b] w fun e w'=>e=.returned (.int .i64 (0))/\Below w.heap.size w w':=by
 go_enter Tryd.func61,Tryd.ntmps61;go_wp2;go_ret;exact⟨rfl,bG _ _⟩
theorem leads_11 (a b:Nat)(w:World):Calls Tryd.prog 42 #[wdV 11 a b] w fun e w'=>e=.returned (.tuple #[.int .i64 ((ledTo 11 a b).getD 0:Nat),.bool (ledTo 11 a b).isSome])/\Below w.heap.size w w':=by
 go_enter Tryd.func42,Tryd.ntmps42;go_wp2;go_ret2;exact⟨rfl,bG _ _⟩
theorem fits_12 (a b r:Nat)(w:World):Calls Tryd.prog 56 #[wdV 12 a b,.int .i64 (r:Nat)] w fun e w'=>e=.returned (.bool (fitE 12 a r))/\Below w.heap.size w w':=by
 go_enter Tryd.func56,Tryd.ntmps56;go_wp2;go_ret;exact⟨ret_bool (by simp[fitE]<;>omega),bG _ _⟩
theorem opens_12 (a b:Nat)(w:World):Calls Tryd.prog 61 #[wdV 12 a b] w fun e w'=>e=.returned (.int .i64 (0))/\Below w.heap.size w w':=by
 go_enter Tryd.func61,Tryd.ntmps61;go_wp2;go_ret;exact⟨rfl,bG _ _⟩
theorem leads_12 (a b:Nat)(w:World):Calls Tryd.prog 42 #[wdV 12 a b] w fun e w'=>e=.returned (.tuple #[.int .i64 ((ledTo 12 a b).getD 0:Nat),.bool (ledTo 12 a b).isSome])/\Below w.heap.size w w':=by
 go_enter Tryd.func42,Tryd.ntmps42;go_wp2;go_ret2;exact⟨rfl,bG _ _⟩
theorem fits_13 (a b r:Nat)(w:World):Calls Tryd.prog 56 #[wdV 13 a b,.int .i64 (r:Nat)] w fun e w'=>e=.returned (.bool (fitE 13 a r))/\Below w.heap.size w w':=by
 go_enter Tryd.func56,Tryd.ntmps56;go_wp2;go_ret;exact⟨ret_bool (by simp[fitE]<;>omega),bG _ _⟩
theorem opens_13 (a b:Nat)(w:World):Calls Tryd.prog 61 #[wdV 13 a b] w fun e w'=>e=.returned (.int .i64 (0))/\Below w.heap.size w w':=by
 go_enter Tryd.func61,Tryd.ntmps61;go_wp2;go_ret;exact⟨rfl,bG _ _⟩
theorem leads_13 (a b:Nat)(w:World):Calls Tryd.prog 42 #[wdV 13 a b] w fun e w'=>e=.returned (.tuple #[.int .i64 ((ledTo 13 a b).getD 0:Nat),.bool (ledTo 13 a b).isSome])/\Below w.heap.size w w':=by
 go_enter Tryd.func42,Tryd.ntmps42;go_wp2;go_ret2;exact⟨rfl,bG _ _⟩
theorem fits_14 (a b r:Nat)(w:World):Calls Tryd.prog 56 #[wdV 14 a b,.int .i64 (r:Nat)] w fun e w'=>e=.returned (.bool (fitE 14 a r))/\Below w.heap.size w w':=by
 go_enter Tryd.func56,Tryd.ntmps56;go_wp2;go_ret;exact⟨ret_bool (by simp[fitE]<;>omega),bG _ _⟩
theorem opens_14 (a b:Nat)(w:World):Calls Tryd.prog 61 #[wdV 14 a b] w fun e w'=>e=.returned (.int .i64 (0))/\Below w.heap.size w w':=by
 go_enter Tryd.func61,Tryd.ntmps61;go_wp2;go_ret;exact⟨rfl,bG _ _⟩
theorem leads_14 (a b:Nat)(w:World):Calls Tryd.prog 42 #[wdV 14 a b] w fun e w'=>e=.returned (.tuple #[.int .i64 ((ledTo 14 a b).getD 0:Nat),.bool (ledTo 14 a b).isSome])/\Below w.heap.size w w':=by
 go_enter Tryd.func42,Tryd.ntmps42;go_wp2;go_ret2;exact⟨rfl,bG _ _⟩
theorem fits_15 (a b r:Nat)(w:World):Calls Tryd.prog 56 #[wdV 15 a b,.int .i64 (r:Nat)] w fun e w'=>e=.returned (.bool (fitE 15 a r))/\Below w.heap.size w w':=by
 go_enter Tryd.func56,Tryd.ntmps56;go_wp2;go_ret;exact⟨ret_bool (by simp[fitE]<;>omega),bG _ _⟩
theorem opens_15 (a b:Nat)(w:World):Calls Tryd.prog 61 #[wdV 15 a b] w fun e w'=>e=.returned (.int .i64 (0))/\Below w.heap.size w w':=by
 go_enter Tryd.func61,Tryd.ntmps61;go_wp2;go_ret;exact⟨rfl,bG _ _⟩
theorem leads_15 (a b:Nat)(w:World):Calls Tryd.prog 42 #[wdV 15 a b] w fun e w'=>e=.returned (.tuple #[.int .i64 ((ledTo 15 a b).getD 0:Nat),.bool (ledTo 15 a b).isSome])/\Below w.heap.size w w':=by
 go_enter Tryd.func42,Tryd.ntmps42;go_wp2;go_ret2;exact⟨rfl,bG _ _⟩
theorem fits_16 (a b r:Nat)(w:World):Calls Tryd.prog 56 #[wdV 16 a b,.int .i64 (r:Nat)] w fun e w'=>e=.returned (.bool (fitE 16 a r))/\Below w.heap.size w w':=by
 go_enter Tryd.func56,Tryd.ntmps56;go_wp2;go_ret;exact⟨ret_bool (by simp[fitE]<;>omega),bG _ _⟩
theorem opens_16 (a b:Nat)(w:World):Calls Tryd.prog 61 #[wdV 16 a b] w fun e w'=>e=.returned (.int .i64 (0))/\Below w.heap.size w w':=by
 go_enter Tryd.func61,Tryd.ntmps61;go_wp2;go_ret;exact⟨rfl,bG _ _⟩
theorem leads_16 (a b:Nat)(w:World):Calls Tryd.prog 42 #[wdV 16 a b] w fun e w'=>e=.returned (.tuple #[.int .i64 ((ledTo 16 a b).getD 0:Nat),.bool (ledTo 16 a b).isSome])/\Below w.heap.size w w':=by
 go_enter Tryd.func42,Tryd.ntmps42;go_wp2;go_ret2;exact⟨rfl,bG _ _⟩
theorem fits_17 (a b r:Nat)(w:World):Calls Tryd.prog 56 #[wdV 17 a b,.int .i64 (r:Nat)] w fun e w'=>e=.returned (.bool (fitE 17 a r))/\Below w.heap.size w w':=by
 go_enter Tryd.func56,Tryd.ntmps56;go_wp2;go_ret;exact⟨ret_bool (by simp[fitE]<;>omega),bG _ _⟩
theorem opens_17 (a b:Nat)(w:World):Calls Tryd.prog 61 #[wdV 17 a b] w fun e w'=>e=.returned (.int .i64 (0))/\Below w.heap.size w w':=by
 go_enter Tryd.func61,Tryd.ntmps61;go_wp2;go_ret;exact⟨rfl,bG _ _⟩
theorem leads_17 (a b:Nat)(w:World):Calls Tryd.prog 42 #[wdV 17 a b] w fun e w'=>e=.returned (.tuple #[.int .i64 ((ledTo 17 a b).getD 0:Nat),.bool (ledTo 17 a b).isSome])/\Below w.heap.size w w':=by
 go_enter Tryd.func42,Tryd.ntmps42;go_wp2;go_ret2;exact⟨rfl,bG _ _⟩
theorem fits_18 (a b r:Nat)(w:World):Calls Tryd.prog 56 #[wdV 18 a b,.int .i64 (r:Nat)] w fun e w'=>e=.returned (.bool (fitE 18 a r))/\Below w.heap.size w w':=by
 go_enter Tryd.func56,Tryd.ntmps56;go_wp2;go_ret;exact⟨ret_bool (by simp[fitE]<;>omega),bG _ _⟩
theorem opens_18 (a b:Nat)(w:World):Calls Tryd.prog 61 #[wdV 18 a b] w fun e w'=>e=.returned (.int .i64 (0))/\Below w.heap.size w w':=by
 go_enter Tryd.func61,Tryd.ntmps61;go_wp2;go_ret;exact⟨rfl,bG _ _⟩
theorem leads_18 (a b:Nat)(w:World):Calls Tryd.prog 42 #[wdV 18 a b] w fun e w'=>e=.returned (.tuple #[.int .i64 ((ledTo 18 a b).getD 0:Nat),.bool (ledTo 18 a b).isSome])/\Below w.heap.size w w':=by
 go_enter Tryd.func42,Tryd.ntmps42;go_wp2;go_ret2;exact⟨rfl,bG _ _⟩
theorem fits_19 (a b r:Nat)(w:World):Calls Tryd.prog 56 #[wdV 19 a b,.int .i64 (r:Nat)] w fun e w'=>e=.returned (.bool (fitE 19 a r))/\Below w.heap.size w w':=by
 go_enter Tryd.func56,Tryd.ntmps56;go_wp2;go_ret;exact⟨ret_bool (by simp[fitE]<;>omega),bG _ _⟩
theorem opens_19 (a b:Nat)(w:World):Calls Tryd.prog 61 #[wdV 19 a b] w fun e w'=>e=.returned (.int .i64 (0))/\Below w.heap.size w w':=by
 go_enter Tryd.func61,Tryd.ntmps61;go_wp2;go_ret;exact⟨rfl,bG _ _⟩
theorem leads_19 (a b:Nat)(w:World):Calls Tryd.prog 42 #[wdV 19 a b] w fun e w'=>e=.returned (.tuple #[.int .i64 ((ledTo 19 a b).getD 0:Nat),.bool (ledTo 19 a b).isSome])/\Below w.heap.size w w':=by
 go_enter Tryd.func42,Tryd.ntmps42;go_wp2;go_ret2;exact⟨rfl,bG _ _⟩
theorem fits_20 (a b r:Nat)(w:World):Calls Tryd.prog 56 #[wdV 20 a b,.int .i64 (r:Nat)] w fun e w'=>e=.returned (.bool (fitE 20 a r))/\Below w.heap.size w w':=by
 go_enter Tryd.func56,Tryd.ntmps56;go_wp2;go_ret;exact⟨ret_bool (by simp[fitE]<;>omega),bG _ _⟩
theorem opens_20 (a b:Nat)(w:World):Calls Tryd.prog 61 #[wdV 20 a b] w fun e w'=>e=.returned (.int .i64 (1))/\Below w.heap.size w w':=by
 go_enter Tryd.func61,Tryd.ntmps61;go_wp2;go_ret;exact⟨rfl,bG _ _⟩
theorem leads_20 (a b:Nat)(w:World):Calls Tryd.prog 42 #[wdV 20 a b] w fun e w'=>e=.returned (.tuple #[.int .i64 ((ledTo 20 a b).getD 0:Nat),.bool (ledTo 20 a b).isSome])/\Below w.heap.size w w':=by
 go_enter Tryd.func42,Tryd.ntmps42;go_wp2;go_ret2;exact⟨rfl,bG _ _⟩
theorem fits_21 (a b r:Nat)(w:World):Calls Tryd.prog 56 #[wdV 21 a b,.int .i64 (r:Nat)] w fun e w'=>e=.returned (.bool (fitE 21 a r))/\Below w.heap.size w w':=by
 go_enter Tryd.func56,Tryd.ntmps56;go_wp2;go_ret;exact⟨ret_bool (by simp[fitE]<;>omega),bG _ _⟩
theorem opens_21 (a b:Nat)(w:World):Calls Tryd.prog 61 #[wdV 21 a b] w fun e w'=>e=.returned (.int .i64 (1))/\Below w.heap.size w w':=by
 go_enter Tryd.func61,Tryd.ntmps61;go_wp2;go_ret;exact⟨rfl,bG _ _⟩
theorem leads_21 (a b:Nat)(w:World):Calls Tryd.prog 42 #[wdV 21 a b] w fun e w'=>e=.returned (.tuple #[.int .i64 ((ledTo 21 a b).getD 0:Nat),.bool (ledTo 21 a b).isSome])/\Below w.heap.size w w':=by
 go_enter Tryd.func42,Tryd.ntmps42;go_wp2;go_ret2;exact⟨rfl,bG _ _⟩
theorem fits_22 (a b r:Nat)(w:World):Calls Tryd.prog 56 #[wdV 22 a b,.int .i64 (r:Nat)] w fun e w'=>e=.returned (.bool (fitE 22 a r))/\Below w.heap.size w w':=by
 go_enter Tryd.func56,Tryd.ntmps56;go_wp2;go_ret;exact⟨ret_bool (by simp[fitE]<;>omega),bG _ _⟩
theorem opens_22 (a b:Nat)(w:World):Calls Tryd.prog 61 #[wdV 22 a b] w fun e w'=>e=.returned (.int .i64 (1))/\Below w.heap.size w w':=by
 go_enter Tryd.func61,Tryd.ntmps61;go_wp2;go_ret;exact⟨rfl,bG _ _⟩
theorem leads_22 (a b:Nat)(w:World):Calls Tryd.prog 42 #[wdV 22 a b] w fun e w'=>e=.returned (.tuple #[.int .i64 ((ledTo 22 a b).getD 0:Nat),.bool (ledTo 22 a b).isSome])/\Below w.heap.size w w':=by
 go_enter Tryd.func42,Tryd.ntmps42;go_wp2;go_ret2;exact⟨rfl,bG _ _⟩
theorem fits_23 (a b r:Nat)(w:World):Calls Tryd.prog 56 #[wdV 23 a b,.int .i64 (r:Nat)] w fun e w'=>e=.returned (.bool (fitE 23 a r))/\Below w.heap.size w w':=by
 go_enter Tryd.func56,Tryd.ntmps56;go_wp2;go_ret;exact⟨ret_bool (by simp[fitE]<;>omega),bG _ _⟩
theorem opens_23 (a b:Nat)(w:World):Calls Tryd.prog 61 #[wdV 23 a b] w fun e w'=>e=.returned (.int .i64 (1))/\Below w.heap.size w w':=by
 go_enter Tryd.func61,Tryd.ntmps61;go_wp2;go_ret;exact⟨rfl,bG _ _⟩
theorem leads_23 (a b:Nat)(w:World):Calls Tryd.prog 42 #[wdV 23 a b] w fun e w'=>e=.returned (.tuple #[.int .i64 ((ledTo 23 a b).getD 0:Nat),.bool (ledTo 23 a b).isSome])/\Below w.heap.size w w':=by
 go_enter Tryd.func42,Tryd.ntmps42;go_wp2;go_ret2;exact⟨rfl,bG _ _⟩
theorem fits_24 (a b r:Nat)(w:World):Calls Tryd.prog 56 #[wdV 24 a b,.int .i64 (r:Nat)] w fun e w'=>e=.returned (.bool (fitE 24 a r))/\Below w.heap.size w w':=by
 go_enter Tryd.func56,Tryd.ntmps56;go_wp2;go_ret;exact⟨ret_bool (by simp[fitE]<;>omega),bG _ _⟩
theorem opens_24 (a b:Nat)(w:World):Calls Tryd.prog 61 #[wdV 24 a b] w fun e w'=>e=.returned (.int .i64 (0))/\Below w.heap.size w w':=by
 go_enter Tryd.func61,Tryd.ntmps61;go_wp2;go_ret;exact⟨rfl,bG _ _⟩
theorem leads_24 (a b:Nat)(w:World):Calls Tryd.prog 42 #[wdV 24 a b] w fun e w'=>e=.returned (.tuple #[.int .i64 ((ledTo 24 a b).getD 0:Nat),.bool (ledTo 24 a b).isSome])/\Below w.heap.size w w':=by
 go_enter Tryd.func42,Tryd.ntmps42;go_wp2;go_ret2;exact⟨rfl,bG _ _⟩
theorem fits_25 (a b r:Nat)(w:World):Calls Tryd.prog 56 #[wdV 25 a b,.int .i64 (r:Nat)] w fun e w'=>e=.returned (.bool (fitE 25 a r))/\Below w.heap.size w w':=by
 go_enter Tryd.func56,Tryd.ntmps56;go_wp2;go_ret;exact⟨ret_bool (by simp[fitE]<;>omega),bG _ _⟩
theorem opens_25 (a b:Nat)(w:World):Calls Tryd.prog 61 #[wdV 25 a b] w fun e w'=>e=.returned (.int .i64 (-1))/\Below w.heap.size w w':=by
 go_enter Tryd.func61,Tryd.ntmps61;go_wp2;go_ret;exact⟨rfl,bG _ _⟩
theorem leads_25 (a b:Nat)(w:World):Calls Tryd.prog 42 #[wdV 25 a b] w fun e w'=>e=.returned (.tuple #[.int .i64 ((ledTo 25 a b).getD 0:Nat),.bool (ledTo 25 a b).isSome])/\Below w.heap.size w w':=by
 go_enter Tryd.func42,Tryd.ntmps42;go_wp2;go_ret2;exact⟨rfl,bG _ _⟩
theorem fits_26 (a b r:Nat)(w:World):Calls Tryd.prog 56 #[wdV 26 a b,.int .i64 (r:Nat)] w fun e w'=>e=.returned (.bool (fitE 26 a r))/\Below w.heap.size w w':=by
 go_enter Tryd.func56,Tryd.ntmps56;go_wp2;go_ret;exact⟨ret_bool (by simp[fitE]<;>omega),bG _ _⟩
theorem opens_26 (a b:Nat)(w:World):Calls Tryd.prog 61 #[wdV 26 a b] w fun e w'=>e=.returned (.int .i64 (0))/\Below w.heap.size w w':=by
 go_enter Tryd.func61,Tryd.ntmps61;go_wp2;go_ret;exact⟨rfl,bG _ _⟩
theorem leads_26 (a b:Nat)(w:World):Calls Tryd.prog 42 #[wdV 26 a b] w fun e w'=>e=.returned (.tuple #[.int .i64 ((ledTo 26 a b).getD 0:Nat),.bool (ledTo 26 a b).isSome])/\Below w.heap.size w w':=by
 go_enter Tryd.func42,Tryd.ntmps42;go_wp2;go_ret2;exact⟨rfl,bG _ _⟩
theorem fits_27 (a b r:Nat)(w:World):Calls Tryd.prog 56 #[wdV 27 a b,.int .i64 (r:Nat)] w fun e w'=>e=.returned (.bool (fitE 27 a r))/\Below w.heap.size w w':=by
 go_enter Tryd.func56,Tryd.ntmps56;go_wp2;go_ret;exact⟨ret_bool (by simp[fitE]<;>omega),bG _ _⟩
theorem opens_27 (a b:Nat)(w:World):Calls Tryd.prog 61 #[wdV 27 a b] w fun e w'=>e=.returned (.int .i64 (0))/\Below w.heap.size w w':=by
 go_enter Tryd.func61,Tryd.ntmps61;go_wp2;go_ret;exact⟨rfl,bG _ _⟩
theorem leads_27 (a b:Nat)(w:World):Calls Tryd.prog 42 #[wdV 27 a b] w fun e w'=>e=.returned (.tuple #[.int .i64 ((ledTo 27 a b).getD 0:Nat),.bool (ledTo 27 a b).isSome])/\Below w.heap.size w w':=by
 go_enter Tryd.func42,Tryd.ntmps42;go_wp2;go_ret2;exact⟨rfl,bG _ _⟩
theorem fits_c (o a b r:Nat)(ho:o<28)(w:World):Calls Tryd.prog 56 #[wdV o a b,.int .i64 (r:Nat)] w fun e w'=>e=.returned (.bool (fitE o a r))/\Below w.heap.size w w':=by
 match o,ho with
 | 0,_=>exact fits_0 a b r w
 | 1,_=>exact fits_1 a b r w
 | 2,_=>exact fits_2 a b r w
 | 3,_=>exact fits_3 a b r w
 | 4,_=>exact fits_4 a b r w
 | 5,_=>exact fits_5 a b r w
 | 6,_=>exact fits_6 a b r w
 | 7,_=>exact fits_7 a b r w
 | 8,_=>exact fits_8 a b r w
 | 9,_=>exact fits_9 a b r w
 | 10,_=>exact fits_10 a b r w
 | 11,_=>exact fits_11 a b r w
 | 12,_=>exact fits_12 a b r w
 | 13,_=>exact fits_13 a b r w
 | 14,_=>exact fits_14 a b r w
 | 15,_=>exact fits_15 a b r w
 | 16,_=>exact fits_16 a b r w
 | 17,_=>exact fits_17 a b r w
 | 18,_=>exact fits_18 a b r w
 | 19,_=>exact fits_19 a b r w
 | 20,_=>exact fits_20 a b r w
 | 21,_=>exact fits_21 a b r w
 | 22,_=>exact fits_22 a b r w
 | 23,_=>exact fits_23 a b r w
 | 24,_=>exact fits_24 a b r w
 | 25,_=>exact fits_25 a b r w
 | 26,_=>exact fits_26 a b r w
 | 27,_=>exact fits_27 a b r w
 | n+28,h=>omega
def opnI (o:Nat):Int:=if 20<=o/\o<=23 then 1 else if o=25 then -1 else 0
theorem opens_c (o a b:Nat)(ho:o<28)(w:World):Calls Tryd.prog 61 #[wdV o a b] w fun e w'=>e=.returned (.int .i64 (opnI o))/\Below w.heap.size w w':=by
 match o,ho with
 | 0,_=>exact opens_0 a b w
 | 1,_=>exact opens_1 a b w
 | 2,_=>exact opens_2 a b w
 | 3,_=>exact opens_3 a b w
 | 4,_=>exact opens_4 a b w
 | 5,_=>exact opens_5 a b w
 | 6,_=>exact opens_6 a b w
 | 7,_=>exact opens_7 a b w
 | 8,_=>exact opens_8 a b w
 | 9,_=>exact opens_9 a b w
 | 10,_=>exact opens_10 a b w
 | 11,_=>exact opens_11 a b w
 | 12,_=>exact opens_12 a b w
 | 13,_=>exact opens_13 a b w
 | 14,_=>exact opens_14 a b w
 | 15,_=>exact opens_15 a b w
 | 16,_=>exact opens_16 a b w
 | 17,_=>exact opens_17 a b w
 | 18,_=>exact opens_18 a b w
 | 19,_=>exact opens_19 a b w
 | 20,_=>exact opens_20 a b w
 | 21,_=>exact opens_21 a b w
 | 22,_=>exact opens_22 a b w
 | 23,_=>exact opens_23 a b w
 | 24,_=>exact opens_24 a b w
 | 25,_=>exact opens_25 a b w
 | 26,_=>exact opens_26 a b w
 | 27,_=>exact opens_27 a b w
 | n+28,h=>omega
theorem leads_c (o a b:Nat)(ho:o<28)(w:World):Calls Tryd.prog 42 #[wdV o a b] w fun e w'=>e=.returned (.tuple #[.int .i64 ((ledTo o a b).getD 0:Nat),.bool (ledTo o a b).isSome])/\Below w.heap.size w w':=by
 match o,ho with
 | 0,_=>exact leads_0 a b w
 | 1,_=>exact leads_1 a b w
 | 2,_=>exact leads_2 a b w
 | 3,_=>exact leads_3 a b w
 | 4,_=>exact leads_4 a b w
 | 5,_=>exact leads_5 a b w
 | 6,_=>exact leads_6 a b w
 | 7,_=>exact leads_7 a b w
 | 8,_=>exact leads_8 a b w
 | 9,_=>exact leads_9 a b w
 | 10,_=>exact leads_10 a b w
 | 11,_=>exact leads_11 a b w
 | 12,_=>exact leads_12 a b w
 | 13,_=>exact leads_13 a b w
 | 14,_=>exact leads_14 a b w
 | 15,_=>exact leads_15 a b w
 | 16,_=>exact leads_16 a b w
 | 17,_=>exact leads_17 a b w
 | 18,_=>exact leads_18 a b w
 | 19,_=>exact leads_19 a b w
 | 20,_=>exact leads_20 a b w
 | 21,_=>exact leads_21 a b w
 | 22,_=>exact leads_22 a b w
 | 23,_=>exact leads_23 a b w
 | 24,_=>exact leads_24 a b w
 | 25,_=>exact leads_25 a b w
 | 26,_=>exact leads_26 a b w
 | 27,_=>exact leads_27 a b w
 | n+28,h=>omega
theorem opn_int {o a r:Nat}(h:fitE o a r=true):((r:Nat):Int)+opnI o=((opnE o r:Nat):Int):=by
 unfold fitE at h;unfold opnI opnE;by_cases h1:20<=o/\o<=23
 ·rw[if_pos h1,if_pos h1];omega
 ·rw[if_neg h1,if_neg h1];by_cases h2:o=25
  ·subst h2;simp at h;rw[if_pos rfl,if_pos rfl];omega
  ·rw[if_neg h2,if_neg h2];omega
theorem partsOf_c (c:Cd)(k:Nat)(hk:k<c.ws.length)(ho:c.Ok)(w:World)(hT:Tab w):Calls Tryd.prog 38 #[.int .u64 (c.ws.getD k 0)] w fun e w'=>e=.returned (wdV (opN c k) (aN c k) (bN c k))/\Below w.heap.size w w':=by
 have hu:=ho.ws _ (List.getElem_mem hk);have e:c.ws.getD k 0=c.ws[k]:=by simp[List.getD_eq_getElem?_getD,List.getElem?_eq_getElem hk]
 have HP:=fun wx hx=>parts_any (c.ws.getD k 0) wx hx (by rw[e];exact hu.1) (by rw[e];exact hu.2);have h1:((opN c k:Nat):Int)=c.ws.getD k 0 / 72057594037927936:=by rw[opN,opW,e];omega
 have h2:((aN c k:Nat):Int)=c.ws.getD k 0 / 268435456 % 268435456:=by rw[aN,aW,e];omega
 have h3:((bN c k:Nat):Int)=c.ws.getD k 0 % 268435456:=by rw[bN,bW,e];omega
 rw[<-h1,<-h2,<-h3] at HP;clear h1 h2 h3 e hu;generalize opN c k=o at *;generalize aN c k=a at *;generalize bN c k=b at *;generalize c.ws.getD k 0=u at *;obtain⟨g,hg⟩:∃g,g=w.heap.size:=⟨_,rfl⟩
 obtain⟨w1,hw1⟩:∃w1,w1=w.alloc (.cells #[.int .i64 0,.int .i64 0,.int .i64 0] 81):=⟨_,rfl⟩
 have B1:Below w.heap.size w w1:=by rw[hw1];exact bG _ _
 have h1:w1.heap[g]?=some (.cells #[.int .i64 0,.int .i64 0,.int .i64 0] 81 (0,0)):=by rw[hw1,hg];exact h1G _ _
 have hl:g<w1.heap.size:=lt_of_block h1;have HG:=Lib.hid hg;have T1:=hT.below B1;clear hT hg;go_enter Tryd.func38,Tryd.ntmps38;go_wp2_with fail;rw[<-hw1,<-HG.out];clear hw1;refine(HP _ T1).mono ?_;rintro e w2 ⟨rfl,B2⟩;have h2:=(B2.block g hl).trans h1;have BB:=B1.trans (B2.mono B1.size);clear HP T1 h1 B1 B2;have c0:w2.cell? ⟨g,0,none⟩=some (.int .i64 0):=by rw[cell_of_row _ _ _ _ _ _ h2];rfl
 have c1:w2.cell? ⟨g,1,none⟩=some (.int .i64 0):=by rw[cell_of_row _ _ _ _ _ _ h2];rfl
 have c2:w2.cell? ⟨g,2,none⟩=some (.int .i64 0):=by rw[cell_of_row _ _ _ _ _ _ h2];rfl
 have f0:=frozen_of_row w2 g 0 _ _ h2;have f1:=frozen_of_row w2 g 1 _ _ h2;have f2:=frozen_of_row w2 g 2 _ _ h2;have BE:Below w.heap.size w (((w2.setCell ⟨g,0,none⟩ (.int .i64 (o:Nat))).setCell ⟨g,1,none⟩ (.int .i64 (a:Nat))).setCell ⟨g,2,none⟩ (.int .i64 (b:Nat))):=((BB.setCell (p:=⟨g,0,none⟩) (by show _<=g;rw[HG.out];exact Nat.le_refl _) _).setCell (p:=⟨g,1,none⟩) (by show _<=g;rw[HG.out];exact Nat.le_refl _) _).setCell (p:=⟨g,2,none⟩) (by show _<=g;rw[HG.out];exact Nat.le_refl _) _;have hE:(((w2.setCell ⟨g,0,none⟩ (.int .i64 (o:Nat))).setCell ⟨g,1,none⟩ (.int .i64 (a:Nat))).setCell ⟨g,2,none⟩ (.int .i64 (b:Nat))).heap[g]?=some (.cells #[.int .i64 (o:Nat),.int .i64 (a:Nat),.int .i64 (b:Nat)] 81 (0,0)) :=
  heap_setCell_same _ _ 2 _ _ _ (heap_setCell_same _ _ 1 _ _ _ (heap_setCell_same _ _ 0 _ _ _ h2))
 have u0:(((w2.setCell ⟨g,0,none⟩ (.int .i64 (o:Nat))).setCell ⟨g,1,none⟩ (.int .i64 (a:Nat))).setCell ⟨g,2,none⟩ (.int .i64 (b:Nat))).cell? ⟨g,0,none⟩=some (.int .i64 (o:Nat)):=by rw[cell_of_row _ _ _ _ _ _ hE];rfl
 have u1:(((w2.setCell ⟨g,0,none⟩ (.int .i64 (o:Nat))).setCell ⟨g,1,none⟩ (.int .i64 (a:Nat))).setCell ⟨g,2,none⟩ (.int .i64 (b:Nat))).cell? ⟨g,1,none⟩=some (.int .i64 (a:Nat)):=by rw[cell_of_row _ _ _ _ _ _ hE];rfl
 have u2:(((w2.setCell ⟨g,0,none⟩ (.int .i64 (o:Nat))).setCell ⟨g,1,none⟩ (.int .i64 (a:Nat))).setCell ⟨g,2,none⟩ (.int .i64 (b:Nat))).cell? ⟨g,2,none⟩=some (.int .i64 (b:Nat)):=by rw[cell_of_row _ _ _ _ _ _ hE];rfl
 have HBE:=Lib.hid BE;clear BE hE h2 BB;go_wp2;exact bodyPost_ret (v:=wdV o a b) (by simp[results,Tryd.results38,go_sem,u0,u1,u2]) rfl ⟨rfl,HBE.out⟩
end Go.Proofs.YtpdfdhkdfkhfkaaDoor

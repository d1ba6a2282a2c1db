import Derived.Test.YtpdfdhkdfkhfkaaDoorCodT
set_option maxRecDepth 100000
set_option maxHeartbeats 8000000
namespace Go.Proofs.YtpdfdhkdfkhfkaaDoor
open Go.ChangeShapes Go.WideShapes Go.ChangeAt Go.RowKit
set_option linter.unusedVariables false
theorem span_0 (p:Pl)(c:Cd)(w:World)(hl:c.cs.length<=9223372036854775807)(hn:c.ns.length<=9223372036854775807)(hk:c.ks.length<=9223372036854775807) :
  Calls Tryd.prog 65 #[.int .i64 0,cdV p c] w fun e w'=>e=.returned (.tuple #[.int .i64 (spn c 0).1,.int .i64 (spn c 0).2])/\Below w.heap.size w w':=by
 go_enter Tryd.func65,Tryd.ntmps65;go_wp2;go_ret2;exact⟨rfl,b1 _ _⟩
theorem span_1 (p:Pl)(c:Cd)(w:World)(hl:c.cs.length<=9223372036854775807)(hn:c.ns.length<=9223372036854775807)(hk:c.ks.length<=9223372036854775807) :
  Calls Tryd.prog 65 #[.int .i64 1,cdV p c] w fun e w'=>e=.returned (.tuple #[.int .i64 (spn c 1).1,.int .i64 (spn c 1).2])/\Below w.heap.size w w':=by
 go_enter Tryd.func65,Tryd.ntmps65;go_wp2;go_ret2;exact⟨rfl,b1 _ _⟩
theorem span_2 (p:Pl)(c:Cd)(w:World)(hl:c.cs.length<=9223372036854775807)(hn:c.ns.length<=9223372036854775807)(hk:c.ks.length<=9223372036854775807) :
  Calls Tryd.prog 65 #[.int .i64 2,cdV p c] w fun e w'=>e=.returned (.tuple #[.int .i64 (spn c 2).1,.int .i64 (spn c 2).2])/\Below w.heap.size w w':=by
 go_enter Tryd.func65,Tryd.ntmps65;go_wp2;go_ret2;exact⟨rfl,b1 _ _⟩
theorem span_3 (p:Pl)(c:Cd)(w:World)(hl:c.cs.length<=9223372036854775807)(hn:c.ns.length<=9223372036854775807)(hk:c.ks.length<=9223372036854775807) :
  Calls Tryd.prog 65 #[.int .i64 3,cdV p c] w fun e w'=>e=.returned (.tuple #[.int .i64 (spn c 3).1,.int .i64 (spn c 3).2])/\Below w.heap.size w w':=by
 go_enter Tryd.func65,Tryd.ntmps65;go_wp2;go_ret2;exact⟨rfl,b1 _ _⟩
theorem span_4 (p:Pl)(c:Cd)(w:World)(hl:c.cs.length<=9223372036854775807)(hn:c.ns.length<=9223372036854775807)(hk:c.ks.length<=9223372036854775807) :
  Calls Tryd.prog 65 #[.int .i64 4,cdV p c] w fun e w'=>e=.returned (.tuple #[.int .i64 (spn c 4).1,.int .i64 (spn c 4).2])/\Below w.heap.size w w':=by
 go_enter Tryd.func65,Tryd.ntmps65;go_wp2;go_ret2;exact⟨rfl,b1 _ _⟩
theorem span_5 (p:Pl)(c:Cd)(w:World)(hl:c.cs.length<=9223372036854775807)(hn:c.ns.length<=9223372036854775807)(hk:c.ks.length<=9223372036854775807) :
  Calls Tryd.prog 65 #[.int .i64 5,cdV p c] w fun e w'=>e=.returned (.tuple #[.int .i64 (spn c 5).1,.int .i64 (spn c 5).2])/\Below w.heap.size w w':=by
 go_enter Tryd.func65,Tryd.ntmps65;go_wp2;go_ret2;exact⟨rfl,b1 _ _⟩
theorem span_6 (p:Pl)(c:Cd)(w:World)(hl:c.cs.length<=9223372036854775807)(hn:c.ns.length<=9223372036854775807)(hk:c.ks.length<=9223372036854775807) :
  Calls Tryd.prog 65 #[.int .i64 6,cdV p c] w fun e w'=>e=.returned (.tuple #[.int .i64 (spn c 6).1,.int .i64 (spn c 6).2])/\Below w.heap.size w w':=by
 go_enter Tryd.func65,Tryd.ntmps65;go_wp2;go_ret2;exact⟨rfl,b1 _ _⟩
theorem span_7 (p:Pl)(c:Cd)(w:World)(hl:c.cs.length<=9223372036854775807)(hn:c.ns.length<=9223372036854775807)(hk:c.ks.length<=9223372036854775807) :
  Calls Tryd.prog 65 #[.int .i64 7,cdV p c] w fun e w'=>e=.returned (.tuple #[.int .i64 (spn c 7).1,.int .i64 (spn c 7).2])/\Below w.heap.size w w':=by
 go_enter Tryd.func65,Tryd.ntmps65;go_wp2;go_ret2;exact⟨rfl,b1 _ _⟩
theorem span_8 (p:Pl)(c:Cd)(w:World)(hl:c.cs.length<=9223372036854775807)(hn:c.ns.length<=9223372036854775807)(hk:c.ks.length<=9223372036854775807) :
  Calls Tryd.prog 65 #[.int .i64 8,cdV p c] w fun e w'=>e=.returned (.tuple #[.int .i64 (spn c 8).1,.int .i64 (spn c 8).2])/\Below w.heap.size w w':=by
 go_enter Tryd.func65,Tryd.ntmps65;go_wp2
 go_quiet (fail)
 go_wp2;go_ret2;refine⟨?_,(b1 _ _).trans ((below_drewN _ _).mono (by simp))⟩;simp[spn]
theorem span_9 (p:Pl)(c:Cd)(w:World)(hl:c.cs.length<=9223372036854775807)(hn:c.ns.length<=9223372036854775807)(hk:c.ks.length<=9223372036854775807) :
  Calls Tryd.prog 65 #[.int .i64 9,cdV p c] w fun e w'=>e=.returned (.tuple #[.int .i64 (spn c 9).1,.int .i64 (spn c 9).2])/\Below w.heap.size w w':=by
 go_enter Tryd.func65,Tryd.ntmps65;go_wp2
 go_quiet (fail)
 go_wp2;go_ret2;refine⟨?_,(b1 _ _).trans ((below_drewN _ _).mono (by simp))⟩;simp[spn]
theorem span_10 (p:Pl)(c:Cd)(w:World)(hl:c.cs.length<=9223372036854775807)(hn:c.ns.length<=9223372036854775807)(hk:c.ks.length<=9223372036854775807) :
  Calls Tryd.prog 65 #[.int .i64 10,cdV p c] w fun e w'=>e=.returned (.tuple #[.int .i64 (spn c 10).1,.int .i64 (spn c 10).2])/\Below w.heap.size w w':=by
 go_enter Tryd.func65,Tryd.ntmps65;go_wp2
 go_quiet (fail)
 go_wp2;go_ret2;refine⟨?_,(b1 _ _).trans ((below_drewN _ _).mono (by simp))⟩;simp[spn]
theorem span_c (t:Nat)(ht:t<=10)(p:Pl)(c:Cd)(w:World)(hl:c.cs.length<=9223372036854775807)(hn:c.ns.length<=9223372036854775807)(hk:c.ks.length<=9223372036854775807) :
  Calls Tryd.prog 65 #[.int .i64 (t:Nat),cdV p c] w fun e w'=>e=.returned (.tuple #[.int .i64 (spn c t).1,.int .i64 (spn c t).2])/\Below w.heap.size w w':=by
 match t,ht with
 | 0,_=>exact span_0 p c w hl hn hk
 | 1,_=>exact span_1 p c w hl hn hk
 | 2,_=>exact span_2 p c w hl hn hk
 | 3,_=>exact span_3 p c w hl hn hk
 | 4,_=>exact span_4 p c w hl hn hk
 | 5,_=>exact span_5 p c w hl hn hk
 | 6,_=>exact span_6 p c w hl hn hk
 | 7,_=>exact span_7 p c w hl hn hk
 | 8,_=>exact span_8 p c w hl hn hk
 | 9,_=>exact span_9 p c w hl hn hk
 | 10,_=>exact span_10 p c w hl hn hk
 | n+11,h=>omega
theorem may_c (t:Nat)(ht:t<=10)(n:Int)(p:Pl)(c:Cd)(w:World)(hl:c.cs.length<=9223372036854775807)(hn:c.ns.length<=9223372036854775807)(hk:c.ks.length<=9223372036854775807) :
  Calls Tryd.prog 51 #[.int .i64 (t:Nat),.int .i64 n,cdV p c] w fun e w'=>e=.returned (.bool (mayB c t n))/\Below w.heap.size w w':=by
 have hm:mayB c t n=(decide ((spn c t).1<=n)&&decide (n<=(spn c t).2)):=rfl;have HS:=fun w=>span_c t ht p c w hl hn hk;rw[hm];generalize (spn c t).1=lo at *;generalize (spn c t).2=hi at *;clear hm;by_cases h1:lo<=n
 ·go_enter Tryd.func51,Tryd.ntmps51;go_wp2_with (go_at_call 65;refine(HS _).mono ?_;rintro e w1 ⟨rfl,hb⟩);go_ret;exact⟨by simp[h1],bd1 hb⟩
 ·go_enter Tryd.func51,Tryd.ntmps51;go_wp2_with (go_at_call 65;refine(HS _).mono ?_;rintro e w1 ⟨rfl,hb⟩);go_ret;exact⟨by simp;intro;omega,bd1 hb⟩
end Go.Proofs.YtpdfdhkdfkhfkaaDoor

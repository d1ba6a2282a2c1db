import Derived.Test.YtpdfdhkdfkhfkaaDoorNamN
import Derived.Lib.Hide
import Derived.Lib.LaidTab
set_option maxRecDepth 100000
set_option maxHeartbeats 8000000
namespace Go.Proofs.YtpdfdhkdfkhfkaaDoor
open Go.ChangeShapes Go.WideShapes Go.ChangeAt Go.RowKit
set_option linter.unusedVariables false
theorem gTab : Tryd.prog.globalNamed "isthmus/pack.fields" = some 3 := by kernel_rfl
theorem gTabType:(Tryd.prog.globals[3]?).map (·.type)=some 117:=by kernel_rfl
theorem cellsTab:Tryd.prog.cellsOf 117=6:=by kernel_rfl
theorem cellsField:Tryd.prog.cellsOf 116=2:=by kernel_rfl
theorem cellsUint:Tryd.prog.cellsOf 95=1:=by kernel_rfl
theorem cellsUint64:Tryd.prog.cellsOf 53=1:=by kernel_rfl
def Tab (w:World):Prop :=
 w.cell? ⟨3,0,none⟩=some (.int .u64 56)/\w.cell? ⟨3,1,none⟩=some (.int .u64 255)/\w.cell? ⟨3,2,none⟩=some (.int .u64 28) /\
 w.cell? ⟨3,3,none⟩=some (.int .u64 268435455)/\w.cell? ⟨3,4,none⟩=some (.int .u64 0)/\w.cell? ⟨3,5,none⟩=some (.int .u64 268435455)/\3<w.heap.size
theorem Tab.below {w w':World}(h:Tab w)(hb:Below w.heap.size w w'):Tab w':=by
 obtain⟨h0,h1,h2,h3,h4,h5,hs⟩:=h;refine⟨?_,?_,?_,?_,?_,?_,Nat.lt_of_lt_of_le hs hb.size⟩
 ·exact(hb.cell (p:=⟨3,0,none⟩) hs).trans h0
 ·exact(hb.cell (p:=⟨3,1,none⟩) hs).trans h1
 ·exact(hb.cell (p:=⟨3,2,none⟩) hs).trans h2
 ·exact(hb.cell (p:=⟨3,3,none⟩) hs).trans h3
 ·exact(hb.cell (p:=⟨3,4,none⟩) hs).trans h4
 ·exact(hb.cell (p:=⟨3,5,none⟩) hs).trans h5
theorem below_drewN (w:World)(n:Nat):Below w.heap.size w (w.drewN n):=by
 have key:∀ (n:Nat) (v:World),Below w.heap.size w v->Below w.heap.size w (v.drewN n):=by
  intro n
  induction n with
  | zero=>intro v h;exact h
  | succ n ih=>intro v h;exact(ih v h).drew
 exact key n w (Below.refl _ _)
theorem bjoin {a b c:World}(h:Below a.heap.size a b)(k:Below b.heap.size b c):Below a.heap.size a c:=h.trans (k.mono h.size)
theorem bd_i64 {a:Int}(h:(Lit.int .i64 a).wf=true):-9223372036854775808<=a/\a<=9223372036854775807:=by
 simpa [Lit.wf,IntKind.min,IntKind.max,IntKind.signed,IntKind.bits] using h
theorem part0 (u:Int)(w:World)(hT:Tab w)(h1:0<=u)(h2:u<18446744073709551616) :
  Calls Tryd.prog 66 #[.int .i64 0,.int .u64 u] w fun e w'=>e=.returned (.int .i64 (u / 72057594037927936))/\Below w.heap.size w w':=by
 have hc:=hT.1;have hd:=hT.2.1;go_enter Tryd.func66,Tryd.ntmps66;go_wp2
 go_quiet (fail)
 go_wp2;go_ret;exact⟨ret_int (part0_eq u h1 h2),below_drewN _ _⟩
theorem part1 (u:Int)(w:World)(hT:Tab w)(h1:0<=u)(h2:u<18446744073709551616) :
  Calls Tryd.prog 66 #[.int .i64 1,.int .u64 u] w fun e w'=>e=.returned (.int .i64 (u / 268435456 % 268435456))/\Below w.heap.size w w':=by
 have hc:=hT.2.2.1;have hd:=hT.2.2.2.1;go_enter Tryd.func66,Tryd.ntmps66;go_wp2
 go_quiet (fail)
 go_wp2;go_ret;exact⟨ret_int (part1_eq u h1 h2),below_drewN _ _⟩
theorem part2 (u:Int)(w:World)(hT:Tab w)(h1:0<=u)(h2:u<18446744073709551616) :
  Calls Tryd.prog 66 #[.int .i64 2,.int .u64 u] w fun e w'=>e=.returned (.int .i64 (u % 268435456))/\Below w.heap.size w w':=by
 have hc:=hT.2.2.2.2.1;have hd:=hT.2.2.2.2.2.1;go_enter Tryd.func66,Tryd.ntmps66;go_wp2
 go_quiet (fail)
 go_wp2;go_ret;exact⟨ret_int (by simpa using part2_eq u h1 h2),below_drewN _ _⟩
theorem parts_any (u:Int)(w:World)(hT:Tab w)(h1:0<=u)(h2:u<18446744073709551616) :
  Calls Tryd.prog 54 #[.int .u64 u] w fun e w' =>
   e=.returned (.tuple #[.int .i64 (u / 72057594037927936),.int .i64 (u / 268435456 % 268435456),.int .i64 (u % 268435456)])/\Below w.heap.size w w':=by
 go_enter Tryd.func54,Tryd.ntmps54;go_wp2_with fail;refine(part0 u w hT h1 h2).mono ?_;rintro e w1 ⟨rfl,hb1⟩;have hT1:=hT.below hb1;go_wp2_with fail;refine(part1 u w1 hT1 h1 h2).mono ?_;rintro e w2 ⟨rfl,hb2⟩;have hT2:=hT1.below hb2;go_wp2_with fail;refine(part2 u w2 hT2 h1 h2).mono ?_;rintro e w3 ⟨rfl,hb3⟩;go_wp2;go_ret3;exact⟨rfl,bjoin (bjoin hb1 hb2) hb3⟩
theorem field_cells {W:World}{m:Nat}{l:List Value}{a b:Int}{p:List MemPlace}
  (h:DataW.trod (fun _=>()) Tryd.prog W 0 (fun _=>true) false m 116 l=some (.agg [.lit (.int .u64 a),.lit (.int .u64 b)],p)):l=[.int .u64 a,.int .u64 b]:=by
 obtain⟨y0,y1,n,hx,hl,h0,h1⟩:=trod_struct2 Tryd.underlying116 h;simp only[Prod.mk.injEq,DataW.agg.injEq,List.cons.injEq,and_true] at hx;obtain⟨⟨e0,e1⟩,_⟩:=hx;obtain⟨z0,c0,r0,_⟩:=DataW.trod_int Tryd.underlying95 h0;obtain⟨z1,c1,r1,_⟩:=DataW.trod_int Tryd.underlying53 h1;subst r0 r1;simp only[DataW.lit.injEq,Lit.int.injEq,true_and] at e0 e1;subst e0 e1;rw[cellsField] at hl;simp only[cellsUint,cellsUint64] at c0 c1
 match l,hl with
 | [v0,v1],_ =>
  simp at c0 c1;rw[c0,c1]
def Lsv (w:World)(ao:Option Addr)(xs:List Value):Prop :=
 xs=[]\/∃b off,ao=some ⟨b,off,none⟩/\b<w.heap.size/\∀ j x,xs[j]?=some x->w.cell? ⟨b,off+j,none⟩=some x
theorem Lsv.below {w w':World}{ao:Option Addr}{xs:List Value}(h:Lsv w ao xs)(B:Below w.heap.size w w'):Lsv w' ao xs:=by
 rcases h with h|⟨b,off,rfl,hlt,hc⟩
 ·exact .inl h
 ·exact .inr ⟨b,off,rfl,Nat.lt_of_lt_of_le hlt B.size,fun j x hx=>(B.cell (p:=⟨b,off+j,none⟩) hlt).trans (hc j x hx)⟩
theorem Lsv.at {w:World}{ao:Option Addr}{xs:List Value}(h:Lsv w ao xs){j:Nat}{x:Value}(hx:xs[j]?=some x):∃b off,ao=some ⟨b,off,none⟩/\b<w.heap.size/\w.cell? ⟨b,off+j,none⟩=some x:=by
 rcases h with rfl|⟨b,off,rfl,hlt,hc⟩
 ·simp at hx
 ·exact⟨b,off,rfl,hlt,hc j x hx⟩
def wsV (l:List Int):List Value:=l.map (.int .u64 ·)
def isV (l:List Int):List Value:=l.map (.int .i64 ·)
def nsV (l:List ByteArray):List Value:=l.map (.string ·)
structure Pl where
 aw:Option Addr
 cw:Nat
 ac:Option Addr
 cc:Nat
 an:Option Addr
 cn:Nat
 ak:Option Addr
 ck:Nat
abbrev cdA (p:Pl)(c:Cd):Array Value:=#[.slice p.aw c.ws.length p.cw,.slice p.ac c.cs.length p.cc,.slice p.an c.ns.length p.cn,.slice p.ak c.ks.length p.ck]
abbrev cdV (p:Pl)(c:Cd):Value:=.agg (cdA p c)
structure CdW (w:World)(p:Pl)(c:Cd):Prop where
 ok:c.Ok
 ws:Lsv w p.aw (wsV c.ws)
 cs:Lsv w p.ac (isV c.cs)
 ns:Lsv w p.an (nsV c.ns)
 ks:Lsv w p.ak (isV c.ks)
 lw:c.ws.length<=9223372036854775807
 lc:c.cs.length<=9223372036854775807
 ln:c.ns.length<=9223372036854775807
 lk:c.ks.length<=9223372036854775807
theorem CdW.below {w w':World}{p:Pl}{c:Cd}(h:CdW w p c)(B:Below w.heap.size w w'):CdW w' p c :=
 ⟨h.ok,h.ws.below B,h.cs.below B,h.ns.below B,h.ks.below B,h.lw,h.lc,h.ln,h.lk⟩
theorem bd1 {w w':World}{o:Obj}(h:Below (w.alloc o).heap.size (w.alloc o) w'):Below w.heap.size w w':=(b1 w o).trans (h.mono (by simp))
theorem box4 (w:World)(a b c d:Value)(t:TypeId):(w.alloc (.cells #[a,b,c,d] t)).heap[w.heap.size]?=some (.cells #[a,b,c,d] t (0,0)):=heap_alloc_new _ _
theorem box4_cells {w:World}{g:Nat}{a b c d:Value}{t:TypeId}(h:w.heap[g]?=some (.cells #[a,b,c,d] t (0,0))):w.cell? ⟨g,0,none⟩=some a/\w.cell? ⟨g,1,none⟩=some b/\w.cell? ⟨g,2,none⟩=some c/\w.cell? ⟨g,3,none⟩=some d:=by
 refine⟨?_,?_,?_,?_⟩<;>simp[World.cell?,h]
theorem span_0 (p:Pl)(c:Cd)(w:World)(hl:c.cs.length<=9223372036854775807)(hn:c.ns.length<=9223372036854775807)(hk:c.ks.length<=9223372036854775807) :
  Calls Tryd.prog 65 #[.int .i64 0,cdV p c] w fun e w'=>e=.returned (.tuple #[.int .i64 (spn c 0).1,.int .i64 (spn c 0).2])/\Below w.heap.size w w':=by
 go_enter Tryd.func65,Tryd.ntmps65;go_wp2;go_ret2;exact⟨rfl,b1 _ _⟩
theorem span_1 (p:Pl)(c:Cd)(w:World)(hl:c.cs.length<=9223372036854775807)(hn:c.ns.length<=9223372036854775807)(hk:c.ks.length<=9223372036854775807) :
  Calls Tryd.prog 65 #[.int .i64 1,cdV p c] w fun e w'=>e=.returned (.tuple #[.int .i64 (spn c 1).1,.int .i64 (spn c 1).2])/\Below w.heap.size w w':=by
 go_enter Tryd.func65,Tryd.ntmps65;go_wp2;go_ret2;exact⟨rfl,b1 _ _⟩
theorem span_2 (p:Pl)(c:Cd)(w:World)(hl:c.cs.length<=9223372036854775807)(hn:c.ns.length<=9223372036854775807)(hk:c.ks.length<=9223372036854775807) :
  Calls Tryd.prog 65 #[.int .i64 2,cdV p c] w fun e w'=>e=.returned (.tuple #[.int .i64 (spn c 2).1,.int .i64 (spn c 2).2])/\Below w.heap.size w w':=by
 go_enter Tryd.func65,Tryd.ntmps65;go_wp2;go_ret2;exact⟨rfl,b1 _ _⟩
theorem span_3 (p:Pl)(c:Cd)(w:World)(hl:c.cs.length<=9223372036854775807)(hn:c.ns.length<=9223372036854775807)(hk:c.ks.length<=9223372036854775807) :
  Calls Tryd.prog 65 #[.int .i64 3,cdV p c] w fun e w'=>e=.returned (.tuple #[.int .i64 (spn c 3).1,.int .i64 (spn c 3).2])/\Below w.heap.size w w':=by
 go_enter Tryd.func65,Tryd.ntmps65;go_wp2;go_ret2;exact⟨rfl,b1 _ _⟩
theorem span_4 (p:Pl)(c:Cd)(w:World)(hl:c.cs.length<=9223372036854775807)(hn:c.ns.length<=9223372036854775807)(hk:c.ks.length<=9223372036854775807) :
  Calls Tryd.prog 65 #[.int .i64 4,cdV p c] w fun e w'=>e=.returned (.tuple #[.int .i64 (spn c 4).1,.int .i64 (spn c 4).2])/\Below w.heap.size w w':=by
 go_enter Tryd.func65,Tryd.ntmps65;go_wp2;go_ret2;exact⟨rfl,b1 _ _⟩
theorem span_5 (p:Pl)(c:Cd)(w:World)(hl:c.cs.length<=9223372036854775807)(hn:c.ns.length<=9223372036854775807)(hk:c.ks.length<=9223372036854775807) :
  Calls Tryd.prog 65 #[.int .i64 5,cdV p c] w fun e w'=>e=.returned (.tuple #[.int .i64 (spn c 5).1,.int .i64 (spn c 5).2])/\Below w.heap.size w w':=by
 go_enter Tryd.func65,Tryd.ntmps65;go_wp2;go_ret2;exact⟨rfl,b1 _ _⟩
theorem span_6 (p:Pl)(c:Cd)(w:World)(hl:c.cs.length<=9223372036854775807)(hn:c.ns.length<=9223372036854775807)(hk:c.ks.length<=9223372036854775807) :
  Calls Tryd.prog 65 #[.int .i64 6,cdV p c] w fun e w'=>e=.returned (.tuple #[.int .i64 (spn c 6).1,.int .i64 (spn c 6).2])/\Below w.heap.size w w':=by
 go_enter Tryd.func65,Tryd.ntmps65;go_wp2;go_ret2;exact⟨rfl,b1 _ _⟩
theorem span_7 (p:Pl)(c:Cd)(w:World)(hl:c.cs.length<=9223372036854775807)(hn:c.ns.length<=9223372036854775807)(hk:c.ks.length<=9223372036854775807) :
  Calls Tryd.prog 65 #[.int .i64 7,cdV p c] w fun e w'=>e=.returned (.tuple #[.int .i64 (spn c 7).1,.int .i64 (spn c 7).2])/\Below w.heap.size w w':=by
 go_enter Tryd.func65,Tryd.ntmps65;go_wp2;go_ret2;exact⟨rfl,b1 _ _⟩
theorem span_8 (p:Pl)(c:Cd)(w:World)(hl:c.cs.length<=9223372036854775807)(hn:c.ns.length<=9223372036854775807)(hk:c.ks.length<=9223372036854775807) :
  Calls Tryd.prog 65 #[.int .i64 8,cdV p c] w fun e w'=>e=.returned (.tuple #[.int .i64 (spn c 8).1,.int .i64 (spn c 8).2])/\Below w.heap.size w w':=by
 go_enter Tryd.func65,Tryd.ntmps65;go_wp2
 go_quiet (fail)
 go_wp2;go_ret2;refine⟨?_,(b1 _ _).trans ((below_drewN _ _).mono (by simp))⟩;simp[spn]
theorem span_9 (p:Pl)(c:Cd)(w:World)(hl:c.cs.length<=9223372036854775807)(hn:c.ns.length<=9223372036854775807)(hk:c.ks.length<=9223372036854775807) :
  Calls Tryd.prog 65 #[.int .i64 9,cdV p c] w fun e w'=>e=.returned (.tuple #[.int .i64 (spn c 9).1,.int .i64 (spn c 9).2])/\Below w.heap.size w w':=by
 go_enter Tryd.func65,Tryd.ntmps65;go_wp2
 go_quiet (fail)
 go_wp2;go_ret2;refine⟨?_,(b1 _ _).trans ((below_drewN _ _).mono (by simp))⟩;simp[spn]
theorem span_10 (p:Pl)(c:Cd)(w:World)(hl:c.cs.length<=9223372036854775807)(hn:c.ns.length<=9223372036854775807)(hk:c.ks.length<=9223372036854775807) :
  Calls Tryd.prog 65 #[.int .i64 10,cdV p c] w fun e w'=>e=.returned (.tuple #[.int .i64 (spn c 10).1,.int .i64 (spn c 10).2])/\Below w.heap.size w w':=by
 go_enter Tryd.func65,Tryd.ntmps65;go_wp2
 go_quiet (fail)
 go_wp2;go_ret2;refine⟨?_,(b1 _ _).trans ((below_drewN _ _).mono (by simp))⟩;simp[spn]
theorem span_c (t:Nat)(ht:t<=10)(p:Pl)(c:Cd)(w:World)(hl:c.cs.length<=9223372036854775807)(hn:c.ns.length<=9223372036854775807)(hk:c.ks.length<=9223372036854775807) :
  Calls Tryd.prog 65 #[.int .i64 (t:Nat),cdV p c] w fun e w'=>e=.returned (.tuple #[.int .i64 (spn c t).1,.int .i64 (spn c t).2])/\Below w.heap.size w w':=by
 match t,ht with
 | 0,_=>exact span_0 p c w hl hn hk
 | 1,_=>exact span_1 p c w hl hn hk
 | 2,_=>exact span_2 p c w hl hn hk
 | 3,_=>exact span_3 p c w hl hn hk
 | 4,_=>exact span_4 p c w hl hn hk
 | 5,_=>exact span_5 p c w hl hn hk
 | 6,_=>exact span_6 p c w hl hn hk
 | 7,_=>exact span_7 p c w hl hn hk
 | 8,_=>exact span_8 p c w hl hn hk
 | 9,_=>exact span_9 p c w hl hn hk
 | 10,_=>exact span_10 p c w hl hn hk
 | n+11,h=>omega
theorem may_c (t:Nat)(ht:t<=10)(n:Int)(p:Pl)(c:Cd)(w:World)(hl:c.cs.length<=9223372036854775807)(hn:c.ns.length<=9223372036854775807)(hk:c.ks.length<=9223372036854775807) :
  Calls Tryd.prog 51 #[.int .i64 (t:Nat),.int .i64 n,cdV p c] w fun e w'=>e=.returned (.bool (mayB c t n))/\Below w.heap.size w w':=by
 have hm:mayB c t n=(decide ((spn c t).1<=n)&&decide (n<=(spn c t).2)):=rfl;have HS:=fun w=>span_c t ht p c w hl hn hk;rw[hm];generalize (spn c t).1=lo at *;generalize (spn c t).2=hi at *;clear hm;by_cases h1:lo<=n
 ·go_enter Tryd.func51,Tryd.ntmps51;go_wp2_with (go_at_call 65;refine(HS _).mono ?_;rintro e w1 ⟨rfl,hb⟩);go_ret;exact⟨by simp[h1],bd1 hb⟩
 ·go_enter Tryd.func51,Tryd.ntmps51;go_wp2_with (go_at_call 65;refine(HS _).mono ?_;rintro e w1 ⟨rfl,hb⟩);go_ret;exact⟨by simp;intro;omega,bd1 hb⟩
end Go.Proofs.YtpdfdhkdfkhfkaaDoor

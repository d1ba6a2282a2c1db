import Derived.Test.YtdhhnhjolmnkjabDoorPkP
set_option maxRecDepth 100000
set_option maxHeartbeats 8000000
namespace Go.Proofs.YtdhhnhjolmnkjabDoor
open Go.ChangeShapes Go.WideShapes Go.ChangeAt Go.RowKit
set_option linter.unusedVariables false
theorem parts_any (u:Int)(w:World)(hT:Tab w)(h1:0<=u)(h2:u<18446744073709551616) :
  Calls Tryd.prog 45 #[.int .u64 u] w fun e w' =>
   e=.returned (.tuple #[.int .i64 (u / 72057594037927936),.int .i64 (u / 268435456 % 268435456),.int .i64 (u % 268435456)])/\Below w.heap.size w w':=by
 go_enter Tryd.func45,Tryd.ntmps45;go_wp2_with fail;refine(part0 u w hT h1 h2).mono ?_;rintro e w1 ⟨rfl,hb1⟩;have hT1:=hT.below hb1;go_wp2_with fail;refine(part1 u w1 hT1 h1 h2).mono ?_;rintro e w2 ⟨rfl,hb2⟩;have hT2:=hT1.below hb2;go_wp2_with fail;refine(part2 u w2 hT2 h1 h2).mono ?_;rintro e w3 ⟨rfl,hb3⟩;go_wp2;go_ret3;exact⟨rfl,bjoin (bjoin hb1 hb2) hb3⟩
theorem field_cells {W:World}{m:Nat}{l:List Value}{a b:Int}{p:List MemPlace}
  (h:DataW.trod (fun _=>()) Tryd.prog W 0 (fun _=>true) false m 88 l=some (.agg [.lit (.int .u64 a),.lit (.int .u64 b)],p)):l=[.int .u64 a,.int .u64 b]:=by
 obtain⟨y0,y1,n,hx,hl,h0,h1⟩:=trod_struct2 Tryd.underlying88 h;simp only[Prod.mk.injEq,DataW.agg.injEq,List.cons.injEq,and_true] at hx;obtain⟨⟨e0,e1⟩,_⟩:=hx;obtain⟨z0,c0,r0,_⟩:=DataW.trod_int Tryd.underlying71 h0;obtain⟨z1,c1,r1,_⟩:=DataW.trod_int Tryd.underlying33 h1;subst r0 r1;simp only[DataW.lit.injEq,Lit.int.injEq,true_and] at e0 e1;subst e0 e1;rw[cellsField] at hl;simp only[cellsUint,cellsUint64] at c0 c1
 match l,hl with
 | [v0,v1],_ =>
  simp at c0 c1;rw[c0,c1]
def tkR (r:Nat × Nat × Nat):Value:=.tuple #[.int .u64 r.1,.int .i64 r.2.1,.int .i64 r.2.2]
theorem ret_take {a b:Int}{x y:Nat}(h:a=x)(g:b=y):Ending.returned (.tuple #[.int .u64 a,.int .i64 b,.int .i64 0])=.returned (tkR (x,y,0)):=by
 rw[h,g];rfl
theorem take_any (s:ByteArray)(w:World)(hs:s.size<=maxLen) :
  Calls Tryd.prog 48 #[.string s] w fun e w'=>e=.returned (tkR (tk s.data.toList 0 0))/\w'=w:=by
 unfold maxLen at hs;go_enter Tryd.func48,Tryd.ntmps48;go_wp2;go_loop [5,6] (fun u i=>∃k acc:Nat,k<=s.size/\k<=9/\i=.int .i64 k/\u=.int .u64 acc/\Hid (acc<128 ^ k)/\Hid (tk (s.data.toList.drop k) k acc=tk s.data.toList 0 0)) (fun _ i=>s.size-(intOf i).toNat)
 case atStart=>exact⟨0,0,Nat.zero_le _,by omega,rfl,rfl,show 0<128 ^ 0 by decide,rfl⟩
 case round =>
  obtain⟨k,acc,hk,hk9,rfl,rfl,HA,HR⟩:=hrel;by_cases hlt:k<s.size
  ·have HD:Hid (s.data.toList.drop k=s[k]::s.data.toList.drop (k+1)):=drop_cons s k hlt;have HB:Hid (s[k].toNat<256):=UInt8.toNat_lt _;go_wp2
   ·have HR':=HR.out;rw[HD.out,tkF _ _ _ _ (by omega) (by omega)] at HR';go_ret3;rw[<-HR'];exact⟨rfl,rfl⟩
   ·have HR':=HR.out;rw[HD.out,tkZ _ _ _ _ (by omega) (by omega)] at HR';go_ret3;rw[<-HR'];exact⟨rfl,rfl⟩
   ·have HR':=HR.out;have e9:k=9:=by omega
    rw[HD.out,tkE _ _ _ _ (by omega) (by omega) (by omega)] at HR';go_ret3;rw[<-HR'];have ha:=HA.out;have hm:s[k].toNat % 128=s[k].toNat:=by omega
    have hp:(128:Nat) ^ k=128 ^ 9:=by rw[e9]
    rw[hp] at ha;have hd:=digit_eq9 acc s[k].toNat ha (by omega);rw[hm,<-hp] at hd;exact⟨ret_take hd (by omega),rfl⟩
   ·have HR':=HR.out;rw[HD.out,tkM _ _ _ _ (by omega) (by omega)] at HR';have hd:=digit_eq k acc s[k].toNat hk9 HA.out HB.out (by omega);have ha:=digit_acc k acc s[k].toNat HA.out
    go_round
    case rel=>exact⟨k+1,acc+s[k].toNat % 128*128 ^ k,by omega,by omega,by go_num,by rw[hd],ha,HR'⟩
    case measure=>simp[intOf];omega
   ·have HR':=HR.out;rw[HD.out,tkZ _ _ _ _ (by omega) (by omega)] at HR';go_ret3;rw[<-HR'];exact⟨rfl,rfl⟩
   ·have HR':=HR.out;rw[HD.out,tkE _ _ _ _ (by omega) (by omega) (by omega)] at HR';go_ret3;rw[<-HR'];have hd:=digit_eq k acc 0 hk9 HA.out (by omega) (by omega);have hz:s[k].toNat=0:=by omega
    have e:acc+0 % 128*128 ^ k=acc+s[k].toNat*128 ^ k:=by rw[hz]
    rw[e] at hd;exact⟨ret_take hd (by omega),rfl⟩
   ·have HR':=HR.out;rw[HD.out,tkE _ _ _ _ (by omega) (by omega) (by omega)] at HR';go_ret3;rw[<-HR'];have hm:s[k].toNat % 128=s[k].toNat:=by omega
    have hd:=digit_eq k acc s[k].toNat hk9 HA.out HB.out (by omega);rw[hm] at hd;exact⟨ret_take hd (by omega),rfl⟩
  ·have HR':=HR.out;rw[List.drop_of_length_le (by simp;omega),tk] at HR';have HQ:Hid ((0,0,10)=tk s.data.toList 0 0):=HR';clear HR';go_wp2;go_ret3;rw[<-HQ.out];exact⟨rfl,rfl⟩
def bc (b:UInt8):Value:=.int .u8 (b.toNat:Int)
theorem info5:(Tryd.prog.info? 5).map (fun i=>(i.zero,i.size,i.bytes))=some (some (.int .u8 0),1,1):=by kernel_rfl
theorem one_new (w:World)(v:Value)(j:Nat)(u:Value)(h:[v][j]?=some u):(w.alloc (.cells #[v] 5)).cell? ((⟨w.heap.size,0,none⟩:Addr).add j)=some u:=by
 match j,h with
 | 0,h=>simp at h;subst h;simp[Addr.add]
theorem one_cell (k:IntKind)(n:Int):∀ u ∈ [Value.int k n],u.oneCell'=true:=by
 intro u hu;simp at hu;subst hu;rfl
theorem owned_at {w:World}{B:Nat}{v:Value}{n:Nat}{xs:List Value}(h:w.ownsRow B 5 1 v (n+1) xs):∃g cap,v=.slice (some ⟨g,0,none⟩) (n+1) cap/\v.ownBlock=some g:=by
 rcases h.2 with ⟨_,h⟩|⟨g,cap,cur,hv,_⟩
 ·omega
 ·exact⟨g,cap,hv,by rw[hv];rfl⟩
theorem owned_text {w:World}{B g cap:Nat}{l:List UInt8}(h:w.ownsRow B 5 1 (.slice (some ⟨g,0,none⟩) l.length cap) l.length (l.map bc)) :
  (convert 40 9 (.slice (some ⟨g,0,none⟩) l.length cap)).run Tryd.prog w=.ok (.string ⟨l.toArray⟩) w :=
 run_convert_bytes_back w 40 9 5 ⟨g,0,none⟩ cap l Tryd.underlying40 Tryd.underlying5 Tryd.underlying9
  (fun j hj=>h.cells rfl j _ (by simp[bc,hj]))
theorem put_any (u:Int)(w:World)(h1:0<=u)(h2:u<18446744073709551616) :
  Calls Tryd.prog 21 #[.int .u64 u] w fun e w'=>e=.returned (.string ⟨(sevs u).toArray⟩)/\Below w.heap.size w w':=by
 obtain⟨i0,hi,hz0,hz1,hz2⟩:=info_parts info5;go_enter Tryd.func21,Tryd.ntmps21;go_wp2;go_loopw [0,3] (fun u' v wr=>∃(r f:Nat) (l:List UInt8),u'=.int .u64 r/\l.length+f=9/\Hid (r<2*128 ^ f)/\r<18446744073709551616/\wr.ownsRow w.heap.size 5 1 v l.length (l.map bc)/\Below w.heap.size w wr/\Hid (l++sev f r=sevs u)) (fun u' _ _=>(intOf u').toNat)
 case atStart =>
  exact⟨u.toNat,9,[],by rw[Int.toNat_of_nonneg h1],rfl,show u.toNat<2*128 ^ 9 by omega,by omega,World.ownsRow_nil _ _ _ _,Below.refl _ _,rfl⟩
 case round =>
  obtain⟨r,f,l,rfl,hlf,HB,hr,hown,hbl,HS⟩:=hrel;have hsz:=hbl.size;by_cases hlt:r<128
  ·go_wp2_with (first
    | (at_builtin;refine wpList_append_own _ rfl _ _ 40 rfl w.heap.size 5 i0 (.int .u8 0) 1 1 Tryd.underlying40 hi hz0 hz1 hz2 rfl (by decide) _ _ _ rfl (hown.alloc _) ⟨wr.heap.size,0,none⟩ 1 1 [.int .u8 r] rfl rfl ?c1 ?c2 ?c3 ?c4 ?c5 ?_)
    | go_in)
   case c1=>exact one_new _ _
   case c2=>exact one_cell _ _
   case c3=>unfold maxLen;omega
   case c4=>omega
   case c5=>simp;omega
   ·intro v' w1 hown' hgrow _;have hown2:w1.ownsRow w.heap.size 5 1 v' (l++[UInt8.ofNat r]).length ((l++[UInt8.ofNat r]).map bc):=by
     have e:=byte_last r hlt;simp only[List.length_append,List.length_singleton,List.map_append,List.map_cons,List.map_nil,bc];rw[<-e];exact hown'
    have hbl2:Below w.heap.size w w1:=(hbl.alloc hsz _).grown hgrow (by simp;omega) (fun k hk=>(hown.lt k hk).1);have hfin:l++[UInt8.ofNat r]=sevs u:=by
     have h:=HS.out;rw[sev_last f r hlt] at h;exact h
    have HF:Hid (l++[UInt8.ofNat r]=sevs u):=hfin;have hlen:(l++[UInt8.ofNat r]).length=l.length+1:=by simp
    have hex:∃g cap,v'=.slice (some ⟨g,0,none⟩) (l.length+1) cap/\v'.ownBlock=some g:=owned_at (by rw[hlen] at hown2;exact hown2);obtain⟨g,cap,hv,_⟩:=hex;have hconv:=owned_text (l:=l++[UInt8.ofNat r]) (g:=g) (cap:=cap) (by rw[hlen] at hown2 ⊢;rw[<-hv];exact hown2);rw[hlen] at hconv;rw[hv];clear hown' hgrow hown hown2 hv hfin hlen;go_wp2;go_ret;rw[<-HF.out];exact⟨rfl,hbl2⟩
  ·go_wp2_with (first
    | (at_builtin;refine wpList_append_own _ rfl _ _ 40 rfl w.heap.size 5 i0 (.int .u8 0) 1 1 Tryd.underlying40 hi hz0 hz1 hz2 rfl (by decide) _ _ _ rfl (hown.alloc _) ⟨wr.heap.size,0,none⟩ 1 1 [.int .u8 (bits .or .u8 ((r:Int) % 256) 128)] rfl rfl ?c1 ?c2 ?c3 ?c4 ?c5 ?_)
    | go_in)
   case c1=>exact one_new _ _
   case c2=>exact one_cell _ _
   case c3=>unfold maxLen;omega
   case c4=>omega
   case c5=>simp;omega
   ·intro v' w1 hown' hgrow _;have hown2:w1.ownsRow w.heap.size 5 1 v' (l++[UInt8.ofNat (r % 128+128)]).length ((l++[UInt8.ofNat (r % 128+128)]).map bc):=by
     have e:=byte_more' r;simp only[List.length_append,List.length_singleton,List.map_append,List.map_cons,List.map_nil,bc];rw[<-e];exact hown'
    have hbl2:Below w.heap.size w w1:=(hbl.alloc hsz _).grown hgrow (by simp;omega) (fun k hk=>(hown.lt k hk).1);obtain⟨g,hfg,hg⟩:=put_step r f HB.out hlt;have HF:Hid (f=g+1):=hfg;have HG:Hid (r / 128<2*128 ^ g):=hg;clear hown' hgrow hown hfg hg;go_wp2;go_roundw
    case rel =>
     refine⟨r / 128,g,l++[UInt8.ofNat (r % 128+128)],by go_num,?_,HG,by omega,hown2,hbl2,?_⟩
     ·have:=HF.out
      simp;omega
     ·have h:=HS.out;rw[HF.out,sev_more g r hlt] at h;show l++[UInt8.ofNat (r % 128+128)]++sev g (r / 128)=sevs u;rw[List.append_assoc];exact h
    case measure=>simp[intOf];omega
def Lsv (w:World)(ao:Option Addr)(xs:List Value):Prop :=
 xs=[]\/∃b off,ao=some ⟨b,off,none⟩/\b<w.heap.size/\∀ j x,xs[j]?=some x->w.cell? ⟨b,off+j,none⟩=some x
theorem Lsv.below {w w':World}{ao:Option Addr}{xs:List Value}(h:Lsv w ao xs)(B:Below w.heap.size w w'):Lsv w' ao xs:=by
 rcases h with h|⟨b,off,rfl,hlt,hc⟩
 ·exact .inl h
 ·exact .inr ⟨b,off,rfl,Nat.lt_of_lt_of_le hlt B.size,fun j x hx=>(B.cell (p:=⟨b,off+j,none⟩) hlt).trans (hc j x hx)⟩
theorem Lsv.at {w:World}{ao:Option Addr}{xs:List Value}(h:Lsv w ao xs){j:Nat}{x:Value}(hx:xs[j]?=some x):∃b off,ao=some ⟨b,off,none⟩/\b<w.heap.size/\w.cell? ⟨b,off+j,none⟩=some x:=by
 rcases h with rfl|⟨b,off,rfl,hlt,hc⟩
 ·simp at hx
 ·exact⟨b,off,rfl,hlt,hc j x hx⟩
def wsV (l:List Int):List Value:=l.map (.int .u64 ·)
def isV (l:List Int):List Value:=l.map (.int .i64 ·)
def nsV (l:List ByteArray):List Value:=l.map (.string ·)
structure Pl where
 aw:Option Addr
 cw:Nat
 ac:Option Addr
 cc:Nat
 an:Option Addr
 cn:Nat
 ak:Option Addr
 ck:Nat
abbrev cdA (p:Pl)(c:Cd):Array Value:=#[.slice p.aw c.ws.length p.cw,.slice p.ac c.cs.length p.cc,.slice p.an c.ns.length p.cn,.slice p.ak c.ks.length p.ck]
abbrev cdV (p:Pl)(c:Cd):Value:=.agg (cdA p c)
structure CdW (w:World)(p:Pl)(c:Cd):Prop where
 ok:c.Ok
 ws:Lsv w p.aw (wsV c.ws)
 cs:Lsv w p.ac (isV c.cs)
 ns:Lsv w p.an (nsV c.ns)
 ks:Lsv w p.ak (isV c.ks)
 lw:c.ws.length<=9223372036854775807
 lc:c.cs.length<=9223372036854775807
 ln:c.ns.length<=9223372036854775807
 lk:c.ks.length<=9223372036854775807
theorem CdW.below {w w':World}{p:Pl}{c:Cd}(h:CdW w p c)(B:Below w.heap.size w w'):CdW w' p c :=
 ⟨h.ok,h.ws.below B,h.cs.below B,h.ns.below B,h.ks.below B,h.lw,h.lc,h.ln,h.lk⟩
theorem bd1 {w w':World}{o:Obj}(h:Below (w.alloc o).heap.size (w.alloc o) w'):Below w.heap.size w w':=(b1 w o).trans (h.mono (by simp))
theorem box4 (w:World)(a b c d:Value)(t:TypeId):(w.alloc (.cells #[a,b,c,d] t)).heap[w.heap.size]?=some (.cells #[a,b,c,d] t (0,0)):=heap_alloc_new _ _
theorem box4_cells {w:World}{g:Nat}{a b c d:Value}{t:TypeId}(h:w.heap[g]?=some (.cells #[a,b,c,d] t (0,0))):w.cell? ⟨g,0,none⟩=some a/\w.cell? ⟨g,1,none⟩=some b/\w.cell? ⟨g,2,none⟩=some c/\w.cell? ⟨g,3,none⟩=some d:=by
 refine⟨?_,?_,?_,?_⟩<;>simp[World.cell?,h]
theorem span_0 (p:Pl)(c:Cd)(w:World)(hl:c.cs.length<=9223372036854775807)(hn:c.ns.length<=9223372036854775807)(hk:c.ks.length<=9223372036854775807) :
  Calls Tryd.prog 44 #[.int .i64 0,cdV p c] w fun e w'=>e=.returned (.tuple #[.int .i64 (spn c 0).1,.int .i64 (spn c 0).2])/\Below w.heap.size w w':=by
 go_enter Tryd.func44,Tryd.ntmps44;go_wp2;go_ret2;exact⟨rfl,b1 _ _⟩
theorem span_1 (p:Pl)(c:Cd)(w:World)(hl:c.cs.length<=9223372036854775807)(hn:c.ns.length<=9223372036854775807)(hk:c.ks.length<=9223372036854775807) :
  Calls Tryd.prog 44 #[.int .i64 1,cdV p c] w fun e w'=>e=.returned (.tuple #[.int .i64 (spn c 1).1,.int .i64 (spn c 1).2])/\Below w.heap.size w w':=by
 go_enter Tryd.func44,Tryd.ntmps44;go_wp2;go_ret2;exact⟨rfl,b1 _ _⟩
theorem span_2 (p:Pl)(c:Cd)(w:World)(hl:c.cs.length<=9223372036854775807)(hn:c.ns.length<=9223372036854775807)(hk:c.ks.length<=9223372036854775807) :
  Calls Tryd.prog 44 #[.int .i64 2,cdV p c] w fun e w'=>e=.returned (.tuple #[.int .i64 (spn c 2).1,.int .i64 (spn c 2).2])/\Below w.heap.size w w':=by
 go_enter Tryd.func44,Tryd.ntmps44;go_wp2;go_ret2;exact⟨rfl,b1 _ _⟩
theorem span_3 (p:Pl)(c:Cd)(w:World)(hl:c.cs.length<=9223372036854775807)(hn:c.ns.length<=9223372036854775807)(hk:c.ks.length<=9223372036854775807) :
  Calls Tryd.prog 44 #[.int .i64 3,cdV p c] w fun e w'=>e=.returned (.tuple #[.int .i64 (spn c 3).1,.int .i64 (spn c 3).2])/\Below w.heap.size w w':=by
 go_enter Tryd.func44,Tryd.ntmps44;go_wp2;go_ret2;exact⟨rfl,b1 _ _⟩
theorem span_4 (p:Pl)(c:Cd)(w:World)(hl:c.cs.length<=9223372036854775807)(hn:c.ns.length<=9223372036854775807)(hk:c.ks.length<=9223372036854775807) :
  Calls Tryd.prog 44 #[.int .i64 4,cdV p c] w fun e w'=>e=.returned (.tuple #[.int .i64 (spn c 4).1,.int .i64 (spn c 4).2])/\Below w.heap.size w w':=by
 go_enter Tryd.func44,Tryd.ntmps44;go_wp2;go_ret2;exact⟨rfl,b1 _ _⟩
theorem span_5 (p:Pl)(c:Cd)(w:World)(hl:c.cs.length<=9223372036854775807)(hn:c.ns.length<=9223372036854775807)(hk:c.ks.length<=9223372036854775807) :
  Calls Tryd.prog 44 #[.int .i64 5,cdV p c] w fun e w'=>e=.returned (.tuple #[.int .i64 (spn c 5).1,.int .i64 (spn c 5).2])/\Below w.heap.size w w':=by
 go_enter Tryd.func44,Tryd.ntmps44;go_wp2;go_ret2;exact⟨rfl,b1 _ _⟩
theorem span_6 (p:Pl)(c:Cd)(w:World)(hl:c.cs.length<=9223372036854775807)(hn:c.ns.length<=9223372036854775807)(hk:c.ks.length<=9223372036854775807) :
  Calls Tryd.prog 44 #[.int .i64 6,cdV p c] w fun e w'=>e=.returned (.tuple #[.int .i64 (spn c 6).1,.int .i64 (spn c 6).2])/\Below w.heap.size w w':=by
 go_enter Tryd.func44,Tryd.ntmps44;go_wp2;go_ret2;exact⟨rfl,b1 _ _⟩
theorem span_7 (p:Pl)(c:Cd)(w:World)(hl:c.cs.length<=9223372036854775807)(hn:c.ns.length<=9223372036854775807)(hk:c.ks.length<=9223372036854775807) :
  Calls Tryd.prog 44 #[.int .i64 7,cdV p c] w fun e w'=>e=.returned (.tuple #[.int .i64 (spn c 7).1,.int .i64 (spn c 7).2])/\Below w.heap.size w w':=by
 go_enter Tryd.func44,Tryd.ntmps44;go_wp2;go_ret2;exact⟨rfl,b1 _ _⟩
theorem span_8 (p:Pl)(c:Cd)(w:World)(hl:c.cs.length<=9223372036854775807)(hn:c.ns.length<=9223372036854775807)(hk:c.ks.length<=9223372036854775807) :
  Calls Tryd.prog 44 #[.int .i64 8,cdV p c] w fun e w'=>e=.returned (.tuple #[.int .i64 (spn c 8).1,.int .i64 (spn c 8).2])/\Below w.heap.size w w':=by
 go_enter Tryd.func44,Tryd.ntmps44;go_wp2
 go_quiet (fail)
 go_wp2;go_ret2;refine⟨?_,(b1 _ _).trans ((below_drewN _ _).mono (by simp))⟩;simp[spn]
theorem span_9 (p:Pl)(c:Cd)(w:World)(hl:c.cs.length<=9223372036854775807)(hn:c.ns.length<=9223372036854775807)(hk:c.ks.length<=9223372036854775807) :
  Calls Tryd.prog 44 #[.int .i64 9,cdV p c] w fun e w'=>e=.returned (.tuple #[.int .i64 (spn c 9).1,.int .i64 (spn c 9).2])/\Below w.heap.size w w':=by
 go_enter Tryd.func44,Tryd.ntmps44;go_wp2
 go_quiet (fail)
 go_wp2;go_ret2;refine⟨?_,(b1 _ _).trans ((below_drewN _ _).mono (by simp))⟩;simp[spn]
theorem span_10 (p:Pl)(c:Cd)(w:World)(hl:c.cs.length<=9223372036854775807)(hn:c.ns.length<=9223372036854775807)(hk:c.ks.length<=9223372036854775807) :
  Calls Tryd.prog 44 #[.int .i64 10,cdV p c] w fun e w'=>e=.returned (.tuple #[.int .i64 (spn c 10).1,.int .i64 (spn c 10).2])/\Below w.heap.size w w':=by
 go_enter Tryd.func44,Tryd.ntmps44;go_wp2
 go_quiet (fail)
 go_wp2;go_ret2;refine⟨?_,(b1 _ _).trans ((below_drewN _ _).mono (by simp))⟩;simp[spn]
theorem span_c (t:Nat)(ht:t<=10)(p:Pl)(c:Cd)(w:World)(hl:c.cs.length<=9223372036854775807)(hn:c.ns.length<=9223372036854775807)(hk:c.ks.length<=9223372036854775807) :
  Calls Tryd.prog 44 #[.int .i64 (t:Nat),cdV p c] w fun e w'=>e=.returned (.tuple #[.int .i64 (spn c t).1,.int .i64 (spn c t).2])/\Below w.heap.size w w':=by
 match t,ht with
 | 0,_=>exact span_0 p c w hl hn hk
 | 1,_=>exact span_1 p c w hl hn hk
 | 2,_=>exact span_2 p c w hl hn hk
 | 3,_=>exact span_3 p c w hl hn hk
 | 4,_=>exact span_4 p c w hl hn hk
 | 5,_=>exact span_5 p c w hl hn hk
 | 6,_=>exact span_6 p c w hl hn hk
 | 7,_=>exact span_7 p c w hl hn hk
 | 8,_=>exact span_8 p c w hl hn hk
 | 9,_=>exact span_9 p c w hl hn hk
 | 10,_=>exact span_10 p c w hl hn hk
 | n+11,h=>omega
theorem may_c (t:Nat)(ht:t<=10)(n:Int)(p:Pl)(c:Cd)(w:World)(hl:c.cs.length<=9223372036854775807)(hn:c.ns.length<=9223372036854775807)(hk:c.ks.length<=9223372036854775807) :
  Calls Tryd.prog 29 #[.int .i64 (t:Nat),.int .i64 n,cdV p c] w fun e w'=>e=.returned (.bool (mayB c t n))/\Below w.heap.size w w':=by
 have hm:mayB c t n=(decide ((spn c t).1<=n)&&decide (n<=(spn c t).2)):=rfl;have HS:=fun w=>span_c t ht p c w hl hn hk;rw[hm];generalize (spn c t).1=lo at *;generalize (spn c t).2=hi at *;clear hm;by_cases h1:lo<=n
 ·go_enter Tryd.func29,Tryd.ntmps29;go_wp2_with (go_at_call 44;refine(HS _).mono ?_;rintro e w1 ⟨rfl,hb⟩);go_ret;exact⟨by simp[h1],bd1 hb⟩
 ·go_enter Tryd.func29,Tryd.ntmps29;go_wp2_with (go_at_call 44;refine(HS _).mono ?_;rintro e w1 ⟨rfl,hb⟩);go_ret;exact⟨by simp;intro;omega,bd1 hb⟩
end Go.Proofs.YtdhhnhjolmnkjabDoor

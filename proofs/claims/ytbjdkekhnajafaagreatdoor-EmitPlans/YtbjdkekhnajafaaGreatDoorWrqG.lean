import Derived.Test.YtbjdkekhnajafaaGreatDoorRdqC
import Derived.Deep.RegionWith
import Derived.Deep.LoopGhost
set_option maxRecDepth 100000
set_option maxHeartbeats 8000000
namespace Go.Proofs.YtbjdkekhnajafaaGreatDoor
open Go.ChangeShapes Go.WideShapes Go.ChangeAt Go.RowKit
set_option linter.unusedVariables false
set_option linter.unusedSimpArgs false
def eN (L:List (List UInt8))(st:Sq):Int :=
 match L.findIdx? (fun s=>isS s st) with
 | some i=>(i:Nat)
 | none=>-1
theorem nW {L:List (List UInt8)}{st:Sq}{k:Nat}{s:List UInt8}(hk:L[k]?=some s)(hs:isS s st=true)(hn:∀ j t,j<k->L[j]?=some t->isS t st=false):eN L st=(k:Nat):=by
 have:L.findIdx? (fun s=>isS s st)=some k:=by
  obtain⟨hl,he⟩:=List.getElem?_eq_some_iff.1 hk;rw[List.findIdx?_eq_some_iff_getElem];refine⟨hl,by rw[he];exact hs,fun j hj=>?_⟩
  have:=hn j (L[j]'(by omega)) hj (List.getElem?_eq_getElem _)
  simp[this]
 unfold eN;rw[this]
theorem oK {L:List (List UInt8)}{st:Sq}(hn:∀ j t,j<L.length->L[j]?=some t->isS t st=false):eN L st=-1:=by
 have:L.findIdx? (fun s=>isS s st)=none:=by
  rw[List.findIdx?_eq_none_iff];intro t ht;obtain⟨j,hj,he⟩:=List.getElem_of_mem ht;exact hn j t hj (by rw[<-he];exact List.getElem?_eq_getElem _)
 unfold eN;rw[this]
theorem fK {w:World}{rb o q:Nat}{all:List Tk}{st:Sq}(TI:∀ x,x ∈ all->et x)(L:List (List UInt8))(hL:∀ s,s ∈ L->s≠[]/\aX s=false)(h:QS w rb all o q st){g n cap:Nat}(hn:n=L.length)(hg:g<w.heap.size)(hl:∀ j s,L[j]?=some s->w.cell? ⟨g,j,none⟩=some (stv s))(hc:n<=cap)(hm:cap<=maxLen) :
  Calls Tryz.prog 67 #[.pointer (some ⟨rb,0,none⟩),.slice (some ⟨g,0,none⟩) n cap] w fun e w'=>e=.returned (.int .i64 (eN L st))/\Below w.heap.size w w':=by
 have hmm:cap<=9223372036854775807:=hm;obtain⟨V,hV⟩:∃V,V=eN L st:=⟨_,rfl⟩
 rw[<-hV];have HV:Hid (V=eN L st):=hV;have HN:Hid (n=L.length):=hn;have HL:Hid (∀ j s wx,L[j]?=some s->Below w.heap.size w wx->wx.cell? ⟨g,j,none⟩=some (stv s)):=fun j s wx hj b=>(b.cell (p:=⟨g,j,none⟩) hg).trans (hl j s hj);have HI:Hid (∀ s wx,s ∈ L->Below w.heap.size w wx->Calls Tryz.prog 128 #[.pointer (some ⟨rb,0,none⟩),stv s] wx fun e w'=>e=.returned (.bool (isS s st))/\Below wx.heap.size wx w'):=fun s wx hs b=>rP TI s (hL s hs).1 (hL s hs).2 (h.below b);clear hV hn hl h hL TI hm;go_enter Tryz.func67,Tryz.ntmps67;go_wp2_with fail;go_loopw [5] (fun v wr=>∃k:Nat,v=.int .i64 (k:Nat)/\k<=n/\(∀ j t,j<k->L[j]?=some t->isS t st=false)/\Below w.heap.size w wr) (fun v _=>n-(intOf v).toNat)
 case atStart=>exact⟨0,by go_num,by omega,fun j t hj=>by omega,Below.refl _ w⟩
 case round =>
  obtain⟨k,rfl,hk,hin,hB⟩:=hrel;by_cases hlt:k<n
  ·have hkI:(k:Int)<(n:Int):=by omega
   obtain⟨s,hs⟩:∃s,L[k]?=some s:=⟨_,List.getElem?_eq_getElem (by rw[<-HN.out];exact hlt)⟩
   have ix:=HL.out k s wr hs hB;have c:=HI.out s wr (List.mem_of_getElem? hs) hB;have hk9:k<9223372036854775807:=by omega
   cases hb:isS s st with
   | true =>
    rw[hb] at c;have fin:Hid (V=(k:Nat)):=by show V=_;rw[HV.out];exact nW hs hb hin
    clear hin HI HL HV hs hb;go_wp2_with fail;refine c.mono ?_;rintro e w2 ⟨rfl,b2⟩;have B2:=hB.trans (b2.mono hB.size);clear c ix;go_wp2;go_ret;exact⟨by rw[fin.out];rfl,B2⟩
   | false =>
    rw[hb] at c;have hin2:∀ j t,j<k+1->L[j]?=some t->isS t st=false:=fun j t hj ht=>by
     by_cases e:j=k
     ·subst e;rw[hs] at ht;cases ht;exact hb
     ·exact hin j t (by omega) ht
    have HI2:=Lib.hid hin2;clear hin HI HL HV hs hb hin2;go_wp2_with fail;refine c.mono ?_;rintro e w2 ⟨rfl,b2⟩;have B2:=hB.trans (b2.mono hB.size);clear c ix hB b2;go_wp2;go_roundw
    case rel=>(try ((repeat apply Exists.intro);refine⟨?_,rfl⟩));exact⟨k+1,by go_num,by omega,HI2.out,B2⟩
    case measure=>simp[intOf];omega
  ·obtain rfl:k=n:=by omega
   have fin:Hid (V=-1):=by show V=_;rw[HV.out];exact oK (by rw[<-HN.out];exact hin)
   clear hin HI HL HV HN;go_wp2;go_ret;exact⟨by rw[fin.out];rfl,hB⟩
abbrev Nb (n bl:Nat):Nat->Prop:=fun b=>n<=b/\b≠bl
theorem Sl.toB {n n1 bl:Nat}{w:World}{f:Fs}{ao:Option Addr}(h:Sl w (Nw n1) f ao)(hn:n<=n1)(hb:bl<n1):Sl w (Nb n bl) f ao:=h.mono (fun _ _ _=>rfl) (Nat.le_refl _) (fun k hk _=>⟨Nat.le_trans hn hk,by have hk:n1<=k:=hk;omega⟩)
theorem Sl.toB' {n bl:Nat}{w:World}{f:Fs}{ao:Option Addr}(h:Sl w (Nw n) f ao)(hb:w.heap.size<=bl):Sl w (Nb n bl) f ao:=h.mono (fun _ _ _=>rfl) (Nat.le_refl _) (fun k hk hl=>⟨hk,by omega⟩)
theorem Sl.keepB {rb n bl:Nat}{w w':World}{f:Fs}{ao:Option Addr}(h:Sl w (Nb n bl) f ao)(k:au rb w w')(hn:rb<n):Sl w' (Nb n bl) f ao:=h.mono (fun i hp hl=>k.block i hl (by have:=hp.1;omega)) k.size (fun _ h _=>h)
theorem Sl.allocB {P:Nat->Prop}{w:World}{f:Fs}{ao:Option Addr}(h:Sl w P f ao)(ob:Obj):Sl (w.alloc ob) P f ao:=h.mono (fun i hp hl=>Below.heap_alloc w ob i hl) (by simp) (fun _ h _=>h)
theorem Sl.setB {n bl:Nat}{w:World}{f:Fs}{ao:Option Addr}(h:Sl w (Nb n bl) f ao)(p:Addr)(v:Value)(hp:p.block=bl\/p.block<n):Sl (w.setCell p v) (Nb n bl) f ao:=h.mono (fun i hi hl=>heap_setCell_other w p i v (by have h1:=hi.1;have h2:=hi.2;rcases hp with hp|hp<;>omega)) (by simp) (fun _ h _=>h)
theorem Sl.set5B {n bl:Nat}{w:World}{f:Fs}{ao:Option Addr}(h:Sl w (Nb n bl) f ao){b:Nat}(hb:b=bl\/b<n)(b0 b1 b2 b3 b4:Value):Sl (((((w.setCell ⟨b,0,none⟩ b0).setCell ⟨b,1,none⟩ b1).setCell ⟨b,2,none⟩ b2).setCell ⟨b,3,none⟩ b3).setCell ⟨b,4,none⟩ b4) (Nb n bl) f ao:=((((h.setB ⟨b,0,none⟩ b0 hb).setB ⟨b,1,none⟩ b1 hb).setB ⟨b,2,none⟩ b2 hb).setB ⟨b,3,none⟩ b3 hb).setB ⟨b,4,none⟩ b4 hb
theorem Sl.lowB {n bl m:Nat}{w:World}{f:Fs}{ao:Option Addr}(h:Sl w (Nb n bl) f ao)(hm:m<=n):Sl w (Nw m) f ao:=h.mono (fun _ _ _=>rfl) (Nat.le_refl _) (fun k hk _=>Nat.le_trans hm hk.1)
def cwL:List (List UInt8):=dG.map (·.1)
def qwL:List (List UInt8):=dv.map (·.1)
def Wl (w:World)(L:List (List UInt8))(w':World)(g:Nat):Prop:=Below w.heap.size w w'/\w.heap.size<=g/\g<w'.heap.size/\∀ j s,L[j]?=some s->w'.cell? ⟨g,j,none⟩=some (stv s)
theorem iS (w:World)(L:List (List UInt8))(t:TypeId):Wl w L (w.alloc (.cells (L.map stv).toArray t)) w.heap.size:=by
 refine⟨(Below.refl _ w).alloc (Nat.le_refl _) _,Nat.le_refl _,by simp,fun j s hj=>?_⟩;have hh:(w.alloc (.cells (L.map stv).toArray t)).heap[w.heap.size]?=some (.cells (L.map stv).toArray t (0,0)):=heap_alloc_new w _;rw[cell_of_row _ _ _ _ _ (0,0) hh];simp[hj]
theorem tu (w:World):Calls Tryz.prog 198 #[] w fun e w'=>∃g,e=.returned (.slice (some ⟨g,0,none⟩) 10 10)/\Wl w cwL w' g:=by
 have H:=iS w cwL 9;have e1:(cwL.map stv)=dG.map (fun x=>stv x.1):=rfl;go_enter Tryz.func198,Tryz.ntmps198;go_wp2;go_ret;exact⟨_,rfl,H⟩
theorem lB (w:World):Calls Tryz.prog 199 #[] w fun e w'=>∃g,e=.returned (.slice (some ⟨g,0,none⟩) 6 6)/\Wl w qwL w' g:=by
 have H:=iS w qwL 9;go_enter Tryz.func199,Tryz.ntmps199;go_wp2;go_ret;exact⟨_,rfl,H⟩
abbrev bxE (e:Ex)(ao:Option Addr)(cap:Nat):Obj:=.cells #[.int .i64 e.k,.int .i64 e.n,stv e.nm,.slice ao e.kids.len cap,.int .i64 e.a] 25
theorem Fc.allocP {P:Nat->Prop}{w:World}{f:Fs}{xs:List Value}(h:Fc w P f xs)(ob:Obj):Fc (w.alloc ob) P f xs:=h.mono (fun i hp hl=>Below.heap_alloc w ob i hl) (by simp) (fun _ h _=>h)
theorem Sl.freshP {w:World}{P:Nat->Prop}{f:Fs}(xs:List Value)(t:TypeId)(h:Fc w P f xs)(hp:P w.heap.size):Sl (w.alloc (.cells xs.toArray t)) P f (some ⟨w.heap.size,0,none⟩):=by
 refine Sl.of hp (by simp) (fun j u hu=>?_) (h.allocP _);rw[Nat.zero_add];rw[cell_of_row _ w.heap.size j _ t (0,0) (heap_alloc_new w _)];simpa using hu
theorem Eu {w:World}{P:Nat->Prop}(k:Nat)(at0:Int){a b:Ex}{aoa aob:Option Addr}{ca cb:Nat}(ha:Sl w P a.kids aoa)(hb:Sl w P b.kids aob)(hn:P (w.heap.size+1+1+1)) :
  Calls Tryz.prog 68 #[.int .i64 (k:Nat),.int .i64 at0,exV a aoa ca,exV b aob cb] w fun e w'=>∃ao cap,e=.returned (exV ⟨(k:Nat),0,[],at0,(one a).snoc b⟩ ao cap)/\Sl w' P ((one a).snoc b) ao/\Below w.heap.size w w':=by
 have s1:(w.alloc (bxE a aoa ca)).heap.size=w.heap.size+1:=by simp
 have s2:((w.alloc (bxE a aoa ca)).alloc (bxE b aob cb)).heap.size=w.heap.size+1+1:=by simp
 have s3:(((w.alloc (bxE a aoa ca)).alloc (bxE b aob cb)).alloc (bxE ⟨(k:Nat),0,[],at0,(one a).snoc b⟩ (some ⟨w.heap.size+1+1+1,0,none⟩) 2)).heap.size=w.heap.size+1+1+1:=by simp
 have hS:=Sl.freshP _ 25 (Fc.app (Fc.one (e:=a) ca (((ha.allocB (bxE a aoa ca)).allocB (bxE b aob cb)).allocB (bxE ⟨(k:Nat),0,[],at0,(one a).snoc b⟩ (some ⟨w.heap.size+1+1+1,0,none⟩) 2))) (Fc.one (e:=b) cb (((hb.allocB (bxE a aoa ca)).allocB (bxE b aob cb)).allocB (bxE ⟨(k:Nat),0,[],at0,(one a).snoc b⟩ (some ⟨w.heap.size+1+1+1,0,none⟩) 2)))) (by rw[s3];exact hn);have hZ:(((w.alloc (bxE a aoa ca)).alloc (bxE b aob cb)).alloc (bxE ⟨(k:Nat),0,[],at0,(one a).snoc b⟩ (some ⟨w.heap.size+1+1+1,0,none⟩) 2)).heap[w.heap.size+1+1]?=some (bxE ⟨(k:Nat),0,[],at0,(one a).snoc b⟩ (some ⟨w.heap.size+1+1+1,0,none⟩) 2):=by
  have:=heap_alloc_new ((w.alloc (bxE a aoa ca)).alloc (bxE b aob cb)) (bxE ⟨(k:Nat),0,[],at0,(one a).snoc b⟩ (some ⟨w.heap.size+1+1+1,0,none⟩) 2)
  rw[s2] at this;exact this
 have hZ2:=(Below.heap_alloc _ (.cells ([.int .i64 a.k,.int .i64 a.n,stv a.nm,.slice aoa a.kids.len ca,.int .i64 a.a]++[.int .i64 b.k,.int .i64 b.n,stv b.nm,.slice aob b.kids.len cb,.int .i64 b.a]).toArray 25) _ (lt_of_block hZ)).trans hZ;have hB:Below w.heap.size w ((((w.alloc (bxE a aoa ca)).alloc (bxE b aob cb)).alloc (bxE ⟨(k:Nat),0,[],at0,(one a).snoc b⟩ (some ⟨w.heap.size+1+1+1,0,none⟩) 2)).alloc (.cells ([.int .i64 a.k,.int .i64 a.n,stv a.nm,.slice aoa a.kids.len ca,.int .i64 a.a]++[.int .i64 b.k,.int .i64 b.n,stv b.nm,.slice aob b.kids.len cb,.int .i64 b.a]).toArray 25)):=((((Below.refl _ w).alloc (by omega) _).alloc (by omega) _).alloc (by omega) _).alloc (by omega) _;rw[s3] at hS;have l2:((one a).snoc b).len=2:=rfl;obtain⟨u0,u1,u2,u3,u4,-⟩:=ai hZ2;have FIN:Hid (∀ wx,wx=((((w.alloc (bxE a aoa ca)).alloc (bxE b aob cb)).alloc (bxE ⟨(k:Nat),0,[],at0,(one a).snoc b⟩ (some ⟨w.heap.size+1+1+1,0,none⟩) 2)).alloc (.cells ([.int .i64 a.k,.int .i64 a.n,stv a.nm,.slice aoa a.kids.len ca,.int .i64 a.a]++[.int .i64 b.k,.int .i64 b.n,stv b.nm,.slice aob b.kids.len cb,.int .i64 b.a]).toArray 25))->Sl wx P ((one a).snoc b) (some ⟨w.heap.size+1+1+1,0,none⟩)/\Below w.heap.size w wx/\wx.cell? ⟨w.heap.size+1+1,0,none⟩=some (.int .i64 (k:Nat))/\wx.cell? ⟨w.heap.size+1+1,1,none⟩=some (.int .i64 0)/\wx.cell? ⟨w.heap.size+1+1,2,none⟩=some (stv [])/\wx.cell? ⟨w.heap.size+1+1,3,none⟩=some (.slice (some ⟨w.heap.size+1+1+1,0,none⟩) 2 2)/\wx.cell? ⟨w.heap.size+1+1,4,none⟩=some (.int .i64 at0)):=fun wx e=>by
  subst e;exact⟨hS,hB,u0,u1,u2,u3,u4⟩
 clear hS hB hZ hZ2 u0 u1 u2 u3 u4 s1 s2 s3 l2 ha hb;unfold exV;go_enter Tryz.func68,Tryz.ntmps68;go_wp2;obtain⟨f1,f2,u0,u1,u2,u3,u4⟩:=FIN.out _ rfl;exact bodyPost_ret (v:=exV ⟨(k:Nat),0,[],at0,(one a).snoc b⟩ (some ⟨w.heap.size+1+1+1,0,none⟩) 2) (by simp[results,Tryz.results68,go_sem,exV];rfl) rfl ⟨_,_,rfl,f1,f2⟩
def sgW:Nat->List (List UInt8)
 | 1=>[[111,114]]
 | 2=>[[97,110,100]]
 | 4=>[[61],[33,61],[60,61],[60]]
 | 5=>[[43],[45]]
 | _=>[[42],[47],[37]]
def sgK:Nat->List Nat
 | 1=>[18]
 | 2=>[17]
 | 4=>[13,14,16,15]
 | 5=>[8,9]
 | _=>[10,11,12]
def Sg (w:World)(row:Nat)(w':World)(g1 g2:Nat):Prop:=Wl w (sgW row) w' g1/\w.heap.size<=g2/\g2<w'.heap.size/\∀ j k,(sgK row)[j]?=some k->w'.cell? ⟨g2,j,none⟩=some (.int .i64 (k:Nat))
theorem D5 (w:World)(row:Nat)(t1 t2:TypeId):Sg w row ((w.alloc (.cells ((sgW row).map stv).toArray t1)).alloc (.cells ((sgK row).map (fun k=>Value.int .i64 (k:Nat))).toArray t2)) w.heap.size (w.heap.size+1):=by
 obtain⟨h1,h2,h3,h4⟩:=iS w (sgW row) t1;have hs:(w.alloc (.cells ((sgW row).map stv).toArray t1)).heap.size=w.heap.size+1:=by simp
 refine⟨⟨h1.alloc (by omega) _,h2,by simp;omega,fun j s hj=>?_⟩,by omega,by simp,fun j k hj=>?_⟩
 ·exact(World.cell?_of_block (a:=⟨w.heap.size,j,none⟩) (Below.heap_alloc _ _ _ h3)).trans (h4 j s hj)
 ·have hh:=heap_alloc_new (w.alloc (.cells ((sgW row).map stv).toArray t1)) (.cells ((sgK row).map (fun k=>Value.int .i64 (k:Nat))).toArray t2);rw[hs] at hh;rw[cell_of_row _ _ _ _ _ (0,0) hh];simp[hj]
theorem Ep (w:World)(row:Nat)(t1 t2:TypeId):Sg w row ((w.alloc (.cells ((sgK row).map (fun k=>Value.int .i64 (k:Nat))).toArray t2)).alloc (.cells ((sgW row).map stv).toArray t1)) (w.heap.size+1) w.heap.size:=by
 have hs:(w.alloc (.cells ((sgK row).map (fun k=>Value.int .i64 (k:Nat))).toArray t2)).heap.size=w.heap.size+1:=by simp
 obtain⟨h1,h2,h3,h4⟩:=iS (w.alloc (.cells ((sgK row).map (fun k=>Value.int .i64 (k:Nat))).toArray t2)) (sgW row) t1;rw[hs] at h2 h3 h4;have b1:Below w.heap.size w (w.alloc (.cells ((sgK row).map (fun k=>Value.int .i64 (k:Nat))).toArray t2)):=(Below.refl _ w).alloc (Nat.le_refl _) _;refine⟨⟨b1.trans (h1.mono (by omega)),by omega,h3,h4⟩,by omega,by omega,fun j k hj=>?_⟩;have hh:=heap_alloc_new w (.cells ((sgK row).map (fun k=>Value.int .i64 (k:Nat))).toArray t2);have hh2:=(Below.heap_alloc (w.alloc (.cells ((sgK row).map (fun k=>Value.int .i64 (k:Nat))).toArray t2)) (.cells ((sgW row).map stv).toArray t1) _ (lt_of_block hh)).trans hh;rw[cell_of_row _ _ _ _ _ (0,0) hh2];simp[hj]
theorem tg (w:World)(row n:Nat)(hr:row=1\/row=2\/row=4\/row=5\/row=6)(hn:n=(sgW row).length) :
  Calls Tryz.prog 66 #[.int .i64 (row:Nat)] w fun e w'=>∃g1 g2,e=.returned (.tuple #[.slice (some ⟨g1,0,none⟩) n n,.slice (some ⟨g2,0,none⟩) n n])/\Sg w row w' g1 g2:=by
 have H1:=Lib.hid (fun w2:World=>D5 w2 row 9 3);have H2:=Lib.hid (fun w2:World=>Ep w2 row 9 3);rcases hr with rfl|rfl|rfl|rfl|rfl
 all_goals
  subst hn;go_enter Tryz.func66,Tryz.ntmps66;go_wp2;go_ret2;exact⟨_,_,rfl,H1.out w⟩
theorem xh (k:Nat)(hk:k<10):((UInt8.ofNat (48+k)).toNat:Int)=48+(k:Int):=by
 rw[UInt8.toNat_ofNat'];omega
theorem pR (w:World)(b k:Nat)(hk:k<10)(hb:w.heap[b]?=some (.cells #[.int .u8 (48+(k:Int))] 5 (0,0))) :
  (convert 180 9 (.slice (some ⟨b,0,none⟩) 1 1)).run Tryz.prog w=.ok (.string ⟨#[UInt8.ofNat (48+k)]⟩) w :=
 run_convert_bytes_back _ 180 9 5 ⟨b,0,none⟩ 1 [UInt8.ofNat (48+k)] Tryz.underlying180 Tryz.underlying5 Tryz.underlying9
  (fun j hj=>by
   have e:j=0:=by simp at hj;omega
   subst e
   have:=xh k hk
   simp only[List.getElem_cons_zero];rw[this];show w.cell? ⟨b,0+0,none⟩=_;rw[cell_of_row w b _ _ _ (0,0) hb];rfl)
theorem AH (l:List UInt8)(c:UInt8):(⟨l.toArray⟩:ByteArray)++⟨#[c]⟩=⟨(l++[c]).toArray⟩:=by
 apply ByteArray.ext;simp
def tG (n:Nat):Prop:=∀ w:World,Calls Tryz.prog 271 #[.int .i64 (n:Nat)] w fun e w'=>e=.returned (stv (Go.Lib.decDigits n))/\Below w.heap.size w w'
theorem mT (n:Nat)(h:n<10):tG n:=by
 intro w;rw[Go.Lib.decDigits,dif_pos h];have B0:Below w.heap.size w (w.alloc (.cells #[.int .u8 (48+(n:Int))] 5)):=(Below.refl _ w).alloc (Nat.le_refl _) _;have F0:=pR (w.alloc (.cells #[.int .u8 (48+(n:Int))] 5)) w.heap.size n h (heap_alloc_new w _);obtain⟨c,hc⟩:∃c,c=UInt8.ofNat (48+n):=⟨_,rfl⟩
 rw[<-hc] at F0 ⊢;clear hc;have hI:(n:Int)<10:=by omega
 have hw:IntKind.u8.wrap (48+(n:Int))=48+(n:Int):=by show (48+(n:Int)) % 256=_;omega
 go_enter Tryz.func271,Tryz.ntmps271;go_wp2;go_ret;exact⟨rfl,B0⟩
theorem Aq (n:Nat)(h:¬n<10)(hn:n<=9223372036854775807)(IH:tG (n / 10)):tG n:=by
 intro w;rw[Go.Lib.decDigits,dif_neg h];have hm:n % 10<10:=Nat.mod_lt _ (by omega);have HT:Hid (∀ (wx:World) (b:Nat),wx.heap[b]?=some (.cells #[.int .u8 (48+((n % 10:Nat):Int))] 5 (0,0))->(convert 180 9 (.slice (some ⟨b,0,none⟩) 1 1)).run Tryz.prog wx=.ok (.string ⟨#[UInt8.ofNat (48+n % 10)]⟩) wx):=fun wx b hb=>pR wx b (n % 10) hm hb;have IH:=fun wx=>IH wx;have e1:IntKind.i64.wrap (Int.tdiv (n:Int) 10)=((n / 10:Nat):Int):=by rw[IntKind.wrap_i64,show Int.tdiv (n:Int) 10=((n / 10:Nat):Int) from rfl];omega
 have e2:IntKind.i64.wrap (Int.tmod (n:Int) 10)=((n % 10:Nat):Int):=by rw[IntKind.wrap_i64,show Int.tmod (n:Int) 10=((n % 10:Nat):Int) from rfl];omega
 have e3:Int.tdiv (n:Int) 10=((n / 10:Nat):Int):=rfl;have e4:Int.tmod (n:Int) 10=((n % 10:Nat):Int):=rfl;obtain⟨q,hq⟩:∃q,q=n / 10:=⟨_,rfl⟩
 obtain⟨r,hr⟩:∃r,r=n % 10:=⟨_,rfl⟩
 rw[<-hq] at IH e1 e3 ⊢;rw[<-hr] at HT e2 e4 hm ⊢;obtain⟨c,hc⟩:∃c,c=UInt8.ofNat (48+r):=⟨_,rfl⟩
 rw[<-hc] at HT ⊢;obtain⟨L,hL⟩:∃L,L=Go.Lib.decDigits q:=⟨_,rfl⟩
 have hl9:L.length<=21:=by
  have h9:=Go.Lib.itoa_length_le (q:Nat) (by omega) (by omega);unfold Go.Lib.itoa at h9;rw[if_neg (by omega),Int.toNat_natCast,<-hL] at h9;exact h9
 have hsm:=fF L;rw[<-hL] at IH ⊢;have HN:Hid (n<=9223372036854775807):=hn;have hq1:IntKind.i64.wrap (q:Int)=(q:Int):=by rw[IntKind.wrap_i64];omega
 have hr1:IntKind.i64.wrap (48+(r:Int))=48+(r:Int):=by rw[IntKind.wrap_i64];omega
 clear hq hr hc hL e1 e2;have hI:¬(n:Int)<10:=by omega
 have hw:IntKind.u8.wrap (48+(r:Int))=48+(r:Int):=by show (48+(r:Int)) % 256=_;omega
 have F1:=HT.out ((w.alloc (.cells #[.int .u8 (48+(r:Int))] 5)).drew) w.heap.size (heap_alloc_new w _);have B0:Below w.heap.size w (w.alloc (.cells #[.int .u8 (48+(r:Int))] 5)).drew:=((Below.refl _ w).alloc (Nat.le_refl _) _).drew;have hs0:w.heap.size<(w.alloc (.cells #[.int .u8 (48+(r:Int))] 5)).drew.heap.size:=by show w.heap.size<(w.alloc _).heap.size;simp
 have hbl:((w.alloc (.cells #[.int .u8 (48+(r:Int))] 5)).drew).heap[w.heap.size]?=some (.cells #[.int .u8 (48+(r:Int))] 5 (0,0)):=heap_alloc_new w _;have Hbl:=Lib.hid hbl;clear hbl;have HC:Hid (((⟨L.toArray⟩:ByteArray)++⟨#[c]⟩)=⟨(L++[c]).toArray⟩):=AH L c;go_enter Tryz.func271,Tryz.ntmps271;go_upto_region 3 with fail;go_region_with ((first|(go_at_call 271;refine(IH w.drew).mono ?_;rintro e w1 ⟨rfl,b1⟩;have B1:Below w.heap.size w w1:=(Below.refl _ w).drew.trans b1;have B2:Below w.heap.size w (w1.alloc (.cells #[.int .u8 (48+(r:Int))] 5)):=B1.alloc B1.size _;have F2:=HT.out (w1.alloc (.cells #[.int .u8 (48+(r:Int))] 5)) w1.heap.size (heap_alloc_new w1 _))|(go_at_call 271;refine(IH ((w.alloc (.cells #[.int .u8 (48+(r:Int))] 5)).drew)).mono ?_;rintro e w1 ⟨rfl,b1⟩;have B2:Below w.heap.size w w1:=B0.trans (b1.mono B0.size);have F2:=HT.out w1 w.heap.size ((b1.block _ hs0).trans Hbl.out))))
 all_goals
  rw[HC.out];go_wp2;go_ret;exact⟨rfl,B2⟩
theorem tM:∀ (m n:Nat),n<=m->n<=9223372036854775807->tG n
 | 0,n,hm,hn=>mT n (by omega)
 | m+1,n,hm,hn=>by
  by_cases h:n<10
  ·exact mT n h
  ·exact Aq n h hn (tM m (n / 10) (by omega) (by omega))
theorem pD (n:Int)(h0:0<=n)(h1:n<=9223372036854775807)(w:World):Calls Tryz.prog 271 #[.int .i64 n] w fun e w'=>e=.returned (stv (Go.Lib.itoa n))/\Below w.heap.size w w':=by
 have h:=tM n.toNat n.toNat (Nat.le_refl _) (by omega) w;rw[show ((n.toNat:Nat):Int)=n by omega] at h;have e:Go.Lib.itoa n=Go.Lib.decDigits n.toNat:=by unfold Go.Lib.itoa;rw[if_neg (by omega)]
 rw[e];exact h
theorem Bk (x:List UInt8 × Nat × Nat × Nat × Nat)(hx:x ∈ eE):(x.2.2.1=1\/x.2.2.1=2\/x.2.2.1=4\/x.2.2.1=5\/x.2.2.1=6)/\∃i,i<4/\(sgW x.2.2.1)[i]?=some x.1/\(sgK x.2.2.1)[i]?=some x.2.1/\(∀ j,j<i->(sgK x.2.2.1)[j]?≠some x.2.1)/\∀ r,r<x.2.2.1->r≠3->r≠0->∀ j,j<4->(sgK r)[j]?≠some x.2.1:=by
 simp only[eE,List.mem_cons,List.not_mem_nil,or_false] at hx;rcases hx with rfl|rfl|rfl|rfl|rfl|rfl|rfl|rfl|rfl|rfl|rfl
 ·exact⟨by decide,0,by decide,rfl,rfl,by decide,by decide⟩
 ·exact⟨by decide,0,by decide,rfl,rfl,by decide,by decide⟩
 ·exact⟨by decide,0,by decide,rfl,rfl,by decide,by decide⟩
 ·exact⟨by decide,1,by decide,rfl,rfl,by decide,by decide⟩
 ·exact⟨by decide,3,by decide,rfl,rfl,by decide,by decide⟩
 ·exact⟨by decide,2,by decide,rfl,rfl,by decide,by decide⟩
 ·exact⟨by decide,0,by decide,rfl,rfl,by decide,by decide⟩
 ·exact⟨by decide,1,by decide,rfl,rfl,by decide,by decide⟩
 ·exact⟨by decide,0,by decide,rfl,rfl,by decide,by decide⟩
 ·exact⟨by decide,1,by decide,rfl,rfl,by decide,by decide⟩
 ·exact⟨by decide,2,by decide,rfl,rfl,by decide,by decide⟩
theorem wO (r:Nat):(sgK r).length=(sgW r).length/\(sgW r).length<=4:=by
 unfold sgK sgW;split<;>exact⟨rfl,by decide⟩
theorem CM {k:Int}{x:List UInt8 × Nat × Nat × Nat × Nat}(h:dS k=some x)(w:World):Calls Tryz.prog 275 #[.int .i64 k] w fun e w'=>e=.returned (stv x.1)/\Below w.heap.size w w':=by
 have hm:=List.mem_of_find?_eq_some h;have hk:((x.2.1:Nat):Int)=k:=by have:=List.find?_some h;simpa using this
 obtain⟨hr,ix,hix,hw,hkk,hj,hrow⟩:=Bk x hm;obtain⟨x1,x2,r,x4,x5⟩:=x;simp only at hk hr hw hkk hj hrow ⊢;subst hk;have HW:Hid ((sgW r)[ix]?=some x1):=hw;have HK:Hid ((sgK r)[ix]?=some x2):=hkk;have HJ:Hid (∀ j,j<ix->(sgK r)[j]?≠some x2):=hj;have HR:Hid (∀ r',r'<r->r'≠3->r'≠0->∀ j,j<4->(sgK r')[j]?≠some x2):=hrow;have hr7:r<7:=by omega
 have HR3:Hid (r≠3):=by show r≠3;omega
 have B0:=Below.refl w.heap.size w;clear hw hkk hj hrow hm h;go_enter Tryz.func275,Tryz.ntmps275;go_wp2_with fail;go_loopw [3] (fun v wr=>∃row:Nat,v=.int .i64 (row:Nat)/\1<=row/\row<=r/\Below w.heap.size w wr) (fun v _=>8-(intOf v).toNat)
 case atStart=>exact⟨1,by go_num,by omega,by omega,B0⟩
 case round =>
  clear B0;obtain⟨row,rfl,h1,hle,B1⟩:=hrel;have hrI:(row:Int)<7:=by omega
  by_cases h3:row=3
  ·subst h3;have hlt:3<r:=by have:=HR3.out;omega
   go_wp2;go_roundw
   case rel=>(try ((repeat apply Exists.intro);refine⟨?_,rfl⟩));exact⟨4,by go_num,by omega,by omega,B1⟩
   case measure=>simp[intOf]
  ·have b3:((row:Int)==3)=false:=by simp;omega
   obtain⟨n,hn⟩:∃n,n=(sgW row).length:=⟨_,rfl⟩
   have c:=tg wr row n (by omega) hn;have HN:Hid (n=(sgW row).length):=hn;have hn4:n<=4:=by rw[hn];exact(wO row).2
   have H3:Hid (row≠3):=h3;clear hn h3 hr;go_wp2_with fail;refine c.mono ?_;rintro e w2 ⟨g1,g2,rfl,sg⟩;have B2:Below w.heap.size w w2:=B1.trans (sg.1.1.mono B1.size);have SG:Hid (g1<w2.heap.size/\g2<w2.heap.size/\(∀ j s,(sgW row)[j]?=some s->w2.cell? ⟨g1,j,none⟩=some (stv s))/\∀ j k,(sgK row)[j]?=some k->w2.cell? ⟨g2,j,none⟩=some (.int .i64 (k:Nat))):=⟨sg.1.2.2.1,sg.2.2.1,sg.1.2.2.2,sg.2.2.2⟩
   clear c sg B1;go_wp2_with fail;go_loopw [6] (fun v wr=>∃i:Nat,v=.int .i64 (i:Nat)/\i<=n/\Hid (row=r->i<=ix)/\wr=w2) (fun v _=>n-(intOf v).toNat)
   case atStart=>exact⟨0,by go_num,by omega,fun _=>Nat.zero_le _,rfl⟩
   case round =>
    obtain⟨i,rfl,hin,HI,rfl⟩:=hrel;by_cases hlt:i<n
    ·have hiI:(i:Int)<(n:Int):=by omega
     have hl:=wO row;obtain⟨kk,hkk⟩:∃kk,(sgK row)[i]?=some kk:=⟨_,List.getElem?_eq_getElem (by rw[hl.1,<-HN.out];exact hlt)⟩
     obtain⟨s,hs⟩:∃s,(sgW row)[i]?=some s:=⟨_,List.getElem?_eq_getElem (by rw[<-HN.out];exact hlt)⟩
     have ck:=SG.out.2.2.2 i kk hkk;have cs:=SG.out.2.2.1 i s hs;by_cases hy:row=r/\i=ix
     ·have e1:kk=x2:=by
       have:=HK.out
       rw[<-hy.1,<-hy.2,hkk] at this;injection this
      have e2:s=x1:=by
       have:=HW.out
       rw[<-hy.1,<-hy.2,hs] at this;injection this
      subst e1 e2;clear hy hkk hs hl;go_wp2;go_ret;exact⟨rfl,B2⟩
     ·have hne:kk≠x2:=fun e=>by
       rw[e] at hkk;by_cases hrr:row=r
       ·have hi2:i<ix:=by
         have:=HI.out hrr
         have:i≠ix:=fun e=>hy ⟨hrr,e⟩
         omega
        exact HJ.out i hi2 (by rw[<-hrr];exact hkk)
       ·exact HR.out row (by omega) H3.out (by omega) i (by omega) hkk
      have bne2:((kk:Int)==(x2:Int))=false:=by simp;omega
      have HI2:Hid (row=r->i+1<=ix):=fun e=>by
       have:=HI.out e
       have:i≠ix:=fun e2=>hy ⟨e,e2⟩
       omega
      clear hy hkk hs hl hne HI;go_wp2;go_roundw
      case rel=>(try ((repeat apply Exists.intro);refine⟨?_,rfl⟩));exact⟨i+1,by go_num,by omega,HI2,by trivial⟩
      case measure=>simp[intOf];omega
    ·obtain rfl:i=n:=by omega
     have hlt2:row<r:=by
      by_cases e:row=r
      ·have h5:=HI.out e;have h6:ix<(sgW r).length:=(List.getElem?_eq_some_iff.1 HW.out).1;have h7:=HN.out;rw[e] at h7;omega
      ·omega
     clear HI;go_wp2;go_roundw
     case rel=>(try ((repeat apply Exists.intro);refine⟨?_,rfl⟩));exact⟨row+1,by go_num,by omega,by omega,B2⟩
     case measure=>simp[intOf];omega
abbrev bxX (e:Ex)(ao:Option Addr)(cap:Nat):Obj:=.cells #[.int .i64 e.k,.int .i64 e.n,stv e.nm,.slice ao e.kids.len cap,.int .i64 e.a] 25
def gp (N:Nat):Prop:=∀ (e:Ex) (ao:Option Addr) (cap:Nat) (set:Bool) (wb:Nat) (st:Ow) (w:World) (o:Nat->Nat),e.kids.size<N->e.fit->Sl w (L0 o) e.kids ao->WQ w o wb st ->
 Calls Tryz.prog 227 #[.pointer (some ⟨wb,0,none⟩),exV e ao cap,.bool set] w (eQ w o wb (oEx e set st))
theorem WQ.stp0 {w w':World}{o o':Nat->Nat}{wb:Nat}{st:Ow}(h:WQ w o wb st)(s:aa (fun _=>False) w o w' o'):WQ w' o' wb st:=h.step s id id
theorem Sl.stp0 {w w':World}{o o':Nat->Nat}{f:Fs}{ao:Option Addr}(h:Sl w (L0 o) f ao)(s:aa (fun _=>False) w o w' o'):Sl w' (L0 o') f ao:=h.mono (fun i hp hl=>s.block i hl id) s.size (fun i hp hl=>(s.lab i hl).trans hp)
theorem yF (w:World)(o:Nat->Nat)(n:Nat):aa (fun _=>False) w o (w.drewN n) o:=(aa.refl _ w o).drewN n
theorem aa.i12 {w w':World}{o o':Nat->Nat}(s:aa (fun _=>False) w o w' o'):aa I12 w o w' o':=s.mono fun _ h=>h.elim
theorem eK {st s:Ow}(h:Bal (aU st) s):∀ x,s=some x->1<=x.o:=fun x hx=>by
 obtain⟨y,hy,h1,_⟩:=h x hx
 match st,hy with
 | some z,hy =>
  simp only[aU] at hy;split at hy
  ·cases hy
  ·injection hy with hy
   subst hy;show 1<=x.o;rw[h1];show 1<=z.o+1;omega
theorem Bal.refl (st:Ow):Bal st st:=fun s h=>⟨s,h,rfl,rfl⟩
theorem Bal.trans {a b c:Ow}(h:Bal a b)(k:Bal b c):Bal a c:=fun s hs=>by
 obtain⟨y,hy,h1,h2⟩:=k s hs;obtain⟨z,hz,h3,h4⟩:=h y hy;exact⟨z,hz,h1.trans h3,h2.trans h4⟩
theorem Bal.put {a b:Ow}(h:Bal a b)(x:List UInt8):Bal a (aM x b):=h.trans fun s hs=>by
 match b,hs with
 | some z,hs =>
  simp only[aM] at hs;split at hs
  ·cases hs
  ·injection hs with hs
   subst hs;exact⟨z,rfl,rfl,rfl⟩
theorem Bal.lea {a b:Ow}(h:Bal (aU a) b):Bal a (dN b):=fun s hs=>by
 match b,h,hs with
 | some z,h,hs =>
  injection hs with hs
  subst hs;obtain⟨y,hy,h1,h2⟩:=h z rfl
  match a,hy with
  | some u,hy =>
   simp only[aU] at hy;split at hy
   ·cases hy
   ·injection hy with hy
    subst hy;exact⟨u,rfl,by show z.o-1=u.o;rw[h1];show u.o+1-1=_;omega,h2⟩
theorem Bal.qle {a b:Ow}(h:Bal (fY a) b):Bal a (qG b):=fun s hs=>by
 match b,h,hs with
 | some z,h,hs =>
  injection hs with hs
  subst hs;obtain⟨y,hy,h1,h2⟩:=h z rfl
  match a,hy with
  | some u,hy =>
   simp only[fY] at hy;split at hy
   ·cases hy
   ·injection hy with hy
    subst hy;exact⟨u,rfl,h1,by show z.q-1=u.q;rw[h2];show u.q+1-1=_;omega⟩
theorem Ba {st s:Ow}(h:Bal (fY st) s):∀ x,s=some x->1<=x.q:=fun x hx=>by
 obtain⟨y,hy,_,h1⟩:=h x hx
 match st,hy with
 | some z,hy =>
  simp only[fY] at hy;split at hy
  ·cases hy
  ·injection hy with hy
   subst hy;show 1<=x.q;rw[h1];show 1<=z.q+1;omega
theorem yq {k n:Int}{nm:List UInt8}{K:Sep->Ow->Ow}(hK:∀ g s,Bal s (K g s))(s:Ow):Bal s (bi k n nm K s):=by
 have lst:∀ (x y:List UInt8) (s:Ow),Bal s (gi x y K s):=fun x y s=>(Bal.lea (((Bal.refl (aU s)).put x).trans (hK _ _))).put y;unfold bi;split
 ·exact Bal.lea (hK _ _)
 ·split
  ·exact Bal.lea (hK _ _)
  ·split
   ·exact Bal.lea (hK _ _)
   ·split
    ·exact Bal.qle (Bal.lea (hK _ _))
    ·split
     ·exact((Bal.refl s).put _).trans (lst _ _ _)
     ·split
      ·exact((Bal.refl s).put _).trans (lst _ _ _)
      ·split
       ·exact lst _ _ _
       ·unfold eD;split
        ·exact(Bal.refl s).put _
        ·split
         ·exact(Bal.refl s).put _
         ·split
          ·exact(Bal.refl s).put _
          ·split
           ·exact(Bal.refl s).put _
           ·split
            ·exact(Bal.refl s).put _
            ·exact hK _ _
theorem ml {k n:Int}{nm:List UInt8}{len:Nat}{set:Bool}{K:Sep->Ow->Ow}(hK:∀ g s,Bal s (K g s))(s:Ow):Bal s (iv k n nm len set K s):=by
 unfold iv;split
 ·exact yq hK s
 ·intro x hx;cases hx
theorem By {k n:Int}{nm:List UInt8}{len asked:Nat}{set:Bool}{K:Sep->Ow->Ow}(hK:∀ g s,Bal s (K g s))(s:Ow):Bal s (oE k n nm len set asked K s):=by
 unfold oE;split
 ·exact(Bal.lea (((Bal.refl (aU s)).put _).trans (ml hK _))).put _
 ·exact ml hK s
theorem iR:∀ (f:Fs) (b:Bool) (g:Sep) (i:Nat) (s:Ow),Bal s (oFs f b g i s)
 | ⟨none⟩,b,g,i,s=>Bal.refl s
 | ⟨some ⟨k,n,nm,a,ks,r⟩⟩,b,g,i,s=>(((Bal.refl s).put _).trans (By (fun g s=>iR ks (k==21) g 0 s) _)).trans (iR r false g (i+1) _)
def dW (e y:Ex)(i:Nat)(st:Ow):Ow:=oE y.k y.n y.nm y.kids.len (e.k==21&&decide (i=0)) (iY e.k i) (fun g s=>oFs y.kids (y.k==21) g 0 s) st
theorem AL (y:Ex)(b:Bool)(s:Ow):Bal s (oEx y b s):=ml (fun g s=>iR _ _ _ _ _) s
theorem CK (k:Int)(i:Nat):(iY k i:Nat)<=8+i:=by
 unfold iY
 have:=qX k
 split
 ·omega
 ·split
  ·omega
  ·split<;>omega
theorem fy {N:Nat}(IH:gp N)(e y:Ex)(x r:Fs)(hk:e.kids=x.app (Fs.ex y r))(i:Nat)(hi:x.len=i)(hi9:i<=1000000000)(hN:y.kids.size<N)(hy:y.fit)(ao:Option Addr)(cap wb:Nat)(st:Ow)(w:World)(o:Nat->Nat)(S:Sl w (L0 o) e.kids ao)(H:WQ w o wb st) :
  Calls Tryz.prog 273 #[.pointer (some ⟨wb,0,none⟩),exV e ao cap,.int .i64 (i:Nat)] w (eQ w o wb (dW e y i st)):=by
 have hlen:i<e.kids.len:=by rw[hk,Fs.len_app,Cz];omega
 obtain⟨b,off,ak,ck,rfl,x0,x1,x2,x3,x4,SK⟩:=Sl.kidP (x:=x) (y:=y) (r:=r) (by rw[hk] at S;exact S) i hi;have hbl:b<w.heap.size:=by
  rcases S with h|⟨b',off',zs,he,hp,hlt,hc,hf⟩
  ·rw[hk] at h;cases x using Fs.on with
   | nil=>cases h
   | cons _ _ _ _ _ _=>cases h
  ·injection he with he;injection he with he;subst he;exact hlt
 obtain⟨w0,hw0⟩:∃w0,w0=(w.alloc (bxX e (some ⟨b,off,none⟩) cap)).alloc (bxX y ak ck):=⟨_,rfl⟩
 obtain⟨o0,ho0⟩:∃o0,o0=ae (w.alloc (bxX e (some ⟨b,off,none⟩) cap)) (ae w o 0) 0:=⟨_,rfl⟩
 have s0:aa (fun _=>False) w o w0 o0:=by rw[hw0,ho0];exact(aO _ w o _).trans (aO _ _ _ _)
 have E0:w0.heap[w.heap.size]?=some (bxX e (some ⟨b,off,none⟩) cap):=by
  rw[hw0];exact(Below.heap_alloc _ _ _ (by simp)).trans (heap_alloc_new w _)
 have Y0:w0.heap[w.heap.size+1]?=some (bxX y ak ck):=by
  rw[hw0]
  have:=heap_alloc_new (w.alloc (bxX e (some ⟨b,off,none⟩) cap)) (bxX y ak ck)
  simpa using this
 have l0:o0 w.heap.size=0:=by rw[ho0,aC (by simp),ax (Nat.le_refl _)]
 have l1:o0 (w.heap.size+1)=0:=by rw[ho0,ax (by simp)]
 have SK0:=SK.stp0 s0;have H0:=H.stp0 s0;have hiI:(i:Int)<(e.kids.len:Int):=by omega
 have hal:=CK e.k i;clear ho0 S SK H hk;rw[am];go_enter Tryz.func273,Tryz.ntmps273;go_upto_region 2 with fail;rw[<-hw0];clear hw0 x0 x1 x2 x3 x4;generalize w.heap.size=be at *;obtain⟨p0,p1,p2,p3,p4,pf⟩:=ai E0;obtain⟨y0,y1,y2,y3,y4,yf⟩:=ai Y0;have hrw:IntKind.i64.wrap ((dd y.k:Nat):Int)=((dd y.k:Nat):Int):=by have:=qX y.k;rw[IntKind.wrap_i64];omega
 go_quiet ((first|(go_at_call 290;exact Calls.quiet_of_same (BF _ _))|(go_at_call 291;exact Calls.quiet_of_same (Ae _ _ hi9 _))))
 have d1:=yF w0 o0 nq;have H1:=H0.stp0 d1;have SK1:=SK0.stp0 d1;have s1:=(s0.trans d1).i12;have E1:Blk (w0.drewN nq) o0 0 be (bxX e (some ⟨b,off,none⟩) cap):=⟨E0,l0⟩
 have Y1:Blk (w0.drewN nq) o0 0 (be+1) (bxX y ak ck):=⟨Y0,l1⟩
 clear H0 SK0 s0 d1 E0 Y0 l0 l1 p0 p1 p2 p3 p4 pf y0 y1 y2 y3 y4 yf;generalize w0.drewN nq=w1 at *;by_cases hrow:dd y.k<iY e.k i
 ·have hge:¬((iY e.k i:Nat):Int)<=((dd y.k:Nat):Int):=by omega
  have c2:=fi [40] H1 (by simp);have HF:Hid (dW e y i st=aM [41] (dN (oEx y false (aM [40] (aU st))))):=by show oE _ _ _ _ _ _ _ _=_;unfold oE;rw[if_pos hrow];rfl
  have hpos:∀ x,oEx y false (aM [40] (aU st))=some x->1<=x.o:=eK (((Bal.refl (aU st)).put [40]).trans (AL y false _));generalize aM [40] (aU st)=st2 at *;clear H1 hrow;go_wp2_with fail;refine c2.mono ?_;rintro e2 w2 ⟨rfl,o2,H2,s2⟩;have SK2:=SK1.stp s2;have Y2:=Y1.stp s2;have s2':=s1.trans s2;clear c2 s1 s2 E1 Y1 SK1;obtain⟨y0,y1,y2,y3,y4,yf⟩:=ai Y2.1;have c3:=IH y ak ck false wb st2 w2 o2 hN hy SK2 H2;rw[am] at c3;generalize oEx y false st2=st3 at *;go_wp2_with fail;refine c3.mono ?_;rintro e2 w3 ⟨rfl,o3,H3,s3⟩;have s3':=s2'.trans s3;obtain⟨oo,d1,df,s4,H4⟩:=H3.lea hpos;have s4':=s3'.trans s4;generalize dN st3=st4 at *;clear c3 s3 s3' s2' s4 H3 H2 SK2 Y2 y0 y1 y2 y3 y4 yf hpos;go_upto_region 7 with fail;generalize w3.setCell ⟨wb,1,none⟩ (.int .i64 (wrap64 (oo-1)))=w4 at *;clear d1 df;have c5:=cF [41] H4 (by simp);go_wp2_with fail;refine c5.mono ?_;rintro e2 w5 ⟨rfl,o5,H5,s5⟩;have s5':=s4'.trans s5;clear c5 s5 s4' H4;go_wp2
  go_end0
  exact⟨rfl,o5,by rw[HF.out];exact H5,s5'⟩
 ·have hge:((iY e.k i:Nat):Int)<=((dd y.k:Nat):Int):=by omega
  have HF:Hid (dW e y i st=oEx y (e.k==21&&decide (i=0)) st):=by show oE _ _ _ _ _ _ _ _=_;unfold oE;rw[if_neg hrow];rfl
  clear hrow;obtain⟨p0,p1,p2,p3,p4,pf⟩:=ai E1.1;obtain⟨y0,y1,y2,y3,y4,yf⟩:=ai Y1.1;by_cases h21:e.k=21
  ·have b21:(e.k==21)=true:=by simp[h21]
   by_cases h0:i=0
   ·have b0:((i:Int)==0)=true:=by simp[h0]
    have hset:(e.k==21&&decide (i=0))=true:=by simp[h21,h0]
    rw[hset] at HF;have c2:=IH y ak ck true wb st w1 o0 hN hy SK1 H1;rw[am] at c2;generalize oEx y true st=st3 at *;clear h21 h0 hset;go_wp2_with fail;refine c2.mono ?_;rintro e2 w2 ⟨rfl,o2,H2,s2⟩;have s2':=s1.trans s2;clear c2 s1 s2 H1 SK1 E1 Y1 p0 p1 p2 p3 p4 pf y0 y1 y2 y3 y4 yf;go_wp2
    (try simp only[Exit.inBlock,Exit.then])
    refine bodyPost_ret (results_none rfl _ _ _) rfl ?_;exact⟨rfl,o2,by rw[HF.out];exact H2,s2'⟩
   ·have b0:((i:Int)==0)=false:=by simp;omega
    have hset:(e.k==21&&decide (i=0))=false:=by simp[h0]
    rw[hset] at HF;have c2:=IH y ak ck false wb st w1 o0 hN hy SK1 H1;rw[am] at c2;generalize oEx y false st=st3 at *;clear h21 h0 hset;go_wp2_with fail;refine c2.mono ?_;rintro e2 w2 ⟨rfl,o2,H2,s2⟩;have s2':=s1.trans s2;clear c2 s1 s2 H1 SK1 E1 Y1 p0 p1 p2 p3 p4 pf y0 y1 y2 y3 y4 yf;go_wp2
    (try simp only[Exit.inBlock,Exit.then])
    refine bodyPost_ret (results_none rfl _ _ _) rfl ?_;exact⟨rfl,o2,by rw[HF.out];exact H2,s2'⟩
  ·have b21:(e.k==21)=false:=bne h21;have hset:(e.k==21&&decide (i=0))=false:=by simp[h21]
   rw[hset] at HF;have c2:=IH y ak ck false wb st w1 o0 hN hy SK1 H1;rw[am] at c2;generalize oEx y false st=st3 at *;clear h21 hset;go_wp2_with fail;refine c2.mono ?_;rintro e2 w2 ⟨rfl,o2,H2,s2⟩;have s2':=s1.trans s2;clear c2 s1 s2 H1 SK1 E1 Y1 p0 p1 p2 p3 p4 pf y0 y1 y2 y3 y4 yf;go_wp2
   (try simp only[Exit.inBlock,Exit.then])
   refine bodyPost_ret (results_none rfl _ _ _) rfl ?_;exact⟨rfl,o2,by rw[HF.out];exact H2,s2'⟩
theorem sJ {w:World}{o:Nat->Nat}{wb:Nat}{st:Ow}(h:WQ w o wb st):aM [] st=st:=by
 match st,h with
 | none,h=>rfl
 | some s,h =>
  have:=h.2.1
  simp only[aM,List.length_nil,List.append_nil];rw[if_neg (by omega)]
theorem mx (x:Ex)(r:Fs)(b:Bool)(g:Sep)(i:Nat)(s:Ow):oFs (Fs.ex x r) b g i s=oFs r false g (i+1) (oE x.k x.n x.nm x.kids.len b (g i).2 (fun g s=>oFs x.kids (x.k==21) g 0 s) (aM (g i).1 s)):=rfl
theorem ep (e y:Ex)(i:Nat)(s:Ow){flag:Bool}{asked:Nat}(h1:flag=(e.k==21&&decide (i=0)))(h2:asked=iY e.k i):oE y.k y.n y.nm y.kids.len flag asked (fun g s=>oFs y.kids (y.k==21) g 0 s) s=dW e y i s:=by subst h1 h2;rfl
theorem eL (e y:Ex)(i:Nat)(s:Ow):Bal s (dW e y i s):=By (fun g s=>iR _ _ _ _ _) s
theorem Fs.app_rng:∀ {x y:Fs},(x.app y).rng->y.rng
 | ⟨none⟩,y,h=>h
 | ⟨some ⟨k,n,nm,a,ks,r⟩⟩,y,h=>Fs.app_rng h.2.2.2
theorem Ex.kidfit {e:Ex}(h:e.fit){x:Fs}{y:Ex}{r:Fs}(hk:e.kids=x.app (Fs.ex y r)):y.fit:=by
 have h1:(Fs.ex y r).short:=Fs.app_short (by rw[<-hk];exact h.sh);have h2:(Fs.ex y r).rng:=Fs.app_rng (by rw[<-hk];exact h.rng);exact⟨h1.1,h1.2.2.1,h1.2.1,h2.1,h2.2.1,h2.2.2.1⟩
theorem pe:∀ (x:Fs) (y:Ex) (r:Fs),x.app (Fs.ex y r)=(x.snoc y).app r
 | ⟨none⟩,y,r=>by simp only[Fs.snoc,Fs.app,one];rfl
 | ⟨some ⟨k,n,nm,a,ks,rr⟩⟩,y,r=>by
  have:=pe rr y r
  simp only[Fs.snoc] at this ⊢;simp only[Fs.app];rw[this]
theorem oD {N:Nat}(IH:gp N)(e:Ex)(hek:e.k=20\/e.k=24\/e.k=25)(hN:e.kids.size<=N)(he:e.fit)(ao:Option Addr)(cap wb:Nat)(st:Ow)(w:World)(o:Nat->Nat)(S:Sl w (L0 o) e.kids ao)(H:WQ w o wb st) :
  Calls Tryz.prog 292 #[.pointer (some ⟨wb,0,none⟩),exV e ao cap] w (eQ w o wb (oFs e.kids (e.k==21) eT 0 st)):=by
 have h21:(e.k==21)=false:=bne (by omega);have hask:∀ i,iY e.k i=0:=fun i=>by rcases hek with h|h|h<;>rw[h]<;>rfl
 rw[h21];obtain⟨W,hW⟩:∃W,W=oFs e.kids false eT 0 st:=⟨_,rfl⟩
 rw[<-hW];have HW:Hid (oFs e.kids false eT 0 st=W):=hW.symm;have H21:Hid ((e.k==21)=false):=h21;have HA:Hid (∀ i,iY e.k i=0):=hask;have hlen:=he.len;have s0:=aO (fun _=>False) w o (bxX e ao cap);have E0:Blk (w.alloc (bxX e ao cap)) (ae w o 0) 0 w.heap.size (bxX e ao cap):=fC w o _ _;have S0:=S.stp0 s0;have H0:=H.stp0 s0;have T0:=s0.i12;clear hW h21 hask S H s0 hek;rw[am];go_enter Tryz.func292,Tryz.ntmps292;go_upto_region 1 with fail;generalize w.alloc (bxX e ao cap)=w0 at *;generalize ae w o 0=o0 at *;generalize w.heap.size=be at *;go_wp2_with fail;go_loopw [4] (fun v wr=>∃(done r:Fs) (u:Ow) (o':Nat->Nat),Hid (e.kids=done.app r)/\v=.int .i64 (done.len:Nat)/\Hid (oFs r false eT done.len u=W)/\WQ wr o' wb u/\Blk wr o' 0 be (.cells #[.int .i64 e.k,.int .i64 e.n,stv e.nm,.slice ao e.kids.len cap,.int .i64 e.a] 25 (0,0))/\Sl wr (L0 o') e.kids ao/\aa I12 w o wr o') (fun v _=>e.kids.len-(intOf v).toNat)
 case atStart=>exact⟨.nil,e.kids,st,o0,rfl,by show _=Value.int .i64 ((0:Nat):Int);rfl,HW,H0,E0,S0,T0⟩
 case round =>
  clear HW H0 E0 S0 T0;obtain⟨done,r,u,o3,hk,rfl,HU,H3,E3,S3,T3⟩:=hrel;have hlk:e.kids.len=done.len+r.len:=by rw[hk.out,Fs.len_app]
  obtain⟨p0,p1,p2,p3,p4,pf⟩:=ai E3.1;cases r using Fs.on with
  | nil =>
   have hl0:¬(done.len:Int)<(e.kids.len:Int):=by simp only[Fs.len] at hlk;omega
   have hu:u=W:=HU.out;subst hu;clear HU hlk;go_wp2
   go_end0
   exact⟨rfl,o3,H3,T3⟩
  | cons kk kn km ka kks kr =>
   have hl0:(done.len:Int)<(e.kids.len:Int):=by simp only[Fs.len] at hlk;omega
   obtain⟨c3,cf,-,-⟩:=H3.end;cases u with
   | none =>
    have hu:W=none:=by rw[<-HU.out];exact i8 _ _ _ _
    have c3:wr.cell? ⟨wb,3,none⟩=some (.bool false):=c3;subst hu;clear HU hlk;go_wp2
    go_end0
    exact⟨rfl,o3,H3,T3⟩
   | some u0 =>
    have c3:wr.cell? ⟨wb,3,none⟩=some (.bool true):=c3;obtain⟨y,hy⟩:∃y:Ex,y=⟨kk,kn,km,ka,kks⟩:=⟨_,rfl⟩
    have hk2:e.kids=done.app (Fs.ex y kr):=by rw[hk.out,hy];rfl
    have hyf:y.fit:=Ex.kidfit he hk2;have hyN:y.kids.size<N:=by
     have:e.kids.size=done.size+(y.kids.size+kr.size+1):=by rw[hk2,Fs.size_app];rfl
     omega
    have HU2:Hid (oFs kr false eT (done.len+1) (dW e y done.len (aM (eT done.len).1 (some u0)))=W):=by
     show _=W;rw[<-HU.out,<-ep e y done.len _ (flag:=false) (asked:=0) (by rw[H21.out];rfl) (HA.out _).symm,hy];rfl
    have HK9:Hid (e.kids=(done.snoc y).app kr):=by show _=_;rw[hk2,pe]
    have hlen1:done.len+1<=1000000000:=by simp only[Fs.len] at hlk;omega
    have HK2:=Lib.hid hk2;clear HU hy hlk hk2;by_cases hd:done.len=0
    ·have hd0:¬(0:Int)<(done.len:Int):=by omega
     have HU3:Hid (oFs kr false eT (done.len+1) (dW e y done.len (some u0))=W):=by
      show _=W;rw[<-HU2.out]
      have:(eT done.len).1=[]:=by unfold eT;simp[hd]
      rw[this,sJ H3]
     have c5:=fy IH e y done kr HK2.out done.len rfl (by omega) hyN hyf ao cap wb _ wr o3 S3 H3;rw[am] at c5;clear HU2 hd hyf hyN;generalize dW e y done.len (some u0)=u5 at *;go_wp2_with fail;refine c5.mono ?_;rintro e2 w5 ⟨rfl,o5,H5,s5⟩;have T5:=T3.trans s5;have S5:=S3.stp s5;have E5:=E3.stp s5;clear c5 H3 T3 S3 E3 s5 p0 p1 p2 p3 p4 pf c3 cf;go_wp2;go_roundw
     case rel=>(try ((repeat apply Exists.intro);refine⟨?_,rfl⟩));exact⟨done.snoc y,kr,u5,o5,HK9,by rw[Fs.len_snoc];go_num,by rw[Fs.len_snoc];exact HU3,H5,E5,S5,T5⟩
     case measure=>simp[intOf];omega
    ·have hd0:(0:Int)<(done.len:Int):=by omega
     have hcs:(eT done.len).1=[44,32]:=by unfold eT;simp[hd]
     rw[hcs] at HU2;have c4:=cF [44,32] H3 (by simp);generalize aM [44,32] (some u0)=u4 at *;clear hd hcs;go_wp2_with fail;refine c4.mono ?_;rintro e2 w4 ⟨rfl,o4,H4,s4⟩;have T4:=T3.trans s4;have S4:=S3.stp s4;have E4:=E3.stp s4;clear c4 H3 T3 S3 E3 s4 p0 p1 p2 p3 p4 pf c3 cf;obtain⟨p0,p1,p2,p3,p4,pf⟩:=ai E4.1;have c5:=fy IH e y done kr HK2.out done.len rfl (by omega) hyN hyf ao cap wb _ w4 o4 S4 H4;rw[am] at c5;clear hyf hyN;generalize dW e y done.len u4=u5 at *;go_wp2_with fail;refine c5.mono ?_;rintro e2 w5 ⟨rfl,o5,H5,s5⟩;have T5:=T4.trans s5;have S5:=S4.stp s5;have E5:=E4.stp s5;clear c5 H4 T4 S4 E4 s5 p0 p1 p2 p3 p4 pf;go_wp2;go_roundw
     case rel=>(try ((repeat apply Exists.intro);refine⟨?_,rfl⟩));exact⟨done.snoc y,kr,u5,o5,HK9,by rw[Fs.len_snoc];go_num,by rw[Fs.len_snoc];exact HU2,H5,E5,S5,T5⟩
     case measure=>simp[intOf];omega
end Go.Proofs.YtbjdkekhnajafaaGreatDoor

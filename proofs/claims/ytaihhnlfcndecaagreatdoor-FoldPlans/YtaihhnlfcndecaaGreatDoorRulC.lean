import Derived.Test.YtaihhnlfcndecaaGreatDoorRulB
namespace Go.Proofs.YtaihhnlfcndecaaGreatDoor
open Go.ChangeShapes Go.WideShapes Go.ChangeAt Go.RowKit
set_option linter.unusedVariables false
set_option linter.unusedSimpArgs false
def coE (e x y:Ex) (s:Int):Ex:=if isE x 2 s then x else if isE x 2 (1 - s) then y else if isE y 2 (1 - s) then x else e
set_option maxRecDepth 100000 in
set_option maxHeartbeats 1000000 in
theorem connective_c (e x y:Ex) (s:Int) (hs:s=0∨s=1) (ao:Option Addr) (cap:Nat) (P:Nat→Prop) (w:World) (hk:e.kids=.cons x.k x.n x.nm x.a x.kids (.cons y.k y.n y.nm y.a y.kids .nil)) (S:SlcN w P e.kids ao cap) :
  Calls Tryz.prog 112 #[exN e ao cap,.int .i64 s] w (PostRu w w P (coE e x y s)):=by
 have hl:e.kids.len=2:=by rw [hk];rfl
 have HL:Hid (e.kids.len=2):=hl
 have S1:=S
 rw [hk] at S1
 obtain ⟨b,a0,c0,rfl,hb,x0,x1,x2,x3,SX⟩:=SlcN.kidC (x:=.nil) S1
 obtain ⟨b',a1,c1,hb1,-,y0,y1,y2,y3,SY⟩:=SlcN.kidC (x:=.cons x.k x.n x.nm x.a x.kids .nil) S1
 cases hb1
 simp only [Fs.len,Fs.nil,Fs.cons,Nat.zero_mul,Nat.zero_add,Nat.reduceMul,Nat.reduceAdd] at x0 x1 x2 x3 y0 y1 y2 y3
 obtain ⟨w0,hw0⟩:∃ w0,w0=(w.alloc (.cells #[.int .i64 e.k,.int .i64 e.n,stv e.nm,.slice (some ⟨b,0,none⟩) 2 cap] 34)).alloc (.cells #[.int .i64 0,.int .i64 0,.string ⟨#[]⟩,.slice none 0 0] 34):=⟨_,rfl⟩
 have B0:Below w.heap.size w w0:=by rw [hw0];exact ((Below.refl _ w).alloc (Nat.le_refl _) _).alloc (by simp) _
 have E0:w0.heap[w.heap.size]?=some (.cells #[.int .i64 e.k,.int .i64 e.n,stv e.nm,.slice (some ⟨b,0,none⟩) 2 cap] 34):=by rw [hw0];exact (Below.heap_alloc _ _ _ (by simp)).trans (heap_alloc_new w _)
 have Z0:w0.heap[w.heap.size+1]?=some (.cells #[.int .i64 0,.int .i64 0,.string ⟨#[]⟩,.slice none 0 0] 34):=by
  rw [hw0]
  have:=heap_alloc_new (w.alloc (.cells #[.int .i64 e.k,.int .i64 e.n,stv e.nm,.slice (some ⟨b,0,none⟩) 2 cap] 34)) (.cells #[.int .i64 0,.int .i64 0,.string ⟨#[]⟩,.slice none 0 0] 34)
  simpa using this
 rw [exN_out,hl]
 go_enter Tryz.func112,Tryz.ntmps112
 go_upto_region 1 with fail
 rw [←hw0]
 obtain ⟨bx,hbx⟩:∃ bx,bx=w.heap.size:=⟨_,rfl⟩
 rw [←hbx] at E0 Z0 B0 hb ⊢
 have HB:Hid (bx=w.heap.size):=hbx
 clear hbx hw0 S1 hk hl
 have x0:=(B0.cell (p:=⟨b,0,none⟩) hb).trans x0
 have x1:=(B0.cell (p:=⟨b,1,none⟩) hb).trans x1
 have x2:=(B0.cell (p:=⟨b,2,none⟩) hb).trans x2
 have x3:=(B0.cell (p:=⟨b,3,none⟩) hb).trans x3
 have y0:=(B0.cell (p:=⟨b,4,none⟩) hb).trans y0
 have y1:=(B0.cell (p:=⟨b,5,none⟩) hb).trans y1
 have y2:=(B0.cell (p:=⟨b,6,none⟩) hb).trans y2
 have y3:=(B0.cell (p:=⟨b,7,none⟩) hb).trans y3
 have hb0:b < w0.heap.size:=Nat.lt_trans hb (lt_of_block E0)
 obtain ⟨p0,p1,p2,p3,pf⟩:=box4 E0
 have l1:bx < w0.heap.size:=lt_of_block E0
 have l2:bx < w0.heap.size+1:=Nat.lt_succ_of_lt l1
 have l3:b < w0.heap.size+1:=Nat.lt_succ_of_lt hb0
 have hs1:-9223372036854775808≤1 - s:=by omega
 have hs2:1 - s≤9223372036854775807:=by omega
 go_region
 ·obtain ⟨w1,hw1⟩:∃ w1,w1=((w0.alloc (.cells #[.int .i64 x.k,.int .i64 x.n,.string ⟨x.nm.toArray⟩,.slice a0 x.kids.len c0] 34)).alloc (.cells #[.int .i64 y.k,.int .i64 y.n,.string ⟨y.nm.toArray⟩,.slice a1 y.kids.len c1] 34)).drew:=⟨_,rfl⟩
  obtain ⟨p,hp⟩:∃ p,p=w0.heap.size:=⟨_,rfl⟩
  obtain ⟨q,hq⟩:∃ q,q=w0.heap.size+1:=⟨_,rfl⟩
  have B1:Below bx w w1:=by rw [hw1];exact ((B0.alloc (Nat.le_of_lt l1) _).alloc (by simp;omega) _).drew
  have D1:Below w0.heap.size w0 w1:=by rw [hw1];exact (((Below.refl _ w0).alloc (Nat.le_refl _) _).alloc (by simp) _).drew
  have E1:=(D1.block bx l1).trans E0
  have Z1:=(D1.block (bx+1) (lt_of_block Z0)).trans Z0
  have L1:w1.heap[p]?=some (.cells #[.int .i64 x.k,.int .i64 x.n,stv x.nm,.slice a0 x.kids.len c0] 34):=by
   rw [hw1,hp]
   exact (Below.heap_alloc _ _ _ (by simp)).trans (heap_alloc_new w0 _)
  have R1:w1.heap[q]?=some (.cells #[.int .i64 y.k,.int .i64 y.n,stv y.nm,.slice a1 y.kids.len c1] 34):=by
   rw [hw1,hq]
   exact by have:=heap_alloc_new (w0.alloc (.cells #[.int .i64 x.k,.int .i64 x.n,.string ⟨x.nm.toArray⟩,.slice a0 x.kids.len c0] 34)) (.cells #[.int .i64 y.k,.int .i64 y.n,.string ⟨y.nm.toArray⟩,.slice a1 y.kids.len c1] 34);rw [show (w0.alloc (.cells #[.int .i64 x.k,.int .i64 x.n,.string ⟨x.nm.toArray⟩,.slice a0 x.kids.len c0] 34)).heap.size=w0.heap.size+1 by simp] at this;exact this
  rw [←hw1,←hq,←hp]
  clear hw1 hp hq D1 B0 E0 Z0 l1 l2 l3 hb0 hb p0 p1 p2 p3 pf x0 x1 x2 x3 y0 y1 y2 y3
  have hc:=istru_c x a0 c0 (s) w1
  rw [exN_out] at hc
  obtain ⟨p0,p1,p2,p3,pf⟩:=box4 L1
  go_wp2_with fail
  refine hc.mono ?_
  rintro u w2 ⟨rfl,b2⟩
  have le:=lt_of_block E1
  have lz:=lt_of_block Z1
  have lp:=lt_of_block L1
  have lq:=lt_of_block R1
  have B2:Below bx w w2:=B1.trans (b2.mono (Nat.le_of_lt le))
  have E1:=(b2.block bx le).trans E1
  have Z1:=(b2.block (bx+1) lz).trans Z1
  have L1:=(b2.block p lp).trans L1
  have R1:=(b2.block q lq).trans R1
  clear hc b2 le lz lp lq p0 p1 p2 p3 pf B1
  cases h1:isE x 2 s with
  | true =>
   have hans:coE e x y s=x:=by simp [coE,h1]
   have BS:=(((B2.setCell (p:=⟨bx+1,0,none⟩) (Nat.le_succ _) (.int .i64 x.k)).setCell (p:=⟨bx+1,1,none⟩) (Nat.le_succ _) (.int .i64 x.n)).setCell (p:=⟨bx+1,2,none⟩) (Nat.le_succ _) (stv x.nm)).setCell (p:=⟨bx+1,3,none⟩) (Nat.le_succ _) (.slice a0 x.kids.len c0)
   have ES:=set4k (b0:=(.int .i64 x.k)) (b1:=(.int .i64 x.n)) (b2:=(stv x.nm)) (b3:=(.slice a0 x.kids.len c0)) Z1
   have HU:Hid (∃ wz,wz=(((w2.setCell ⟨bx+1,0,none⟩ (.int .i64 x.k)).setCell ⟨bx+1,1,none⟩ (.int .i64 x.n)).setCell ⟨bx+1,2,none⟩ (stv x.nm)).setCell ⟨bx+1,3,none⟩ (.slice a0 x.kids.len c0)∧wz.heap[bx+1]?=some (.cells #[(.int .i64 x.k),(.int .i64 x.n),(stv x.nm),(.slice a0 x.kids.len c0)] 34)∧Below bx w wz):=⟨_,rfl,ES,BS⟩
   obtain ⟨q0,q1,q2,q3,qf⟩:=box4 Z1
   obtain ⟨p0,p1,p2,p3,pf⟩:=box4 L1
   clear BS ES Z1 E1 L1 R1
   go_wp2
   obtain ⟨wz,hwz,EZ,BZ⟩:=HU.out
   rw [←hwz]
   obtain ⟨v0,v1,v2,v3,-⟩:=box4 EZ
   rw [HB.out] at BZ
   exact bodyPost_ret (v:=exN x a0 c0) (by simp [results,Tryz.results112,go_sem,v0,v1,v2,v3,exN]) rfl ⟨a0,c0,by rw [hans],by rw [hans];exact SX,BZ⟩
  | false =>
   have hc:=istru_c x a0 c0 (1 - s) w2
   rw [exN_out] at hc
   obtain ⟨p0,p1,p2,p3,pf⟩:=box4 L1
   go_wp2_with fail
   refine hc.mono ?_
   rintro u w3 ⟨rfl,b3⟩
   have le:=lt_of_block E1
   have lz:=lt_of_block Z1
   have lp:=lt_of_block L1
   have lq:=lt_of_block R1
   have B3:Below bx w w3:=B2.trans (b3.mono (Nat.le_of_lt le))
   have E1:=(b3.block bx le).trans E1
   have Z1:=(b3.block (bx+1) lz).trans Z1
   have L1:=(b3.block p lp).trans L1
   have R1:=(b3.block q lq).trans R1
   clear hc b3 le lz lp lq p0 p1 p2 p3 pf B2
   cases h2:isE x 2 (1 - s) with
   | true =>
    have hans:coE e x y s=y:=by simp [coE,h1,h2]
    have BS:=(((B3.setCell (p:=⟨bx+1,0,none⟩) (Nat.le_succ _) (.int .i64 y.k)).setCell (p:=⟨bx+1,1,none⟩) (Nat.le_succ _) (.int .i64 y.n)).setCell (p:=⟨bx+1,2,none⟩) (Nat.le_succ _) (stv y.nm)).setCell (p:=⟨bx+1,3,none⟩) (Nat.le_succ _) (.slice a1 y.kids.len c1)
    have ES:=set4k (b0:=(.int .i64 y.k)) (b1:=(.int .i64 y.n)) (b2:=(stv y.nm)) (b3:=(.slice a1 y.kids.len c1)) Z1
    have HU:Hid (∃ wz,wz=(((w3.setCell ⟨bx+1,0,none⟩ (.int .i64 y.k)).setCell ⟨bx+1,1,none⟩ (.int .i64 y.n)).setCell ⟨bx+1,2,none⟩ (stv y.nm)).setCell ⟨bx+1,3,none⟩ (.slice a1 y.kids.len c1)∧wz.heap[bx+1]?=some (.cells #[(.int .i64 y.k),(.int .i64 y.n),(stv y.nm),(.slice a1 y.kids.len c1)] 34)∧Below bx w wz):=⟨_,rfl,ES,BS⟩
    obtain ⟨q0,q1,q2,q3,qf⟩:=box4 Z1
    obtain ⟨p0,p1,p2,p3,pf⟩:=box4 R1
    clear BS ES Z1 E1 L1 R1
    go_wp2
    obtain ⟨wz,hwz,EZ,BZ⟩:=HU.out
    rw [←hwz]
    obtain ⟨v0,v1,v2,v3,-⟩:=box4 EZ
    rw [HB.out] at BZ
    exact bodyPost_ret (v:=exN y a1 c1) (by simp [results,Tryz.results112,go_sem,v0,v1,v2,v3,exN]) rfl ⟨a1,c1,by rw [hans],by rw [hans];exact SY,BZ⟩
   | false =>
    have hc:=istru_c y a1 c1 (1 - s) w3
    rw [exN_out] at hc
    obtain ⟨p0,p1,p2,p3,pf⟩:=box4 R1
    go_wp2_with fail
    refine hc.mono ?_
    rintro u w4 ⟨rfl,b4⟩
    have le:=lt_of_block E1
    have lz:=lt_of_block Z1
    have lp:=lt_of_block L1
    have lq:=lt_of_block R1
    have B4:Below bx w w4:=B3.trans (b4.mono (Nat.le_of_lt le))
    have E1:=(b4.block bx le).trans E1
    have Z1:=(b4.block (bx+1) lz).trans Z1
    have L1:=(b4.block p lp).trans L1
    have R1:=(b4.block q lq).trans R1
    clear hc b4 le lz lp lq p0 p1 p2 p3 pf B3
    cases h3:isE y 2 (1 - s) with
    | true =>
     have hans:coE e x y s=x:=by simp [coE,h1,h2,h3]
     have BS:=(((B4.setCell (p:=⟨bx+1,0,none⟩) (Nat.le_succ _) (.int .i64 x.k)).setCell (p:=⟨bx+1,1,none⟩) (Nat.le_succ _) (.int .i64 x.n)).setCell (p:=⟨bx+1,2,none⟩) (Nat.le_succ _) (stv x.nm)).setCell (p:=⟨bx+1,3,none⟩) (Nat.le_succ _) (.slice a0 x.kids.len c0)
     have ES:=set4k (b0:=(.int .i64 x.k)) (b1:=(.int .i64 x.n)) (b2:=(stv x.nm)) (b3:=(.slice a0 x.kids.len c0)) Z1
     have HU:Hid (∃ wz,wz=(((w4.setCell ⟨bx+1,0,none⟩ (.int .i64 x.k)).setCell ⟨bx+1,1,none⟩ (.int .i64 x.n)).setCell ⟨bx+1,2,none⟩ (stv x.nm)).setCell ⟨bx+1,3,none⟩ (.slice a0 x.kids.len c0)∧wz.heap[bx+1]?=some (.cells #[(.int .i64 x.k),(.int .i64 x.n),(stv x.nm),(.slice a0 x.kids.len c0)] 34)∧Below bx w wz):=⟨_,rfl,ES,BS⟩
     obtain ⟨q0,q1,q2,q3,qf⟩:=box4 Z1
     obtain ⟨p0,p1,p2,p3,pf⟩:=box4 L1
     clear BS ES Z1 E1 L1 R1
     go_wp2
     obtain ⟨wz,hwz,EZ,BZ⟩:=HU.out
     rw [←hwz]
     obtain ⟨v0,v1,v2,v3,-⟩:=box4 EZ
     rw [HB.out] at BZ
     exact bodyPost_ret (v:=exN x a0 c0) (by simp [results,Tryz.results112,go_sem,v0,v1,v2,v3,exN]) rfl ⟨a0,c0,by rw [hans],by rw [hans];exact SX,BZ⟩
    | false =>
     have hans:coE e x y s=e:=by simp [coE,h1,h2,h3]
     have BS:=(((B4.setCell (p:=⟨bx+1,0,none⟩) (Nat.le_succ _) (.int .i64 e.k)).setCell (p:=⟨bx+1,1,none⟩) (Nat.le_succ _) (.int .i64 e.n)).setCell (p:=⟨bx+1,2,none⟩) (Nat.le_succ _) (stv e.nm)).setCell (p:=⟨bx+1,3,none⟩) (Nat.le_succ _) (.slice (some ⟨b,0,none⟩) 2 cap)
     have ES:=set4k (b0:=(.int .i64 e.k)) (b1:=(.int .i64 e.n)) (b2:=(stv e.nm)) (b3:=(.slice (some ⟨b,0,none⟩) 2 cap)) Z1
     have HU:Hid (∃ wz,wz=(((w4.setCell ⟨bx+1,0,none⟩ (.int .i64 e.k)).setCell ⟨bx+1,1,none⟩ (.int .i64 e.n)).setCell ⟨bx+1,2,none⟩ (stv e.nm)).setCell ⟨bx+1,3,none⟩ (.slice (some ⟨b,0,none⟩) 2 cap)∧wz.heap[bx+1]?=some (.cells #[(.int .i64 e.k),(.int .i64 e.n),(stv e.nm),(.slice (some ⟨b,0,none⟩) 2 cap)] 34)∧Below bx w wz):=⟨_,rfl,ES,BS⟩
     obtain ⟨q0,q1,q2,q3,qf⟩:=box4 Z1
     obtain ⟨p0,p1,p2,p3,pf⟩:=box4 E1
     clear BS ES Z1 E1 L1 R1
     go_wp2
     obtain ⟨wz,hwz,EZ,BZ⟩:=HU.out
     rw [←hwz]
     obtain ⟨v0,v1,v2,v3,-⟩:=box4 EZ
     rw [HB.out] at BZ
     exact bodyPost_ret (v:=exN e (some ⟨b,0,none⟩) cap) (by simp [results,Tryz.results112,go_sem,v0,v1,v2,v3,exN,HL.out]) rfl ⟨(some ⟨b,0,none⟩),cap,by rw [hans],by rw [hans];exact S,BZ⟩
 ·obtain ⟨w1,hw1⟩:∃ w1,w1=((w0.alloc (.cells #[.int .i64 y.k,.int .i64 y.n,.string ⟨y.nm.toArray⟩,.slice a1 y.kids.len c1] 34)).alloc (.cells #[.int .i64 x.k,.int .i64 x.n,.string ⟨x.nm.toArray⟩,.slice a0 x.kids.len c0] 34)).drew:=⟨_,rfl⟩
  obtain ⟨p,hp⟩:∃ p,p=w0.heap.size+1:=⟨_,rfl⟩
  obtain ⟨q,hq⟩:∃ q,q=w0.heap.size:=⟨_,rfl⟩
  have B1:Below bx w w1:=by rw [hw1];exact ((B0.alloc (Nat.le_of_lt l1) _).alloc (by simp;omega) _).drew
  have D1:Below w0.heap.size w0 w1:=by rw [hw1];exact (((Below.refl _ w0).alloc (Nat.le_refl _) _).alloc (by simp) _).drew
  have E1:=(D1.block bx l1).trans E0
  have Z1:=(D1.block (bx+1) (lt_of_block Z0)).trans Z0
  have L1:w1.heap[p]?=some (.cells #[.int .i64 x.k,.int .i64 x.n,stv x.nm,.slice a0 x.kids.len c0] 34):=by
   rw [hw1,hp]
   exact by have:=heap_alloc_new (w0.alloc (.cells #[.int .i64 y.k,.int .i64 y.n,.string ⟨y.nm.toArray⟩,.slice a1 y.kids.len c1] 34)) (.cells #[.int .i64 x.k,.int .i64 x.n,.string ⟨x.nm.toArray⟩,.slice a0 x.kids.len c0] 34);rw [show (w0.alloc (.cells #[.int .i64 y.k,.int .i64 y.n,.string ⟨y.nm.toArray⟩,.slice a1 y.kids.len c1] 34)).heap.size=w0.heap.size+1 by simp] at this;exact this
  have R1:w1.heap[q]?=some (.cells #[.int .i64 y.k,.int .i64 y.n,stv y.nm,.slice a1 y.kids.len c1] 34):=by
   rw [hw1,hq]
   exact (Below.heap_alloc _ _ _ (by simp)).trans (heap_alloc_new w0 _)
  rw [←hw1,←hp,←hq]
  clear hw1 hp hq D1 B0 E0 Z0 l1 l2 l3 hb0 hb p0 p1 p2 p3 pf x0 x1 x2 x3 y0 y1 y2 y3
  have hc:=istru_c x a0 c0 (s) w1
  rw [exN_out] at hc
  obtain ⟨p0,p1,p2,p3,pf⟩:=box4 L1
  go_wp2_with fail
  refine hc.mono ?_
  rintro u w2 ⟨rfl,b2⟩
  have le:=lt_of_block E1
  have lz:=lt_of_block Z1
  have lp:=lt_of_block L1
  have lq:=lt_of_block R1
  have B2:Below bx w w2:=B1.trans (b2.mono (Nat.le_of_lt le))
  have E1:=(b2.block bx le).trans E1
  have Z1:=(b2.block (bx+1) lz).trans Z1
  have L1:=(b2.block p lp).trans L1
  have R1:=(b2.block q lq).trans R1
  clear hc b2 le lz lp lq p0 p1 p2 p3 pf B1
  cases h1:isE x 2 s with
  | true =>
   have hans:coE e x y s=x:=by simp [coE,h1]
   have BS:=(((B2.setCell (p:=⟨bx+1,0,none⟩) (Nat.le_succ _) (.int .i64 x.k)).setCell (p:=⟨bx+1,1,none⟩) (Nat.le_succ _) (.int .i64 x.n)).setCell (p:=⟨bx+1,2,none⟩) (Nat.le_succ _) (stv x.nm)).setCell (p:=⟨bx+1,3,none⟩) (Nat.le_succ _) (.slice a0 x.kids.len c0)
   have ES:=set4k (b0:=(.int .i64 x.k)) (b1:=(.int .i64 x.n)) (b2:=(stv x.nm)) (b3:=(.slice a0 x.kids.len c0)) Z1
   have HU:Hid (∃ wz,wz=(((w2.setCell ⟨bx+1,0,none⟩ (.int .i64 x.k)).setCell ⟨bx+1,1,none⟩ (.int .i64 x.n)).setCell ⟨bx+1,2,none⟩ (stv x.nm)).setCell ⟨bx+1,3,none⟩ (.slice a0 x.kids.len c0)∧wz.heap[bx+1]?=some (.cells #[(.int .i64 x.k),(.int .i64 x.n),(stv x.nm),(.slice a0 x.kids.len c0)] 34)∧Below bx w wz):=⟨_,rfl,ES,BS⟩
   obtain ⟨q0,q1,q2,q3,qf⟩:=box4 Z1
   obtain ⟨p0,p1,p2,p3,pf⟩:=box4 L1
   clear BS ES Z1 E1 L1 R1
   go_wp2
   obtain ⟨wz,hwz,EZ,BZ⟩:=HU.out
   rw [←hwz]
   obtain ⟨v0,v1,v2,v3,-⟩:=box4 EZ
   rw [HB.out] at BZ
   exact bodyPost_ret (v:=exN x a0 c0) (by simp [results,Tryz.results112,go_sem,v0,v1,v2,v3,exN]) rfl ⟨a0,c0,by rw [hans],by rw [hans];exact SX,BZ⟩
  | false =>
   have hc:=istru_c x a0 c0 (1 - s) w2
   rw [exN_out] at hc
   obtain ⟨p0,p1,p2,p3,pf⟩:=box4 L1
   go_wp2_with fail
   refine hc.mono ?_
   rintro u w3 ⟨rfl,b3⟩
   have le:=lt_of_block E1
   have lz:=lt_of_block Z1
   have lp:=lt_of_block L1
   have lq:=lt_of_block R1
   have B3:Below bx w w3:=B2.trans (b3.mono (Nat.le_of_lt le))
   have E1:=(b3.block bx le).trans E1
   have Z1:=(b3.block (bx+1) lz).trans Z1
   have L1:=(b3.block p lp).trans L1
   have R1:=(b3.block q lq).trans R1
   clear hc b3 le lz lp lq p0 p1 p2 p3 pf B2
   cases h2:isE x 2 (1 - s) with
   | true =>
    have hans:coE e x y s=y:=by simp [coE,h1,h2]
    have BS:=(((B3.setCell (p:=⟨bx+1,0,none⟩) (Nat.le_succ _) (.int .i64 y.k)).setCell (p:=⟨bx+1,1,none⟩) (Nat.le_succ _) (.int .i64 y.n)).setCell (p:=⟨bx+1,2,none⟩) (Nat.le_succ _) (stv y.nm)).setCell (p:=⟨bx+1,3,none⟩) (Nat.le_succ _) (.slice a1 y.kids.len c1)
    have ES:=set4k (b0:=(.int .i64 y.k)) (b1:=(.int .i64 y.n)) (b2:=(stv y.nm)) (b3:=(.slice a1 y.kids.len c1)) Z1
    have HU:Hid (∃ wz,wz=(((w3.setCell ⟨bx+1,0,none⟩ (.int .i64 y.k)).setCell ⟨bx+1,1,none⟩ (.int .i64 y.n)).setCell ⟨bx+1,2,none⟩ (stv y.nm)).setCell ⟨bx+1,3,none⟩ (.slice a1 y.kids.len c1)∧wz.heap[bx+1]?=some (.cells #[(.int .i64 y.k),(.int .i64 y.n),(stv y.nm),(.slice a1 y.kids.len c1)] 34)∧Below bx w wz):=⟨_,rfl,ES,BS⟩
    obtain ⟨q0,q1,q2,q3,qf⟩:=box4 Z1
    obtain ⟨p0,p1,p2,p3,pf⟩:=box4 R1
    clear BS ES Z1 E1 L1 R1
    go_wp2
    obtain ⟨wz,hwz,EZ,BZ⟩:=HU.out
    rw [←hwz]
    obtain ⟨v0,v1,v2,v3,-⟩:=box4 EZ
    rw [HB.out] at BZ
    exact bodyPost_ret (v:=exN y a1 c1) (by simp [results,Tryz.results112,go_sem,v0,v1,v2,v3,exN]) rfl ⟨a1,c1,by rw [hans],by rw [hans];exact SY,BZ⟩
   | false =>
    have hc:=istru_c y a1 c1 (1 - s) w3
    rw [exN_out] at hc
    obtain ⟨p0,p1,p2,p3,pf⟩:=box4 R1
    go_wp2_with fail
    refine hc.mono ?_
    rintro u w4 ⟨rfl,b4⟩
    have le:=lt_of_block E1
    have lz:=lt_of_block Z1
    have lp:=lt_of_block L1
    have lq:=lt_of_block R1
    have B4:Below bx w w4:=B3.trans (b4.mono (Nat.le_of_lt le))
    have E1:=(b4.block bx le).trans E1
    have Z1:=(b4.block (bx+1) lz).trans Z1
    have L1:=(b4.block p lp).trans L1
    have R1:=(b4.block q lq).trans R1
    clear hc b4 le lz lp lq p0 p1 p2 p3 pf B3
    cases h3:isE y 2 (1 - s) with
    | true =>
     have hans:coE e x y s=x:=by simp [coE,h1,h2,h3]
     have BS:=(((B4.setCell (p:=⟨bx+1,0,none⟩) (Nat.le_succ _) (.int .i64 x.k)).setCell (p:=⟨bx+1,1,none⟩) (Nat.le_succ _) (.int .i64 x.n)).setCell (p:=⟨bx+1,2,none⟩) (Nat.le_succ _) (stv x.nm)).setCell (p:=⟨bx+1,3,none⟩) (Nat.le_succ _) (.slice a0 x.kids.len c0)
     have ES:=set4k (b0:=(.int .i64 x.k)) (b1:=(.int .i64 x.n)) (b2:=(stv x.nm)) (b3:=(.slice a0 x.kids.len c0)) Z1
     have HU:Hid (∃ wz,wz=(((w4.setCell ⟨bx+1,0,none⟩ (.int .i64 x.k)).setCell ⟨bx+1,1,none⟩ (.int .i64 x.n)).setCell ⟨bx+1,2,none⟩ (stv x.nm)).setCell ⟨bx+1,3,none⟩ (.slice a0 x.kids.len c0)∧wz.heap[bx+1]?=some (.cells #[(.int .i64 x.k),(.int .i64 x.n),(stv x.nm),(.slice a0 x.kids.len c0)] 34)∧Below bx w wz):=⟨_,rfl,ES,BS⟩
     obtain ⟨q0,q1,q2,q3,qf⟩:=box4 Z1
     obtain ⟨p0,p1,p2,p3,pf⟩:=box4 L1
     clear BS ES Z1 E1 L1 R1
     go_wp2
     obtain ⟨wz,hwz,EZ,BZ⟩:=HU.out
     rw [←hwz]
     obtain ⟨v0,v1,v2,v3,-⟩:=box4 EZ
     rw [HB.out] at BZ
     exact bodyPost_ret (v:=exN x a0 c0) (by simp [results,Tryz.results112,go_sem,v0,v1,v2,v3,exN]) rfl ⟨a0,c0,by rw [hans],by rw [hans];exact SX,BZ⟩
    | false =>
     have hans:coE e x y s=e:=by simp [coE,h1,h2,h3]
     have BS:=(((B4.setCell (p:=⟨bx+1,0,none⟩) (Nat.le_succ _) (.int .i64 e.k)).setCell (p:=⟨bx+1,1,none⟩) (Nat.le_succ _) (.int .i64 e.n)).setCell (p:=⟨bx+1,2,none⟩) (Nat.le_succ _) (stv e.nm)).setCell (p:=⟨bx+1,3,none⟩) (Nat.le_succ _) (.slice (some ⟨b,0,none⟩) 2 cap)
     have ES:=set4k (b0:=(.int .i64 e.k)) (b1:=(.int .i64 e.n)) (b2:=(stv e.nm)) (b3:=(.slice (some ⟨b,0,none⟩) 2 cap)) Z1
     have HU:Hid (∃ wz,wz=(((w4.setCell ⟨bx+1,0,none⟩ (.int .i64 e.k)).setCell ⟨bx+1,1,none⟩ (.int .i64 e.n)).setCell ⟨bx+1,2,none⟩ (stv e.nm)).setCell ⟨bx+1,3,none⟩ (.slice (some ⟨b,0,none⟩) 2 cap)∧wz.heap[bx+1]?=some (.cells #[(.int .i64 e.k),(.int .i64 e.n),(stv e.nm),(.slice (some ⟨b,0,none⟩) 2 cap)] 34)∧Below bx w wz):=⟨_,rfl,ES,BS⟩
     obtain ⟨q0,q1,q2,q3,qf⟩:=box4 Z1
     obtain ⟨p0,p1,p2,p3,pf⟩:=box4 E1
     clear BS ES Z1 E1 L1 R1
     go_wp2
     obtain ⟨wz,hwz,EZ,BZ⟩:=HU.out
     rw [←hwz]
     obtain ⟨v0,v1,v2,v3,-⟩:=box4 EZ
     rw [HB.out] at BZ
     exact bodyPost_ret (v:=exN e (some ⟨b,0,none⟩) cap) (by simp [results,Tryz.results112,go_sem,v0,v1,v2,v3,exN,HL.out]) rfl ⟨(some ⟨b,0,none⟩),cap,by rw [hans],by rw [hans];exact S,BZ⟩
def unE (e:Ex):Ex:=if e.n=1 then truE true else if e.n=2 then truE false else if e.n=3∨e.n=4 then numE 0 else e
set_option maxRecDepth 100000 in
set_option maxHeartbeats 1000000 in
theorem unmoved_c (e:Ex) (ao:Option Addr) (cap:Nat) (P:Nat→Prop) (v w:World) (S:SlcN v P e.kids ao cap) :
  Calls Tryz.prog 167 #[exN e ao cap] w (PostRu v w P (unE e)):=by
 obtain ⟨w0,hw0⟩:∃ w0,w0=(w.alloc (.cells #[.int .i64 e.k,.int .i64 e.n,stv e.nm,.slice ao e.kids.len cap] 34)).alloc (.cells #[.int .i64 0,.int .i64 0,.string ⟨#[]⟩,.slice none 0 0] 34):=⟨_,rfl⟩
 have B0:Below w.heap.size w w0:=by rw [hw0];exact ((Below.refl _ w).alloc (Nat.le_refl _) _).alloc (by simp) _
 have E0:w0.heap[w.heap.size]?=some (.cells #[.int .i64 e.k,.int .i64 e.n,stv e.nm,.slice ao e.kids.len cap] 34):=by rw [hw0];exact (Below.heap_alloc _ _ _ (by simp)).trans (heap_alloc_new w _)
 have Z0:w0.heap[w.heap.size+1]?=some (.cells #[.int .i64 0,.int .i64 0,.string ⟨#[]⟩,.slice none 0 0] 34):=by
  rw [hw0]
  have:=heap_alloc_new (w.alloc (.cells #[.int .i64 e.k,.int .i64 e.n,stv e.nm,.slice ao e.kids.len cap] 34)) (.cells #[.int .i64 0,.int .i64 0,.string ⟨#[]⟩,.slice none 0 0] 34)
  simpa using this
 rw [exN_out]
 go_enter Tryz.func167,Tryz.ntmps167
 go_upto_region 1 with fail
 rw [←hw0]
 obtain ⟨bx,hbx⟩:∃ bx,bx=w.heap.size:=⟨_,rfl⟩
 rw [←hbx] at E0 Z0 B0 ⊢
 have HB:Hid (bx=w.heap.size):=hbx
 clear hbx hw0
 by_cases h1:e.n=1
 ·have hans:unE e=truE true:=by simp [unE,h1]
  have n1:(e.n == 1)=true:=by rw [h1];rfl
  have n2:(e.n == 2)=false:=by rw [h1];rfl
  have n3:(e.n == 3)=false:=by rw [h1];rfl
  have n4:(e.n == 4)=false:=by rw [h1];rfl
  clear h1
  have BS:=(((B0.setCell (p:=⟨bx+1,0,none⟩) (Nat.le_succ _) (.int .i64 2)).setCell (p:=⟨bx+1,1,none⟩) (Nat.le_succ _) (.int .i64 1)).setCell (p:=⟨bx+1,2,none⟩) (Nat.le_succ _) (.string ⟨#[]⟩)).setCell (p:=⟨bx+1,3,none⟩) (Nat.le_succ _) (.slice none 0 0)
  have ES:=set4k (b0:=(.int .i64 2)) (b1:=(.int .i64 1)) (b2:=(.string ⟨#[]⟩)) (b3:=(.slice none 0 0)) Z0
  have HU:Hid (∃ wz,wz=(((w0.setCell ⟨bx+1,0,none⟩ (.int .i64 2)).setCell ⟨bx+1,1,none⟩ (.int .i64 1)).setCell ⟨bx+1,2,none⟩ (.string ⟨#[]⟩)).setCell ⟨bx+1,3,none⟩ (.slice none 0 0)∧wz.heap[bx+1]?=some (.cells #[(.int .i64 2),(.int .i64 1),(.string ⟨#[]⟩),(.slice none 0 0)] 34)∧Below bx w wz):=⟨_,rfl,ES,BS⟩
  obtain ⟨q0,q1,q2,q3,qf⟩:=box4 Z0
  obtain ⟨p0,p1,p2,p3,pf⟩:=box4 E0
  clear BS ES Z0 E0
  go_wp2
  obtain ⟨wz,hwz,EZ,BZ⟩:=HU.out
  rw [←hwz]
  obtain ⟨v0,v1,v2,v3,-⟩:=box4 EZ
  rw [HB.out] at BZ
  exact bodyPost_ret (v:=exN (truE true) none 0) (by simp [results,Tryz.results167,go_sem,v0,v1,v2,v3,exN,truE,trI,stv,Fs.nil,Fs.len]) rfl ⟨none,0,by rw [hans],by rw [hans];exact SlcN.nil _ _,BZ⟩
 by_cases h2:e.n=2
 ·have hans:unE e=truE false:=by simp [unE,h2]
  have n1:(e.n == 1)=false:=by rw [h2];rfl
  have n2:(e.n == 2)=true:=by rw [h2];rfl
  have n3:(e.n == 3)=false:=by rw [h2];rfl
  have n4:(e.n == 4)=false:=by rw [h2];rfl
  clear h2 h1
  have BS:=(((B0.setCell (p:=⟨bx+1,0,none⟩) (Nat.le_succ _) (.int .i64 2)).setCell (p:=⟨bx+1,1,none⟩) (Nat.le_succ _) (.int .i64 0)).setCell (p:=⟨bx+1,2,none⟩) (Nat.le_succ _) (.string ⟨#[]⟩)).setCell (p:=⟨bx+1,3,none⟩) (Nat.le_succ _) (.slice none 0 0)
  have ES:=set4k (b0:=(.int .i64 2)) (b1:=(.int .i64 0)) (b2:=(.string ⟨#[]⟩)) (b3:=(.slice none 0 0)) Z0
  have HU:Hid (∃ wz,wz=(((w0.setCell ⟨bx+1,0,none⟩ (.int .i64 2)).setCell ⟨bx+1,1,none⟩ (.int .i64 0)).setCell ⟨bx+1,2,none⟩ (.string ⟨#[]⟩)).setCell ⟨bx+1,3,none⟩ (.slice none 0 0)∧wz.heap[bx+1]?=some (.cells #[(.int .i64 2),(.int .i64 0),(.string ⟨#[]⟩),(.slice none 0 0)] 34)∧Below bx w wz):=⟨_,rfl,ES,BS⟩
  obtain ⟨q0,q1,q2,q3,qf⟩:=box4 Z0
  obtain ⟨p0,p1,p2,p3,pf⟩:=box4 E0
  clear BS ES Z0 E0
  go_wp2
  obtain ⟨wz,hwz,EZ,BZ⟩:=HU.out
  rw [←hwz]
  obtain ⟨v0,v1,v2,v3,-⟩:=box4 EZ
  rw [HB.out] at BZ
  exact bodyPost_ret (v:=exN (truE false) none 0) (by simp [results,Tryz.results167,go_sem,v0,v1,v2,v3,exN,truE,trI,stv,Fs.nil,Fs.len]) rfl ⟨none,0,by rw [hans],by rw [hans];exact SlcN.nil _ _,BZ⟩
 by_cases h3:e.n=3
 ·have hans:unE e=numE 0:=by simp [unE,h3]
  have n1:(e.n == 1)=false:=by rw [h3];rfl
  have n2:(e.n == 2)=false:=by rw [h3];rfl
  have n3:(e.n == 3)=true:=by rw [h3];rfl
  have n4:(e.n == 4)=false:=by rw [h3];rfl
  clear h3 h1 h2
  have BS:=(((B0.setCell (p:=⟨bx+1,0,none⟩) (Nat.le_succ _) (.int .i64 1)).setCell (p:=⟨bx+1,1,none⟩) (Nat.le_succ _) (.int .i64 0)).setCell (p:=⟨bx+1,2,none⟩) (Nat.le_succ _) (.string ⟨#[]⟩)).setCell (p:=⟨bx+1,3,none⟩) (Nat.le_succ _) (.slice none 0 0)
  have ES:=set4k (b0:=(.int .i64 1)) (b1:=(.int .i64 0)) (b2:=(.string ⟨#[]⟩)) (b3:=(.slice none 0 0)) Z0
  have HU:Hid (∃ wz,wz=(((w0.setCell ⟨bx+1,0,none⟩ (.int .i64 1)).setCell ⟨bx+1,1,none⟩ (.int .i64 0)).setCell ⟨bx+1,2,none⟩ (.string ⟨#[]⟩)).setCell ⟨bx+1,3,none⟩ (.slice none 0 0)∧wz.heap[bx+1]?=some (.cells #[(.int .i64 1),(.int .i64 0),(.string ⟨#[]⟩),(.slice none 0 0)] 34)∧Below bx w wz):=⟨_,rfl,ES,BS⟩
  obtain ⟨q0,q1,q2,q3,qf⟩:=box4 Z0
  obtain ⟨p0,p1,p2,p3,pf⟩:=box4 E0
  clear BS ES Z0 E0
  go_wp2
  obtain ⟨wz,hwz,EZ,BZ⟩:=HU.out
  rw [←hwz]
  obtain ⟨v0,v1,v2,v3,-⟩:=box4 EZ
  rw [HB.out] at BZ
  exact bodyPost_ret (v:=exN (numE 0) none 0) (by simp [results,Tryz.results167,go_sem,v0,v1,v2,v3,exN,numE,stv,Fs.nil,Fs.len]) rfl ⟨none,0,by rw [hans],by rw [hans];exact SlcN.nil _ _,BZ⟩
 by_cases h4:e.n=4
 ·have hans:unE e=numE 0:=by simp [unE,h4]
  have n1:(e.n == 1)=false:=by rw [h4];rfl
  have n2:(e.n == 2)=false:=by rw [h4];rfl
  have n3:(e.n == 3)=false:=by rw [h4];rfl
  have n4:(e.n == 4)=true:=by rw [h4];rfl
  clear h4 h1 h2 h3
  have BS:=(((B0.setCell (p:=⟨bx+1,0,none⟩) (Nat.le_succ _) (.int .i64 1)).setCell (p:=⟨bx+1,1,none⟩) (Nat.le_succ _) (.int .i64 0)).setCell (p:=⟨bx+1,2,none⟩) (Nat.le_succ _) (.string ⟨#[]⟩)).setCell (p:=⟨bx+1,3,none⟩) (Nat.le_succ _) (.slice none 0 0)
  have ES:=set4k (b0:=(.int .i64 1)) (b1:=(.int .i64 0)) (b2:=(.string ⟨#[]⟩)) (b3:=(.slice none 0 0)) Z0
  have HU:Hid (∃ wz,wz=(((w0.setCell ⟨bx+1,0,none⟩ (.int .i64 1)).setCell ⟨bx+1,1,none⟩ (.int .i64 0)).setCell ⟨bx+1,2,none⟩ (.string ⟨#[]⟩)).setCell ⟨bx+1,3,none⟩ (.slice none 0 0)∧wz.heap[bx+1]?=some (.cells #[(.int .i64 1),(.int .i64 0),(.string ⟨#[]⟩),(.slice none 0 0)] 34)∧Below bx w wz):=⟨_,rfl,ES,BS⟩
  obtain ⟨q0,q1,q2,q3,qf⟩:=box4 Z0
  obtain ⟨p0,p1,p2,p3,pf⟩:=box4 E0
  clear BS ES Z0 E0
  go_wp2
  obtain ⟨wz,hwz,EZ,BZ⟩:=HU.out
  rw [←hwz]
  obtain ⟨v0,v1,v2,v3,-⟩:=box4 EZ
  rw [HB.out] at BZ
  exact bodyPost_ret (v:=exN (numE 0) none 0) (by simp [results,Tryz.results167,go_sem,v0,v1,v2,v3,exN,numE,stv,Fs.nil,Fs.len]) rfl ⟨none,0,by rw [hans],by rw [hans];exact SlcN.nil _ _,BZ⟩
 have hans:unE e=e:=by simp [unE,h1,h2,h3,h4]
 have n1:(e.n == 1)=false:=by simpa using h1
 have n2:(e.n == 2)=false:=by simpa using h2
 have n3:(e.n == 3)=false:=by simpa using h3
 have n4:(e.n == 4)=false:=by simpa using h4
 clear h1 h2 h3 h4
 have BS:=(((B0.setCell (p:=⟨bx+1,0,none⟩) (Nat.le_succ _) (.int .i64 e.k)).setCell (p:=⟨bx+1,1,none⟩) (Nat.le_succ _) (.int .i64 e.n)).setCell (p:=⟨bx+1,2,none⟩) (Nat.le_succ _) (stv e.nm)).setCell (p:=⟨bx+1,3,none⟩) (Nat.le_succ _) (.slice ao e.kids.len cap)
 have ES:=set4k (b0:=(.int .i64 e.k)) (b1:=(.int .i64 e.n)) (b2:=(stv e.nm)) (b3:=(.slice ao e.kids.len cap)) Z0
 have HU:Hid (∃ wz,wz=(((w0.setCell ⟨bx+1,0,none⟩ (.int .i64 e.k)).setCell ⟨bx+1,1,none⟩ (.int .i64 e.n)).setCell ⟨bx+1,2,none⟩ (stv e.nm)).setCell ⟨bx+1,3,none⟩ (.slice ao e.kids.len cap)∧wz.heap[bx+1]?=some (.cells #[(.int .i64 e.k),(.int .i64 e.n),(stv e.nm),(.slice ao e.kids.len cap)] 34)∧Below bx w wz):=⟨_,rfl,ES,BS⟩
 obtain ⟨q0,q1,q2,q3,qf⟩:=box4 Z0
 obtain ⟨p0,p1,p2,p3,pf⟩:=box4 E0
 clear BS ES Z0 E0
 go_wp2
 obtain ⟨wz,hwz,EZ,BZ⟩:=HU.out
 rw [←hwz]
 obtain ⟨v0,v1,v2,v3,-⟩:=box4 EZ
 rw [HB.out] at BZ
 exact bodyPost_ret (v:=exN (e) ao cap) (by simp [results,Tryz.results167,go_sem,v0,v1,v2,v3,exN,exN]) rfl ⟨ao,cap,by rw [hans],by rw [hans];exact S,BZ⟩
def idE (n:Int) (e:Ex):Bool:=if n=1 then isE e 2 1 else if n=2∨n=3 then isE e 2 0 else false
set_option maxRecDepth 100000 in
theorem isidle_c (n:Int) (e:Ex) (ao:Option Addr) (cap:Nat) (w:World):Calls Tryz.prog 166 #[.int .i64 n,exN e ao cap] w fun x w'=>x=.returned (.bool (idE n e))∧Below w.heap.size w w':=by
 have B0:Below w.heap.size w (w.alloc (.cells #[.int .i64 e.k,.int .i64 e.n,stv e.nm,.slice ao e.kids.len cap] 34)):=(Below.refl _ w).alloc (Nat.le_refl _) _
 have E0:(w.alloc (.cells #[.int .i64 e.k,.int .i64 e.n,stv e.nm,.slice ao e.kids.len cap] 34)).heap[w.heap.size]?=some (.cells #[.int .i64 e.k,.int .i64 e.n,stv e.nm,.slice ao e.kids.len cap] 34):=heap_alloc_new w _
 rw [exN_out]
 go_enter Tryz.func166,Tryz.ntmps166
 go_upto_region 1 with fail
 generalize w.alloc (.cells #[.int .i64 e.k,.int .i64 e.n,stv e.nm,.slice ao e.kids.len cap] 34)=w0 at *
 obtain ⟨bx,hbx⟩:∃ bx,bx=w.heap.size:=⟨_,rfl⟩
 rw [←hbx] at E0 B0 ⊢
 have HB:Hid (bx=w.heap.size):=hbx
 clear hbx
 obtain ⟨p0,p1,p2,p3,pf⟩:=box4 E0
 have hle:bx≤w0.heap.size:=Nat.le_of_lt (lt_of_block E0)
 by_cases h1:n=1
 ·have hans:idE n e=isE e 2 1:=by simp [idE,h1]
  have hc:=istru_c e ao cap 1 w0
  rw [exN_out] at hc
  have n1:(n == 1)=true:=by rw [h1];rfl
  have n2:(n == 2)=false:=by rw [h1];rfl
  have n3:(n == 3)=false:=by rw [h1];rfl
  clear h1
  go_wp2_with fail
  refine hc.mono ?_
  rintro u w2 ⟨rfl,b2⟩
  go_wp2
  go_ret
  exact ⟨by rw [hans];rfl,by rw [←HB.out];exact B0.trans (b2.mono hle)⟩
 by_cases h2:n=2
 ·have hans:idE n e=isE e 2 0:=by simp [idE,h2]
  have hc:=istru_c e ao cap 0 w0
  rw [exN_out] at hc
  have n1:(n == 1)=false:=by rw [h2];rfl
  have n2:(n == 2)=true:=by rw [h2];rfl
  have n3:(n == 3)=false:=by rw [h2];rfl
  clear h1 h2
  go_wp2_with fail
  refine hc.mono ?_
  rintro u w2 ⟨rfl,b2⟩
  go_wp2
  go_ret
  exact ⟨by rw [hans];rfl,by rw [←HB.out];exact B0.trans (b2.mono hle)⟩
 by_cases h3:n=3
 ·have hans:idE n e=isE e 2 0:=by simp [idE,h3]
  have hc:=istru_c e ao cap 0 w0
  rw [exN_out] at hc
  have n1:(n == 1)=false:=by rw [h3];rfl
  have n2:(n == 2)=false:=by rw [h3];rfl
  have n3:(n == 3)=true:=by rw [h3];rfl
  clear h1 h2 h3
  go_wp2_with fail
  refine hc.mono ?_
  rintro u w2 ⟨rfl,b2⟩
  go_wp2
  go_ret
  exact ⟨by rw [hans];rfl,by rw [←HB.out];exact B0.trans (b2.mono hle)⟩
 have hans:idE n e=false:=by simp [idE,h1,h2,h3]
 have n1:(n == 1)=false:=by simpa using h1
 have n2:(n == 2)=false:=by simpa using h2
 have n3:(n == 3)=false:=by simpa using h3
 clear h1 h2 h3
 go_wp2
 go_ret
 exact ⟨by rw [hans];rfl,by rw [←HB.out];exact B0⟩
end Go.Proofs.YtaihhnlfcndecaaGreatDoor

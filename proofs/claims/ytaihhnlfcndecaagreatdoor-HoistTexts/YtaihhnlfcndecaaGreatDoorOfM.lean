import Derived.Test.YtaihhnlfcndecaaGreatDoorDocG
namespace Go.Proofs.YtaihhnlfcndecaaGreatDoor
open Go.ChangeShapes Go.WideShapes Go.ChangeAt Go.RowKit
set_option linter.unusedVariables false
set_option linter.unusedSimpArgs false
theorem infoNodes:(Tryz.prog.info? 32).map (fun i=>(i.zero,i.size,i.bytes))=some (some (.slice none 0 0),1,24):=by kernel_rfl
theorem made_nils (n:Nat):(madeCells (Value.slice none 0 0).cells (n * 1)).size=n∧∀ i,i < n→(madeCells (Value.slice none 0 0).cells (n * 1))[i]?=some (.slice none 0 0):=by
 constructor
 ·simp [madeCells,Value.cells]
 ·intro i hi
  simp [madeCells,Value.cells,hi,Nat.mod_one]
set_option maxRecDepth 100000 in
set_option maxHeartbeats 2000000 in
theorem kind14_c (e:Ex) (ao:Option Addr) (cap:Nat) (cv:Value) (cells:List Int) (w:World) (hf:FitN e) (hc:InA w cv cells) (hcl:cells.length≤1000000000) (S:SnA w e.kids ao) :
  Calls Tryz.prog 68 #[plV e ao cap cv] w fun x w'=>x=.returned (.int .i64 (kindP cells e))∧Below w.heap.size w w':=by
 obtain ⟨W,hZ⟩:∃ W,W=kindP cells e:=⟨_,rfl⟩
 rw [←hZ]
 have HW:Hid (W=kindP cells e):=hZ
 clear hZ
 obtain ⟨ii,hii,hzi0,hzi1,hzi2⟩:=info_parts infoNodes
 obtain ⟨ac,cc,hcv,hcx⟩:=hc
 have hc:InA w cv cells:=⟨ac,cc,hcv,hcx⟩
 subst hcv
 clear hcx
 have B0:Below w.heap.size w (w.alloc (.cells #[.int .i64 e.k,.int .i64 e.n,stv e.nm,.slice ao e.kids.len cap,.slice ac cells.length cc] 37)):=(Below.refl _ w).alloc (Nat.le_refl _) _
 have E0:(w.alloc (.cells #[.int .i64 e.k,.int .i64 e.n,stv e.nm,.slice ao e.kids.len cap,.slice ac cells.length cc] 37)).heap[w.heap.size]?=some (.cells #[.int .i64 e.k,.int .i64 e.n,stv e.nm,.slice ao e.kids.len cap,.slice ac cells.length cc] 37):=heap_alloc_new w _
 have S0:=SnA.below S B0
 have I0:=hc.below B0
 clear S hc
 rw [plV_out]
 go_enter Tryz.func68,Tryz.ntmps68
 go_upto_region 1 with fail
 generalize w.alloc (.cells #[.int .i64 e.k,.int .i64 e.n,stv e.nm,.slice ao e.kids.len cap,.slice ac cells.length cc] 37)=w0 at *
 obtain ⟨n0,hn0⟩:∃ n0,n0=w.heap.size:=⟨_,rfl⟩
 rw [←hn0] at E0 B0 ⊢
 have HN:Hid (n0=w.heap.size):=hn0
 clear hn0
 obtain ⟨p0,p1,p2,p3,p4,pf⟩:=box5 E0
 by_cases h256:256 < cells.length
 ·have hI:(256:Int) < (cells.length:Int):=by omega
  have HZ:Hid (W=0):=by show W=_;rw [HW.out,kindP_big h256]
  clear HW S0 I0 E0
  go_wp2
  go_ret
  rw [HZ.out]
  exact ⟨rfl,by rw [←HN.out];exact B0⟩
 have hI:¬ (256:Int) < (cells.length:Int):=by omega
 obtain ⟨ac',cc',he,hcell⟩:=I0
 have I0:InA w0 (.slice ac cells.length cc) cells:=⟨ac',cc',he,hcell⟩
 injection he with he1 he2 he3
 subst he1
 subst he3
 clear he2
 go_wp2
 go_loopw [3] (fun v wr=>∃ k:Nat,k≤cells.length∧v=.int .i64 (k:Nat)∧Hid (∀ j c,j < k→cells[j]?=some c→nlB c=false)∧wr=w0) (fun v _=>cells.length - (intOf v).toNat)
 case atStart=>exact ⟨0,by omega,by go_num,fun j c hj=>absurd hj (Nat.not_lt_zero _),rfl⟩
 case round =>
  obtain ⟨k,hk,rfl,hno,rfl⟩:=hrel
  by_cases hlt:k < cells.length
  ·have hx1:cells[k]?=some cells[k]:=List.getElem?_eq_getElem hlt
   rcases hcell with rfl | ⟨g1,o1,rfl,-,hg1,hc1⟩
   ·simp at hlt
   have x1:=hc1 k _ hx1
   generalize cells[k]=x at x1 hx1
   have hkI:(k:Int) < (cells.length:Int):=by omega
   have HX:Hid (cells[k]?=some x):=hx1
   clear hx1 hc1
   have BADZ:nlB x=true→Hid (W=0):=by
    intro hb
    show W=0
    rw [HW.out,kindP_nl (List.any_eq_true.2 ⟨x,List.mem_of_getElem? HX.out,hb⟩)]
   by_cases h0:x < 0
   ·have HZ:=BADZ (by simp [nlB];omega)
    clear HW hno HX BADZ I0 S0 E0
    go_wp2
    go_ret
    rw [HZ.out]
    exact ⟨rfl,by rw [←HN.out];exact B0⟩
   by_cases h4:4 < x
   ·have HZ:=BADZ (by simp [nlB];omega)
    clear HW hno HX BADZ I0 S0 E0
    go_wp2
    go_ret
    rw [HZ.out]
    exact ⟨rfl,by rw [←HN.out];exact B0⟩
   have hn2:Hid (∀ j c,j < k+1→cells[j]?=some c→nlB c=false):=by
    intro j c hj hc
    rcases Nat.lt_succ_iff_lt_or_eq.1 hj with h3 | rfl
    ·exact hno.out j c h3 hc
    ·rw [HX.out] at hc
     injection hc with hc
     rw [←hc]
     simp [nlB]
     omega
   clear HW hno HX BADZ I0 S0 E0
   go_wp2
   go_roundw
   case rel=>exact ⟨k+1,by omega,by go_num,hn2,trivial⟩
   case measure=>simp [intOf];omega
  ·have hkI:¬ (k:Int) < (cells.length:Int):=by omega
   have hnl:cells.any nlB=false:=by
    rw [List.any_eq_false]
    intro c hc
    obtain ⟨j,hj,h2⟩:=List.mem_iff_getElem.1 hc
    have:=hno.out j c (by omega) (by rw [List.getElem?_eq_getElem hj,h2])
    simp [this]
   have HW2:Hid (W=(match kndD cells e 0 0 (0,fun _=>none) with | none=>0 | some (_,k)=>k)):=by show W=_;rw [HW.out,kindP_knd (by omega) (nl_false hnl)];rfl
   clear HW hno hcell hnl
   have mk:∀ w:World,(Instr.makeSlice 128 (.int .i64 (cells.length:Nat)) (.int .i64 (cells.length:Nat))).run Tryz.prog w=.ok (.slice (some ⟨w.heap.size,0,none⟩) cells.length cells.length) (w.alloc (.cells (madeCells (Value.slice none 0 0).cells (cells.length * 1)) 32)):=fun w=>by
    have:=run_make (P:=Tryz.prog) w 128 32 ii _ Tryz.underlying128 hii hzi0 .i64 .i64 cells.length cells.length (by omega) (Int.le_refl _) (by rw [hzi2];omega) (by omega)
    rw [hzi1] at this
    simpa only [Int.toNat_natCast] using this
   obtain ⟨hXs,hXe⟩:=made_nils cells.length
   generalize madeCells (Value.slice none 0 0).cells (cells.length * 1)=X at *
   have HXE:Hid (X.size=cells.length∧∀ i,i < cells.length→X[i]?=some (.slice none 0 0)):=⟨hXs,hXe⟩
   clear hXs hXe
   have hn4:=lt_of_block E0
   have hmk:=mk wr.drew
   obtain ⟨w2,hw2⟩:∃ w2,w2=((wr.alloc (.cells X 32)).alloc (.cells #[.slice ac cells.length cc,.int .i64 0,.slice (some ⟨wr.heap.size,0,none⟩) cells.length cells.length,.bool true] 130)).drew:=⟨_,rfl⟩
   have b2:Below wr.heap.size wr w2:=by rw [hw2];exact (((Below.refl _ wr).alloc (Nat.le_refl _) _).alloc (by simp) _).trans ⟨rfl,rfl,rfl,Nat.le_refl _,fun _ _=>rfl⟩
   have X2:w2.heap[wr.heap.size]?=some (.cells X 32 (0,0)):=by
    rw [hw2]
    exact (Below.heap_alloc _ _ _ (by simp)).trans (heap_alloc_new wr _)
   have V2:w2.heap[wr.heap.size+1]?=some (.cells #[.slice ac cells.length cc,.int .i64 0,.slice (some ⟨wr.heap.size,0,none⟩) cells.length cells.length,.bool true] 130 (0,0)):=by
    rw [hw2]
    have:=heap_alloc_new (wr.alloc (.cells X 32)) (.cells #[.slice ac cells.length cc,.int .i64 0,.slice (some ⟨wr.heap.size,0,none⟩) cells.length cells.length,.bool true] 130)
    have h2:(wr.alloc (.cells X 32)).heap.size=wr.heap.size+1:=by simp
    rw [h2] at this
    exact this
   have WD2:WD w2 (wr.heap.size+1) wr.heap.size (.slice ac cells.length cc) cells.length (some (0,fun _=>none)):=⟨V2,Nat.zero_le _,X,X2,HXE.out.1,fun i hi=>.inl ⟨rfl,HXE.out.2 i hi⟩⟩
   have c4:=kindd_ok (e.kids.size+1) e ao cap (wr.heap.size+1) wr.heap.size (.slice ac cells.length cc) cells 0 0 (0,fun _=>none) w2 (by omega) hf (by omega) (by omega) (by omega) WD2 (I0.mono (fun i _ hl=>b2.block i hl) b2.size (fun i _ hl=>⟨by omega,by omega⟩)) (S0.mono (fun i _ hl=>b2.block i hl) b2.size (fun i _ hl=>⟨by omega,by omega⟩))
   rw [exN_out] at c4
   have E2:=(b2.block _ hn4).trans E0
   have hs2:=lt_of_block V2
   have hnw:Hid (n0 < wr.heap.size):=hn4
   clear E0 S0 I0 X2 V2 WD2
   go_wp2_with fail
   go_region_held3 (fun wx=>wx.cell? ⟨n0,4,none⟩=some (.slice ac cells.length cc)) (go_keep) (fail)
   rw [←hw2]
   clear hw2 mk hmk p0 p1 p2 p3 p4 pf HXE
   obtain ⟨p0,p1,p2,p3,p4,pf⟩:=box5 E2
   generalize kndD cells e 0 0 (0,fun _=>none)=rr at *
   go_wp2_with fail
   refine c4.mono ?_
   rintro z w3 ⟨⟨k',rfl,hk'⟩,W3,K3⟩
   have B3:Below n0 w w3:=(B0.trans (b2.mono (Nat.le_of_lt hnw.out))).trans (K3.below (by have:=hnw.out;omega) (Nat.le_of_lt hnw.out) (by have:=hnw.out;omega))
   clear c4 p0 p1 p2 p3 p4 pf E2 K3 b2
   cases rr with
   | none =>
    have HZ:Hid (W=0):=HW2.out
    obtain ⟨-,p,kv,V3⟩:=W3
    obtain ⟨q0,q1,q2,q3,qf⟩:=box4 V3
    clear HW2 hk' V3
    go_wp2
    go_ret
    rw [HZ.out]
    exact ⟨rfl,by rw [←HN.out];exact B3⟩
   | some zz =>
    obtain ⟨s2,k2⟩:=zz
    obtain rfl:=hk' s2 k2 rfl
    have HZ:Hid (W=k'):=HW2.out
    obtain ⟨V3,-,-⟩:=W3
    obtain ⟨q0,q1,q2,q3,qf⟩:=box4 V3
    clear HW2 hk' V3
    go_wp2
    go_ret
    rw [HZ.out]
    exact ⟨rfl,by rw [←HN.out];exact B3⟩
set_option maxRecDepth 100000 in
theorem right14_c (e:Ex) (ao:Option Addr) (cap:Nat) (cv:Value) (cells:List Int) (w:World) (hf:FitN e) (hc:InA w cv cells) (hcl:cells.length≤1000000000) (S:SnA w e.kids ao) :
  Calls Tryz.prog 36 #[plV e ao cap cv] w fun x w'=>x=.returned (.bool (decide (kindP cells e≠0)))∧Below w.heap.size w w':=by
 obtain ⟨ac,cc,hcv,hcx⟩:=hc
 have hc:InA w cv cells:=⟨ac,cc,hcv,hcx⟩
 subst hcv
 clear hcx
 have B0:Below w.heap.size w (w.alloc (.cells #[.int .i64 e.k,.int .i64 e.n,stv e.nm,.slice ao e.kids.len cap,.slice ac cells.length cc] 37)):=(Below.refl _ w).alloc (Nat.le_refl _) _
 have c1:=kind14_c e ao cap _ cells _ hf (hc.below B0) hcl (SnA.below S B0)
 generalize kindP cells e=W at *
 rw [plV_out] at c1 ⊢
 go_enter Tryz.func36,Tryz.ntmps36
 go_wp2_with fail
 refine c1.mono ?_
 rintro z w1 ⟨rfl,b1⟩
 have B1:Below w.heap.size w w1:=B0.trans (b1.mono B0.size)
 clear c1 b1
 by_cases h0:W=0
 ·have hb:(W != 0)=false:=by simpa using h0
  have hd:decide (W≠0)=false:=by simp [h0]
  have HD:Hid (decide (W≠0)=_):=hd
  clear hd h0
  go_wp2
  go_ret
  exact ⟨by rw [HD.out];simp [hb],B1⟩
 ·have hb:(W != 0)=true:=by simpa using h0
  have hd:decide (W≠0)=true:=by simp [h0]
  have HD:Hid (decide (W≠0)=_):=hd
  clear hd h0
  go_wp2
  go_ret
  exact ⟨by rw [HD.out];simp [hb],B1⟩
def PostHd (w:World) (e:Ex) (cells:List Int) (x:Ending) (w':World):Prop :=
 if kindP cells e=0 then x=.returned (.tuple #[.agg #[.int .i64 0,.int .i64 0,.string ⟨#[]⟩,.slice none 0 0,.slice none 0 0],.int .i64 140])∧Below w.heap.size w w'
 else ∃ ay cy v,x=.returned (.tuple #[plV (hstE e 0 0 cells).1 ay cy v,.int .i64 0])∧SnA w' (hstE e 0 0 cells).1.kids ay∧InA w' v (hstE e 0 0 cells).2∧Below w.heap.size w w'
set_option maxRecDepth 100000 in
set_option maxHeartbeats 4000000 in
theorem hoistd_c (e:Ex) (ao:Option Addr) (cap:Nat) (cv:Value) (cells:List Int) (w:World) (hf:FitN e) (hsz:(e.kids.size:Int)+2≤1000000000) (hc:InA w cv cells) (hcl:cells.length≤100000) (S:SnA w e.kids ao) :
  Calls Tryz.prog 24 #[plV e ao cap cv] w (PostHd w e cells):=by
 obtain ⟨ii,hii,hzi0,hzi1,hzi2⟩:=info_parts infoInt
 obtain ⟨ac,cc,hcv,hx⟩:=hc
 have hc:InA w cv cells:=⟨ac,cc,hcv,hx⟩
 subst hcv
 clear hx
 obtain ⟨w0,hw0⟩:∃ w0,w0=(w.alloc (.cells #[.int .i64 e.k,.int .i64 e.n,stv e.nm,.slice ao e.kids.len cap,.slice ac cells.length cc] 37)).alloc (.cells #[.int .i64 0,.int .i64 0,.string ⟨#[]⟩,.slice none 0 0,.slice none 0 0] 37):=⟨_,rfl⟩
 have B0:Below w.heap.size w w0:=by rw [hw0];exact ((Below.refl _ w).alloc (Nat.le_refl _) _).alloc (by simp) _
 have P0:w0.heap[w.heap.size]?=some (.cells #[.int .i64 e.k,.int .i64 e.n,stv e.nm,.slice ao e.kids.len cap,.slice ac cells.length cc] 37 (0,0)):=by
  rw [hw0]
  exact (Below.heap_alloc _ _ _ (by simp)).trans (heap_alloc_new w _)
 have Z0:w0.heap[w.heap.size+1]?=some (.cells #[.int .i64 0,.int .i64 0,.string ⟨#[]⟩,.slice none 0 0,.slice none 0 0] 37 (0,0)):=by
  rw [hw0]
  have:=heap_alloc_new (w.alloc (.cells #[.int .i64 e.k,.int .i64 e.n,stv e.nm,.slice ao e.kids.len cap,.slice ac cells.length cc] 37)) (.cells #[.int .i64 0,.int .i64 0,.string ⟨#[]⟩,.slice none 0 0,.slice none 0 0] 37)
  simpa using this
 have hc0:=hc.below B0
 have c1:=right14_c e ao cap _ cells w0 hf hc0 (by omega) (SnA.below S B0)
 rw [plV_out] at c1 ⊢
 go_enter Tryz.func24,Tryz.ntmps24
 go_upto_region 1 with fail
 rw [←hw0]
 clear hw0
 obtain ⟨n0,hn0⟩:∃ n0,n0=w.heap.size:=⟨_,rfl⟩
 rw [←hn0] at P0 Z0 ⊢
 have HB:Hid (n0=w.heap.size):=hn0
 clear hn0
 obtain ⟨p0,p1,p2,p3,p4,pf⟩:=box5 P0
 go_wp2_with fail
 refine c1.mono ?_
 rintro x w1 ⟨rfl,b1⟩
 have hzl:=lt_of_block Z0
 have hs1:=b1.size
 have P1:=(b1.block _ (lt_of_block P0)).trans P0
 have Z1:=(b1.block _ hzl).trans Z0
 have B1:Below w.heap.size w w1:=B0.trans (b1.mono B0.size)
 have hc1:=hc0.below b1
 clear c1 b1 P0 Z0 p0 p1 p2 p3 p4 pf hc0
 by_cases hk:kindP cells e=0
 ·have hd:decide (kindP cells e≠0)=false:=by simp [hk]
  rw [hd]
  have HU:Hid (∃ wz,wz=(((((w1.setCell ⟨n0+1,0,none⟩ (.int .i64 0)).setCell ⟨n0+1,1,none⟩ (.int .i64 0)).setCell ⟨n0+1,2,none⟩ (.string ⟨#[]⟩)).setCell ⟨n0+1,3,none⟩ (.slice none 0 0)).setCell ⟨n0+1,4,none⟩ (.slice none 0 0))∧wz.cell? ⟨n0+1,0,none⟩=some (.int .i64 0)∧wz.cell? ⟨n0+1,1,none⟩=some (.int .i64 0)∧wz.cell? ⟨n0+1,2,none⟩=some (.string ⟨#[]⟩)∧wz.cell? ⟨n0+1,3,none⟩=some (.slice none 0 0)∧wz.cell? ⟨n0+1,4,none⟩=some (.slice none 0 0)∧PostHd w e cells (.returned (.tuple #[.agg #[.int .i64 0,.int .i64 0,.string ⟨#[]⟩,.slice none 0 0,.slice none 0 0],.int .i64 140])) wz):=by
   obtain ⟨u0,u1,u2,u3,u4,-⟩:=box5 (set5k (.int .i64 0) (.int .i64 0) (.string ⟨#[]⟩) (.slice none 0 0) (.slice none 0 0) Z1)
   refine ⟨_,rfl,u0,u1,u2,u3,u4,?_⟩
   unfold PostHd
   rw [if_pos hk]
   refine ⟨rfl,?_⟩
   have hn:=HB.out
   exact ((((B1.setCell (by show w.heap.size≤n0+1;omega) _).setCell (by show w.heap.size≤n0+1;omega) _).setCell (by show w.heap.size≤n0+1;omega) _).setCell (by show w.heap.size≤n0+1;omega) _).setCell (by show w.heap.size≤n0+1;omega) _
  obtain ⟨z0,z1,z2,z3,z4,zf⟩:=box5 Z1
  clear hk hd B1 P1 Z1 hc1
  go_wp2
  obtain ⟨wz,hwz,v0,v1,v2,v3,v4,PZ⟩:=HU.out
  rw [←hwz]
  exact bodyPost_ret (v:=.tuple #[.agg #[.int .i64 0,.int .i64 0,.string ⟨#[]⟩,.slice none 0 0,.slice none 0 0],.int .i64 140]) (by simp [results,Tryz.results24,go_sem,v0,v1,v2,v3,v4]) rfl PZ
 ·have hd:decide (kindP cells e≠0)=true:=by simp [hk]
  rw [hd]
  obtain ⟨p0,p1,p2,p3,p4,pf⟩:=box5 P1
  obtain ⟨hcl2,-,s0,hrg,-⟩:=kindP_inv hk
  have hnv:=rgE_nv hrg
  obtain ⟨_,_,hx1,hx0⟩:=hc1
  injection hx1 with hx1 hx2 hx3
  subst hx1
  subst hx3
  have hnews:=InA.news (cap:=cc) hx0
  have hone:=ones_int cells
  clear hrg hd hx0 hx2
  go_wp2_with (first | (at_builtin;refine wpList_append_any rfl (.tmp 13) (.tmp 15) 35 rfl 3 ii (.int .i64 0) 1 8 Tryz.underlying35 hii hzi0 hzi1 hzi2 rfl (by decide) (fun _=>0) 5 _ 0 [] rfl (Row.nil _ _ _ _ _) ac cells.length cc (cells.map (Value.int .i64)) rfl ?c1 hnews hone ?c3 ?c4 ?_) | go_in)
  case c1=>simp
  case c3=>unfold maxLen;omega
  case c4=>omega
  intro a2 c2v w2 o2 R2 s2
  try simp only [Nat.zero_add,List.nil_append] at R2
  try simp only [Nat.zero_add,List.nil_append]
  have b2:Below w1.heap.size w1 w2:=s2.below (fun k hk=>by decide)
  obtain ⟨w4,hw4⟩:∃ w4,w4=w2.alloc (.cells #[.slice a2 cells.length c2v] 71):=⟨_,rfl⟩
  have b4:Below w2.heap.size w2 w4:=by rw [hw4];exact (Below.refl _ w2).alloc (Nat.le_refl _) _
  have X4:w4.heap[w2.heap.size]?=some (.cells #[.slice a2 cells.length c2v] 71 (0,0)):=by
   rw [hw4]
   exact heap_alloc_new w2 _
  obtain ⟨g,C4,hgl,hgs⟩:∃ g,CsD w4 w2.heap.size g cells∧g < w4.heap.size∧w1.heap.size≤g:=by
   have hgo:∀ k,(Value.slice a2 cells.length c2v).ownBlock=some k→o2 k=5:=R2.2
   have hown:w4.ownsRow 0 3 1 (.slice a2 cells.length c2v) cells.length (cells.map (Value.int .i64)):=(R2.step (o':=newLab w2 o2 0) (I:=fun _=>False) (Below.toStepC b4) id).1
   cases hb:(Value.slice a2 cells.length c2v).ownBlock with
   | none=>exact ⟨w2.heap.size,⟨_,X4,hown,fun k hk=>by rw [hb] at hk;cases hk⟩,lt_of_block X4,b2.size⟩
   | some k0 =>
    have hk0:k0 < w2.heap.size:=R2.lt hb
    refine ⟨k0,⟨_,X4,hown,fun k hk=>?_⟩,by have:=b4.size;omega,?_⟩
    ·rw [hb] at hk
     injection hk with hk
     exact ⟨hk.symm,by omega⟩
    ·rcases Nat.lt_or_ge k0 w1.heap.size with h | h
     ·have h1:=(s2.lab k0 h).symm.trans (hgo k0 hb)
      cases h1
     ·exact h
  have hs2:=b2.size
  have B4:Below w.heap.size w w4:=(B1.trans (b2.mono B1.size)).trans (b4.mono (Nat.le_trans B1.size hs2))
  have hnb:=HB.out
  have P4:=(b4.block _ (by omega)).trans ((b2.block _ (by omega)).trans P1)
  have Z4:=(b4.block _ (by omega)).trans ((b2.block _ (by omega)).trans Z1)
  have S4:SlN w4 (fun k=>k < w.heap.size) e.kids ao:=S.mono (fun i _ hl=>B4.block i hl) B4.size (fun k _ hl=>hl)
  have c5:=dpart_ok (e.kids.size+1) e ao cap 0 0 cells w2.heap.size g (fun k=>k < w.heap.size) w4 (by omega) hf hnv (by omega) (by omega) hcl2 hgl (fun k hk=>⟨by omega,by omega⟩) C4 S4
  rw [exN_out] at c5
  have hcb:n0+1 < w2.heap.size:=by omega
  have hgn:n0+1 < g:=by omega
  have hwn:n0+1 < w4.heap.size:=by omega
  clear p0 p1 p2 p3 p4 pf P1 Z1 R2 s2 b2 b4 X4 C4 S4 B1 hnb hnews hone
  go_upto_region 6 with fail
  rw [←hw4]
  clear hw4
  generalize w2.heap.size=cb at *
  obtain ⟨p0,p1,p2,p3,p4,pf⟩:=box5 P4
  have HPS:Hid (∀ (x:Ending) (w':World),(∃ ay cy v,x=.returned (.tuple #[plV (hstE e 0 0 cells).1 ay cy v,.int .i64 0])∧SnA w' (hstE e 0 0 cells).1.kids ay∧InA w' v (hstE e 0 0 cells).2∧Below w.heap.size w w')→PostHd w e cells x w'):=fun x w' h=>by
   unfold PostHd
   rw [if_neg hk]
   exact h
  generalize hstE e 0 0 cells=yy at *
  obtain ⟨Y,C2⟩:=yy
  simp only at c5 HPS
  go_wp2_with fail
  refine c5.mono ?_
  rintro x w5 ⟨g5,ay,cy,rfl,S5,C5,hg5,hl5,K5⟩
  have hnb:=HB.out
  have hs5:=K5.size
  have Z5:=(K5.block (n0+1) hwn (by omega) (by omega)).trans Z4
  have b6:Below w5.heap.size w5 (w5.alloc (.cells #[.int .i64 Y.k,.int .i64 Y.n,stv Y.nm,.slice ay Y.kids.len cy] 34)):=(Below.refl _ w5).alloc (Nat.le_refl _) _
  have X6:(w5.alloc (.cells #[.int .i64 Y.k,.int .i64 Y.n,stv Y.nm,.slice ay Y.kids.len cy] 34)).heap[w5.heap.size]?=some (.cells #[.int .i64 Y.k,.int .i64 Y.n,stv Y.nm,.slice ay Y.kids.len cy] 34 (0,0)):=heap_alloc_new w5 _
  have Z6:=(b6.block _ (by omega)).trans Z5
  have SZ6:Hid (SlN (w5.alloc (.cells #[.int .i64 Y.k,.int .i64 Y.n,stv Y.nm,.slice ay Y.kids.len cy] 34)) (fun k=>k≠n0+1) Y.kids ay):=S5.mono (fun i _ hl=>b6.block i hl) b6.size (fun k hp _=>by rcases hp with hp | hp;have:=hp.1;omega;have:=hp.1;omega)
  obtain ⟨v6,D6,R6⟩:=(C5.below b6).row
  obtain ⟨a5,c5,hv6⟩:=R6.form
  subst hv6
  have IZ6:Hid (Inw (w5.alloc (.cells #[.int .i64 Y.k,.int .i64 Y.n,stv Y.nm,.slice ay Y.kids.len cy] 34)) (fun k=>k≠n0+1) (.slice a5 C2.length c5) C2):=InA.ofRowN R6 (n0+1) (fun h=>by
   unfold lab5 at h
   split at h
   ·omega
   ·split at h
    ·rename_i h2
     rcases hg5 with h3 | h3 <;> omega
    ·omega)
  have B6:Below w.heap.size w (w5.alloc (.cells #[.int .i64 Y.k,.int .i64 Y.n,stv Y.nm,.slice ay Y.kids.len cy] 34)):=by
   have h4:=B4.size
   exact (⟨K5.os.trans B4.os,K5.tape.trans B4.tape,K5.output.trans B4.output,by omega,fun k hk=>(K5.block k (by omega) (by omega) (by omega)).trans (B4.block k hk)⟩:Below w.heap.size w w5).alloc (by omega) _
  have hl6:n0+1 < (w5.alloc (.cells #[.int .i64 Y.k,.int .i64 Y.n,stv Y.nm,.slice ay Y.kids.len cy] 34)).heap.size:=by simp;omega
  have hnn:∀ k,k=n0+1→w.heap.size≤k:=fun k hk=>by omega
  clear Z5 Z4 P4 S5 b6 hs5 hnb K5 p0 p1 p2 p3 p4 pf hg5 hl5 B4 C5 R6
  rw [exN_out]
  go_upto_region 7 with fail
  generalize w5.alloc (.cells #[.int .i64 Y.k,.int .i64 Y.n,stv Y.nm,.slice ay Y.kids.len cy] 34)=w6 at *
  generalize w5.heap.size=kb at *
  obtain ⟨u0,u1,u2,u3,uf⟩:=box4 X6
  obtain ⟨z0,z1,z2,z3,z4,zf⟩:=box5 Z6
  have d0:w6.cell? ⟨cb,0,none⟩=some (.slice a5 C2.length c5):=by rw [cell_of_row _ _ _ _ _ _ D6];rfl
  have HU:Hid (∃ wz,wz=(((((w6.setCell ⟨n0+1,0,none⟩ (.int .i64 Y.k)).setCell ⟨n0+1,1,none⟩ (.int .i64 Y.n)).setCell ⟨n0+1,2,none⟩ (stv Y.nm)).setCell ⟨n0+1,3,none⟩ (.slice ay Y.kids.len cy)).setCell ⟨n0+1,4,none⟩ (.slice a5 C2.length c5))∧wz.cell? ⟨n0+1,0,none⟩=some (.int .i64 Y.k)∧wz.cell? ⟨n0+1,1,none⟩=some (.int .i64 Y.n)∧wz.cell? ⟨n0+1,2,none⟩=some (stv Y.nm)∧wz.cell? ⟨n0+1,3,none⟩=some (.slice ay Y.kids.len cy)∧wz.cell? ⟨n0+1,4,none⟩=some (.slice a5 C2.length c5)∧PostHd w e cells (.returned (.tuple #[.agg #[.int .i64 Y.k,.int .i64 Y.n,stv Y.nm,.slice ay Y.kids.len cy,.slice a5 C2.length c5],.int .i64 0])) wz.drew):=by
   obtain ⟨u0,u1,u2,u3,u4,-⟩:=box5 (set5k (.int .i64 Y.k) (.int .i64 Y.n) (stv Y.nm) (.slice ay Y.kids.len cy) (.slice a5 C2.length c5) Z6)
   obtain ⟨wz,hwz⟩:∃ wz,wz=(((((w6.setCell ⟨n0+1,0,none⟩ (.int .i64 Y.k)).setCell ⟨n0+1,1,none⟩ (.int .i64 Y.n)).setCell ⟨n0+1,2,none⟩ (stv Y.nm)).setCell ⟨n0+1,3,none⟩ (.slice ay Y.kids.len cy)).setCell ⟨n0+1,4,none⟩ (.slice a5 C2.length c5)):=⟨_,rfl⟩
   refine ⟨wz,hwz,by rw [hwz];exact u0,by rw [hwz];exact u1,by rw [hwz];exact u2,by rw [hwz];exact u3,by rw [hwz];exact u4,?_⟩
   have bz:Below (n0+1) w6 wz:=by
    rw [hwz]
    exact (((((Below.refl _ w6).setCell (p:=⟨n0+1,0,none⟩) (Nat.le_refl _) _).setCell (p:=⟨n0+1,1,none⟩) (Nat.le_refl _) _).setCell (p:=⟨n0+1,2,none⟩) (Nat.le_refl _) _).setCell (p:=⟨n0+1,3,none⟩) (Nat.le_refl _) _).setCell (p:=⟨n0+1,4,none⟩) (Nat.le_refl _) _
   have hb2:∀ k,k≠n0+1→wz.heap[k]?=w6.heap[k]?:=fun k hk=>by rw [hwz];exact heap_set5 w6 (n0+1) k _ _ _ _ _ hk
   refine HPS.out _ _ ⟨ay,cy,_,rfl,SZ6.out.mono (fun k hp _=>hb2 k hp) (by rw [hwz];simp) (fun _ _ _=>trivial),IZ6.out.mono (fun k hp _=>hb2 k hp) (by rw [hwz];simp) (fun _ _ _=>trivial),?_⟩
   have hn:=HB.out
   exact (B6.trans (bz.mono (by omega))).drew
  clear D6 X6 Z6 B6 SZ6 IZ6 HPS
  go_region
  all_goals (
   go_wp2
   obtain ⟨wz,hwz,v0,v1,v2,v3,v4,PZ⟩:=HU.out
   rw [←hwz]
   exact bodyPost_ret (v:=.tuple #[.agg #[.int .i64 Y.k,.int .i64 Y.n,stv Y.nm,.slice ay Y.kids.len cy,.slice a5 C2.length c5],.int .i64 0]) (by simp [results,Tryz.results24,go_sem,v0,v1,v2,v3,v4]) rfl PZ)
end Go.Proofs.YtaihhnlfcndecaaGreatDoor
namespace Go.Proofs.YtaihhnlfcndecaaGreatDoor
set_option linter.unusedVariables false
set_option linter.unusedSimpArgs false
def lastI:List (List UInt8)→List UInt8→Nat→Int→Int
 | [],_,_,d=>d
 | b :: r,nm,i,d=>lastI r nm (i+1) (if b=nm then (i:Int) else d)
def innB (pk:Int) (pn:List UInt8) (i:Nat) (bd:List (List UInt8)):List (List UInt8):=if pk=21∧i=1 then bd++[pn] else bd
def ofF:Fs→Int→List UInt8→Nat→List (List UInt8)→Fs
 | ⟨none⟩,_,_,_,_=>.nil
 | ⟨some ⟨k,n,nm,a,ks,r⟩⟩,pk,pn,i,bd =>
  if k=4 then .cons 5 (lastI (innB pk pn i bd) nm 0 n) [] 0 .nil (ofF r pk pn (i+1) bd)
  else .cons k n (if k=23 then nm else []) 0 (ofF ks k nm 0 (innB pk pn i bd)) (ofF r pk pn (i+1) bd)
def ofE (e:Ex) (bd:List (List UInt8)):Ex :=
 if e.k=4 then ⟨5,lastI bd e.nm 0 e.n,[],0,.nil⟩ else ⟨e.k,e.n,if e.k=23 then e.nm else [],0,ofF e.kids e.k e.nm 0 bd⟩
theorem of_cons (k n:Int) (nm:List UInt8) (a:Int) (ks r:Fs) (pk:Int) (pn:List UInt8) (i:Nat) (bd:List (List UInt8)) :
  ofF (.cons k n nm a ks r) pk pn i bd=Fs.ex (ofE ⟨k,n,nm,a,ks⟩ (innB pk pn i bd)) (ofF r pk pn (i+1) bd):=by
 conv=>lhs;unfold ofF
 unfold ofE
 simp only
 split <;> rfl
theorem ofF_len:∀ (f:Fs) (pk:Int) (pn:List UInt8) (i:Nat) (bd:List (List UInt8)),(ofF f pk pn i bd).len=f.len
 | ⟨none⟩,pk,pn,i,bd=>rfl
 | ⟨some ⟨k,n,nm,a,ks,r⟩⟩,pk,pn,i,bd=>by
  have h:=of_cons k n nm a ks r pk pn i bd
  show (ofF (.cons k n nm a ks r) pk pn i bd).len=r.len+1
  rw [h]
  show (ofF r pk pn (i+1) bd).len+1=_
  rw [ofF_len r pk pn (i+1) bd]
theorem ofF_size:∀ (f:Fs) (pk:Int) (pn:List UInt8) (i:Nat) (bd:List (List UInt8)),(ofF f pk pn i bd).size≤f.size
 | ⟨none⟩,pk,pn,i,bd=>Nat.le_refl _
 | ⟨some ⟨k,n,nm,a,ks,r⟩⟩,pk,pn,i,bd=>by
  have h2:=ofF_size r pk pn (i+1) bd
  have h1:=ofF_size ks k nm 0 (innB pk pn i bd)
  show (ofF _ pk pn i bd).size≤ks.size+r.size+1
  unfold ofF
  split
  ·show 0+(ofF r pk pn (i+1) bd).size+1≤_
   omega
  ·show (ofF ks k nm 0 (innB pk pn i bd)).size+(ofF r pk pn (i+1) bd).size+1≤_
   omega
theorem ofF_short:∀ (f:Fs) (pk:Int) (pn:List UInt8) (i:Nat) (bd:List (List UInt8)),f.short→(ofF f pk pn i bd).short
 | ⟨none⟩,pk,pn,i,bd,h=>trivial
 | ⟨some ⟨k,n,nm,a,ks,r⟩⟩,pk,pn,i,bd,h=>by
  have h2:=ofF_short r pk pn (i+1) bd h.2.2.2
  have h1:=ofF_short ks k nm 0 (innB pk pn i bd) h.2.2.1
  unfold ofF
  split
  ·exact ⟨by simp,by show 0≤_;omega,trivial,h2⟩
  ·refine ⟨?_,by rw [ofF_len];exact h.2.1,h1,h2⟩
   split
   ·exact h.1
   ·simp
theorem ofE_size (e:Ex) (bd:List (List UInt8)):(ofE e bd).kids.size≤e.kids.size:=by
 unfold ofE
 split
 ·show 0≤_;omega
 ·exact ofF_size _ _ _ _ _
theorem ofE_len (e:Ex) (bd:List (List UInt8)):(ofE e bd).kids.len≤e.kids.len:=by
 unfold ofE
 split
 ·show 0≤_;omega
 ·rw [ofF_len];exact Nat.le_refl _
theorem ofE_short (e:Ex) (bd:List (List UInt8)) (h:e.kids.short):(ofE e bd).kids.short:=by
 unfold ofE
 split
 ·trivial
 ·exact ofF_short _ _ _ _ _ h
theorem ofE_nm (e:Ex) (bd:List (List UInt8)) (h:e.nm.length≤maxLen):(ofE e bd).nm.length≤maxLen:=by
 unfold ofE
 split
 ·simp
 ·simp only
  split
  ·exact h
  ·simp
end Go.Proofs.YtaihhnlfcndecaaGreatDoor

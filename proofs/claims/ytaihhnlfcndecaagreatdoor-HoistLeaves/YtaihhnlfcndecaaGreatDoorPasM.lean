import Derived.Test.YtaihhnlfcndecaaGreatDoorGudM
namespace Go.Proofs.YtaihhnlfcndecaaGreatDoor
open Go.ChangeShapes Go.WideShapes Go.ChangeAt Go.RowKit
set_option linter.unusedVariables false
set_option linter.unusedSimpArgs false
def awH:List UInt8:=[115,117,109,32,118,32,105,110,32,118,101,114,116,105,99,101,115,58,32,115,105,122,101,40,64,49,41]
def cel2:Fs→Bool
 | ⟨some ⟨_,_,_,_,_,⟨some ⟨k,_,_,_,_,⟨none⟩⟩⟩⟩⟩=>k == 26
 | _=>false
def awHb (l:List UInt8):Bool:=match parseA l with
 | ⟨some (.inr (x,_))⟩=>decide ((typA x).2.1=0) && (decide (kindP [] (ofE x [])≠0) && (cel2 (hstE (ofE x []) 0 0 []).1.kids && decide ((hstE (ofE x []) 0 0 []).2=[0])))
 | _=>false
theorem aw_h:awHb awH=true:=by kernel_rfl
theorem awHb_some {l:List UInt8} (h:awHb l=true):∃ x t,parseA l=.ok x t∧(typA x).2.1=0∧kindP [] (ofE x [])≠0∧cel2 (hstE (ofE x []) 0 0 []).1.kids=true∧(hstE (ofE x []) 0 0 []).2=[0]:=by
 unfold awHb at h
 cases hp:parseA l using Rs.on with
 | out=>rw [hp] at h;cases h
 | bad e a=>rw [hp] at h;cases h
 | ok x t =>
  rw [hp] at h
  simp only [Rs.ok,Bool.and_eq_true,decide_eq_true_eq] at h
  exact ⟨x,t,rfl,h.1,h.2.1,h.2.2.1,h.2.2.2⟩
theorem PostOf.ok {w w':World} {e:Ex} {x:Ending} (h:PostOf w e x w') (ht:(typA e).2.1=0):∃ ay cy,x=.returned (.tuple #[plV (ofE e []) ay cy (.slice none 0 0),.int .i64 0])∧SlN w' (Nw w.heap.size) (ofE e []).kids ay∧Below w.heap.size w w':=by
 unfold PostOf at h
 rw [if_pos ht] at h
 exact h
theorem PostHs.ok {w w':World} {e:Ex} {cells:List Int} {x:Ending} (h:PostHs w e cells x w') (hk:kindP cells e≠0):∃ g ay cy v,x=.returned (.tuple #[plV (hstE e 0 0 cells).1 ay cy v,.int .i64 0])∧SlcN w' (fun k=>w.heap.size≤k∧k≠g) (hstE e 0 0 cells).1.kids ay cy∧w'.ownsRow 0 3 1 v (hstE e 0 0 cells).2.length ((hstE e 0 0 cells).2.map (Value.int .i64))∧(∀ k,v.ownBlock=some k→k=g∧w.heap.size≤k)∧Below w.heap.size w w':=by
 unfold PostHs at h
 rw [if_neg hk] at h
 exact h
theorem cel2_of:∀ {f:Fs},cel2 f=true→∃ (y:Ex) (n:Int) (nm:List UInt8) (a:Int) (ks:Fs),f=(one y).app (.cons 26 n nm a ks .nil)
 | ⟨none⟩,h=>by cases h
 | ⟨some ⟨k,n,nm,a,ks,⟨none⟩⟩⟩,h=>by cases h
 | ⟨some ⟨k,n,nm,a,ks,⟨some ⟨k2,n2,nm2,a2,ks2,⟨some z⟩⟩⟩⟩⟩,h=>by cases h
 | ⟨some ⟨k,n,nm,a,ks,⟨some ⟨k2,n2,nm2,a2,ks2,⟨none⟩⟩⟩⟩⟩,h=>by
  have h:(k2 == 26)=true:=h
  have h:k2=26:=by simpa using h
  subst h
  exact ⟨⟨k,n,nm,a,ks⟩,n2,nm2,a2,ks2,rfl⟩
set_option maxRecDepth 100000 in
set_option maxHeartbeats 2000000 in
theorem awakeh_r (w:World) (hW:Wd w):Calls Tryz.prog 23 #[] w fun e w'=>e=.returned (.bool true)∧Below w.heap.size w w':=by
 obtain ⟨x,t,hx,ht,hk,hcel,hcs⟩:=awHb_some aw_h
 have hok:=parse_okT hx
 have c1:=parse_q ⟨awH.toArray⟩ w (by decide)
 have e1:(ByteArray.mk awH.toArray).data.toList=awH:=by simp
 rw [e1,hx] at c1
 have hfp:FitN (ofE x []):=⟨ofE_nm x [] hok.fit.nm,Nat.le_trans (ofE_len x []) hok.fit.len,ofE_short x [] hok.fit.sh⟩
 have hsp:((ofE x []).kids.size:Int)+2≤1000000000:=by have:=ofE_size x [];have:=hok.size;omega
 clear e1 hx
 go_enter Tryz.func23,Tryz.ntmps23
 go_wp2_with fail
 refine c1.mono ?_
 rintro e w1 ⟨aox,capx,rfl,S1,b1⟩
 clear c1
 have b2:Below w1.heap.size w1 (w1.alloc (.cells #[.int .i64 x.k,.int .i64 x.n,stv x.nm,.slice aox x.kids.len capx,.int .i64 x.a] 25)):=(Below.refl _ w1).alloc (Nat.le_refl _) _
 have X2:(w1.alloc (.cells #[.int .i64 x.k,.int .i64 x.n,stv x.nm,.slice aox x.kids.len capx,.int .i64 x.a] 25)).heap[w1.heap.size]?=some (.cells #[.int .i64 x.k,.int .i64 x.n,stv x.nm,.slice aox x.kids.len capx,.int .i64 x.a] 25 (0,0)):=heap_alloc_new w1 _
 have B2:=b1.trans (b2.mono b1.size)
 have S2:SlT (w1.alloc (.cells #[.int .i64 x.k,.int .i64 x.n,stv x.nm,.slice aox x.kids.len capx,.int .i64 x.a] 25)) x.kids aox:=SlT.below (Sl.all S1) b2
 rw [exV_out]
 go_upto_region 2 with fail
 generalize w1.alloc (.cells #[.int .i64 x.k,.int .i64 x.n,stv x.nm,.slice aox x.kids.len capx,.int .i64 x.a] 25)=w2 at *
 generalize w1.heap.size=bx at *
 have c3:=of14_c x aox capx w2 hok.fit (by have:=hok.size;omega) S2
 rw [exV_out] at c3
 obtain ⟨p0,p1,p2,p3,p4,pf⟩:=box5 X2
 go_wp2_with fail
 refine c3.mono ?_
 intro e w3 h3
 have h3:=h3.ok ht
 clear c3
 generalize ofE x []=p at *
 obtain ⟨ap,cp,rfl,S3,b3⟩:=h3
 have B3:=B2.trans (b3.mono B2.size)
 clear p0 p1 p2 p3 p4 pf b1 b2 b3 B2 S2 X2 S1 hok ht
 have b4:Below w3.heap.size w3 (w3.alloc (.cells #[.int .i64 p.k,.int .i64 p.n,stv p.nm,.slice ap p.kids.len cp,.slice none 0 0] 37)):=(Below.refl _ w3).alloc (Nat.le_refl _) _
 have X4:(w3.alloc (.cells #[.int .i64 p.k,.int .i64 p.n,stv p.nm,.slice ap p.kids.len cp,.slice none 0 0] 37)).heap[w3.heap.size]?=some (.cells #[.int .i64 p.k,.int .i64 p.n,stv p.nm,.slice ap p.kids.len cp,.slice none 0 0] 37 (0,0)):=heap_alloc_new w3 _
 have B4:=B3.trans (b4.mono B3.size)
 have S4:=SnA.below S3.all b4
 rw [plV_out]
 go_upto_region 3 with fail
 generalize w3.alloc (.cells #[.int .i64 p.k,.int .i64 p.n,stv p.nm,.slice ap p.kids.len cp,.slice none 0 0] 37)=w4 at *
 generalize w3.heap.size=bp at *
 have c5:=hoist_c p ap cp (.slice none 0 0) [] w4 hfp hsp (hW.below B4) ⟨none,0,rfl,.inl rfl⟩ (by simp) S4
 rw [plV_out] at c5
 obtain ⟨p0,p1,p2,p3,p4,pf⟩:=box5 X4
 go_wp2_with fail
 refine c5.mono ?_
 intro e w5 h5
 have h5:=h5.ok hk
 clear c5
 generalize hstE p 0 0 []=yy at *
 obtain ⟨Y,C2⟩:=yy
 simp only at h5 hcel hcs
 subst hcs
 obtain ⟨y0,n2,nm2,a2,ks2,hYk⟩:=cel2_of hcel
 obtain ⟨g,ay,cy,v,rfl,S5,own5,-,b5⟩:=h5
 have B5:=B4.trans (b5.mono B4.size)
 have R5:Row w5 (fun _=>0) 0 3 1 v 1 [.int .i64 0]:=⟨own5,fun _ _=>rfl⟩
 obtain ⟨g5,c5',hv,-,-,-,hl5,hc5,-⟩:=R5.pos (by decide)
 subst hv
 have d0:w5.cell? ⟨g5,0,none⟩=some (.int .i64 0):=hc5 0 (by decide)
 have S5':SnA w5 ((one y0).app (.cons 26 n2 nm2 a2 ks2 .nil)) ay:=by rw [←hYk];exact S5.sl.all
 obtain ⟨b,off,ak,ck,hay,lb,-,x0,-,-,-,-⟩:=SlN.kidQ S5'
 subst hay
 have hlY:Y.kids.len=2:=by rw [hYk];rfl
 have hone:(one y0).len=1:=rfl
 rw [hone] at x0
 clear p0 p1 p2 p3 p4 pf S5 S5' own5 R5 hc5 hYk hcel hk hone B3 B4 S4 X4 S3 hfp hsp b4 b5
 rw [plV_out,hlY]
 have b6:Below w5.heap.size w5 (w5.alloc (.cells #[.int .i64 Y.k,.int .i64 Y.n,stv Y.nm,.slice (some ⟨b,off,none⟩) 2 cy,.slice (some ⟨g5,0,none⟩) 1 c5'] 37)):=(Below.refl _ w5).alloc (Nat.le_refl _) _
 have X6:(w5.alloc (.cells #[.int .i64 Y.k,.int .i64 Y.n,stv Y.nm,.slice (some ⟨b,off,none⟩) 2 cy,.slice (some ⟨g5,0,none⟩) 1 c5'] 37)).heap[w5.heap.size]?=some (.cells #[.int .i64 Y.k,.int .i64 Y.n,stv Y.nm,.slice (some ⟨b,off,none⟩) 2 cy,.slice (some ⟨g5,0,none⟩) 1 c5'] 37 (0,0)):=heap_alloc_new w5 _
 have B6:=B5.trans (b6.mono B5.size)
 have d6:=(b6.cell (p:=⟨g5,0,none⟩) hl5).trans d0
 have x6:=(b6.cell (p:=⟨b,off+1 * 4,none⟩) lb).trans x0
 clear d0 x0 b6 B5 hlY
 go_upto_region 4 with fail
 generalize w5.alloc (.cells #[.int .i64 Y.k,.int .i64 Y.n,stv Y.nm,.slice (some ⟨b,off,none⟩) 2 cy,.slice (some ⟨g5,0,none⟩) 1 c5'] 37)=w6 at *
 generalize w5.heap.size=bq at *
 obtain ⟨p0,p1,p2,p3,p4,pf⟩:=box5 X6
 clear X6
 go_wp2
 go_ret
 exact ⟨rfl,B6⟩
theorem hstF_len:∀ (f:Fs) (pk:Int) (i:Nat) (ar rc:Int) (cs:List Int),(hstF f pk i ar rc cs).1.len=f.len
 | ⟨none⟩,pk,i,ar,rc,cs=>rfl
 | ⟨some ⟨k,n,nm,a,ks,r⟩⟩,pk,i,ar,rc,cs=>by
  have h:=hst_cons k n nm a ks r pk i ar rc cs
  show (hstF (.cons k n nm a ks r) pk i ar rc cs).1.len=r.len+1
  rw [h]
  show (hstF r pk (i+1) ar rc _).1.len+1=_
  rw [hstF_len r pk (i+1) ar rc _]
theorem hstF_short:∀ (f:Fs) (pk:Int) (i:Nat) (ar rc:Int) (cs:List Int),f.short→(hstF f pk i ar rc cs).1.short
 | ⟨none⟩,pk,i,ar,rc,cs,h=>trivial
 | ⟨some ⟨k,n,nm,a,ks,r⟩⟩,pk,i,ar,rc,cs,h=>by
  unfold hstF
  simp only
  split
  ·exact ⟨h.1,h.2.1,h.2.2.1,hstF_short r _ _ _ _ _ h.2.2.2⟩
  ·split
   ·exact ⟨by simp,by show 0+1≤_;omega,⟨h.1,by rw [hstF_len];exact h.2.1,hstF_short ks _ _ _ _ _ h.2.2.1,trivial⟩,hstF_short r _ _ _ _ _ h.2.2.2⟩
   ·exact ⟨h.1,by rw [hstF_len];exact h.2.1,hstF_short ks _ _ _ _ _ h.2.2.1,hstF_short r _ _ _ _ _ h.2.2.2⟩
theorem hstE_fit {e:Ex} (ar rc:Int) (cs:List Int) (h:FitN e):FitN (hstE e ar rc cs).1:=by
 unfold hstE hstK
 split
 ·exact h
 ·split
  ·exact ⟨by simp,by show 0+1≤_;omega,⟨h.nm,by show (hstF _ _ _ _ _ _).1.len≤_;rw [hstF_len];exact h.len,hstF_short _ _ _ _ _ _ h.sh,trivial⟩⟩
  ·exact ⟨h.nm,by show (hstF _ _ _ _ _ _).1.len≤_;rw [hstF_len];exact h.len,hstF_short _ _ _ _ _ _ h.sh⟩
end Go.Proofs.YtaihhnlfcndecaaGreatDoor

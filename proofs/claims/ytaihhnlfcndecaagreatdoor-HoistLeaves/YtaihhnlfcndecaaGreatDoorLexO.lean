import Derived.Test.YtaihhnlfcndecaaGreatDoorLexY
import Derived.Deep.CutBlock
import Derived.Deep.DeepCutAuto
namespace Go.Proofs.YtaihhnlfcndecaaGreatDoor
open Go.ChangeShapes Go.WideShapes Go.ChangeAt Go.RowKit
set_option linter.unusedVariables false
def sgnU (l:List UInt8):List UInt8 :=
 match l with
 | []=>[]
 | c :: r=>if (c.toNat=33∨c.toNat=60)∧r.head?=some 61 then [c,61] else if sgn c.toNat=true∧c.toNat≠33 then [c] else []
theorem sign_read (c:UInt8) (r:List UInt8) (q:Nat) (h1:blk c.toNat=false) (h2:ltr c.toNat=false) (h3:dig c.toNat=false) :
  (sgnU (c :: r)=[]∧lexL 0 [] q q (c :: r)=.inl (110,q))∨(sgnU (c :: r)≠[]∧(sgnU (c :: r)).length≤(c :: r).length∧lexL 0 [] q q (c :: r)=consR ⟨4,0,sgnU (c :: r),q⟩ (lexL 0 [] (q+(sgnU (c :: r)).length) (q+(sgnU (c :: r)).length) ((c :: r).drop (sgnU (c :: r)).length))):=by
 cases h4:sgn c.toNat
 ·left
  have hc:cls c.toNat=4:=by simp [cls,h1,h2,h3,h4]
  refine ⟨?_,?_⟩
  ·unfold sgnU
   simp only
   rw [if_neg,if_neg (by rw [h4];simp)]
   rintro ⟨h5 | h5,_⟩ <;> (rw [h5] at h4;cases h4)
  ·rw [lexL_no (k:=0) (by exact h1),hc,lexL_four]
   rfl
 ·have hc:cls c.toNat=3:=by simp [cls,h1,h2,h3,h4]
  by_cases h5:(c.toNat=33∨c.toNat=60)∧r.head?=some 61
  ·right
   have hu:sgnU (c :: r)=[c,61]:=by
    unfold sgnU
    simp only
    rw [if_pos h5]
   obtain ⟨h6,h7⟩:=h5
   cases r with
   | nil=>cases h7
   | cons d r' =>
    injection h7 with h7
    subst h7
    rw [hu]
    refine ⟨by simp,by simp,?_⟩
    have hcc:c=33∨c=60:=by
     rcases h6 with h6 | h6
     ·exact .inl (UInt8.toNat.inj h6)
     ·exact .inr (UInt8.toNat.inj h6)
    have hP:Pce 3 [c,61]:=by
     have h8:Pce 3 [c]:=by rw [←hc];exact Pce.one c (by rw [hc];omega)
     refine h8.more 61 ?_
     rcases hcc with rfl | rfl <;> rfl
    have hr:=hP.reads q r' (fun d m _=>by
     rw [tks_sgn]
     rcases hcc with rfl | rfl <;> simp)
    show lexL 0 [] q q ([c,61]++r')=_
    rw [hr]
    unfold shutP
    rw [if_neg (by omega)]
    have hs:ptok 3 [c,61] q=.inr ⟨4,0,[c,61],q⟩:=by
     show sgnT [c,61] q=_
     unfold sgnT
     rw [if_neg (by simp)]
    rw [hs]
    rfl
  ·have h8:Pce 3 [c]:=by rw [←hc];exact Pce.one c (by rw [hc];omega)
   have hr:=h8.reads q r (fun d m e=>by
    subst e
    rw [tks_sgn]
    rw [←Bool.not_eq_true]
    intro hh
    simp only [Bool.and_eq_true,Bool.or_eq_true,beq_iff_eq,List.cons.injEq,and_true] at hh
    apply h5
    refine ⟨?_,?_⟩
    ·rcases hh.2 with h | h
     ·left;rw [h];rfl
     ·right;rw [h];rfl
    ·show some d=some 61
     congr 1
     exact UInt8.toNat.inj hh.1)
   have hr':lexL 0 [] q q (c :: r)=shutP 3 [c] q (lexL 0 [] (q+1) (q+1) r):=hr
   by_cases h33:c.toNat=33
   ·left
    have hc33:c=33:=UInt8.toNat.inj h33
    refine ⟨?_,?_⟩
    ·unfold sgnU
     simp only
     rw [if_neg h5,if_neg (by simp [h33])]
    ·rw [hr',hc33]
     rfl
   ·right
    have hu:sgnU (c :: r)=[c]:=by
     unfold sgnU
     simp only
     rw [if_neg h5,if_pos ⟨h4,h33⟩]
    rw [hu]
    refine ⟨by simp,by simp,?_⟩
    rw [hr']
    unfold shutP
    rw [if_neg (by omega)]
    have hs:ptok 3 [c] q=.inr ⟨4,0,[c],q⟩:=by
     show sgnT [c] q=_
     unfold sgnT
     rw [if_neg (by intro e;injection e with e _;rw [e] at h33;exact h33 rfl)]
    rw [hs]
    rfl
def sgA (i:Nat):Nat :=
 match i with
 | 0=>40 | 1=>41 | 2=>123 | 3=>125 | 4=>44 | 5=>58 | 6=>64 | 7=>43 | 8=>45 | 9=>42 | 10=>47 | 11=>37 | 12=>61 | _=>60
theorem sgA_sgn (r:Nat):(sgn r=true∧r≠33) ↔ ∃ i,i < 14∧sgA i=r:=by
 constructor
 ·rintro ⟨h,h33⟩
  simp [sgn,or_assoc] at h
  rcases h with h | h | h | h | h | h | h | h | h | h | h | h | h | h | h
  ·exact ⟨0,by omega,h.symm⟩
  ·exact ⟨1,by omega,h.symm⟩
  ·exact ⟨2,by omega,h.symm⟩
  ·exact ⟨3,by omega,h.symm⟩
  ·exact ⟨4,by omega,h.symm⟩
  ·exact ⟨5,by omega,h.symm⟩
  ·exact ⟨6,by omega,h.symm⟩
  ·exact ⟨7,by omega,h.symm⟩
  ·exact ⟨8,by omega,h.symm⟩
  ·exact ⟨9,by omega,h.symm⟩
  ·exact ⟨10,by omega,h.symm⟩
  ·exact ⟨11,by omega,h.symm⟩
  ·exact ⟨12,by omega,h.symm⟩
  ·exact absurd h h33
  ·exact ⟨13,by omega,h.symm⟩
 ·rintro ⟨i,hi,rfl⟩
  match i,hi with
  | 0,_=>exact ⟨rfl,by decide⟩
  | 1,_=>exact ⟨rfl,by decide⟩
  | 2,_=>exact ⟨rfl,by decide⟩
  | 3,_=>exact ⟨rfl,by decide⟩
  | 4,_=>exact ⟨rfl,by decide⟩
  | 5,_=>exact ⟨rfl,by decide⟩
  | 6,_=>exact ⟨rfl,by decide⟩
  | 7,_=>exact ⟨rfl,by decide⟩
  | 8,_=>exact ⟨rfl,by decide⟩
  | 9,_=>exact ⟨rfl,by decide⟩
  | 10,_=>exact ⟨rfl,by decide⟩
  | 11,_=>exact ⟨rfl,by decide⟩
  | 12,_=>exact ⟨rfl,by decide⟩
  | 13,_=>exact ⟨rfl,by decide⟩
set_option maxHeartbeats 1000000 in
theorem sign_loop (s:ByteArray) (w:World) (h0:0 < s.size) (hs:s.size≤2000) (hx:s.size≤1∨(1 < s.size∧¬ (s.extract 0 2).toList=[33,61]∧¬ (s.extract 0 2).toList=[60,61])) (R:ByteArray) (hR:(∃ i,i < 14∧sgA i=(s[0]'h0).toNat)∧R=s.extract 0 1∨(∀ i,i < 14→sgA i≠(s[0]'h0).toNat)∧R=⟨#[]⟩) :
  Calls Tryz.prog 93 #[.string s] w fun e w'=>e=.returned (.string R)∧Below w.heap.size w w':=by
 have HR:=Lib.hid hR
 have hb:(s[0]'h0).toNat < 256:=UInt8.toNat_lt _
 have h0I:(0:Int) < (s.size:Int):=by omega
 have h1s:(1:Int)≤(s.size:Int):=by omega
 clear hR
 rcases hx with hx | ⟨hx0,hx1,hx2⟩
 ·have h1I:¬ (1:Int) < (s.size:Int):=by omega
  go_enter Tryz.func93,Tryz.ntmps93
  go_upto_region 4 with fail
  obtain ⟨A,hA⟩:∃ A:ByteArray,A=⟨#[40,41,123,125,44,58,64,43,45,42,47,37,61,60]⟩:=⟨_,rfl⟩
  rw [←hA]
  have hAs:A.size=14:=by rw [hA];rfl
  have HAA:Hid (∀ i (h:i < A.size),(A[i]).toNat=sgA i):=by
   intro i h
   subst hA
   match i,h with
   | 0,_=>rfl
   | 1,_=>rfl
   | 2,_=>rfl
   | 3,_=>rfl
   | 4,_=>rfl
   | 5,_=>rfl
   | 6,_=>rfl
   | 7,_=>rfl
   | 8,_=>rfl
   | 9,_=>rfl
   | 10,_=>rfl
   | 11,_=>rfl
   | 12,_=>rfl
   | 13,_=>rfl
  clear hA
  go_wp2_with fail
  go_loopw [4] (fun v wr=>∃ k m:Nat,v=.int .i64 (k:Nat)∧k≤14∧(∀ j,j < k→sgA j≠(s[0]'h0).toNat)∧wr=w.drewN m) (fun v _=>14 - (intOf v).toNat)
  case atStart=>exact ⟨0,0,by go_num,by omega,fun j h=>by omega,rfl⟩
  case round =>
   obtain ⟨k,m,rfl,hk,hin,rfl⟩:=hrel
   by_cases hlt:k < 14
   ·have hkI:(k:Int) < 14:=by omega
    have hkA:k < A.size:=by omega
    have hak:=HAA.out k hkA
    by_cases he:sgA k=(s[0]'h0).toNat
    ·have hRR:R=s.extract 0 1:=by
      rcases HR.out with ⟨_,h⟩ | ⟨h,_⟩
      ·exact h
      ·exact absurd he (h k hlt)
     have HRR:=Lib.hid hRR
     rw [he] at hak
     clear hRR hin he
     go_wp2
     go_quiet (fail)
     go_wp2
     go_ret
     exact ⟨by rw [HRR.out];rfl,bdr (b0 _) _⟩
    ·have hakI:((A[k]'hkA).toNat:Int)≠((s[0]'h0).toNat:Int):=by omega
     have hakB:(((A[k]'hkA).toNat:Int) == ((s[0]'h0).toNat:Int))=false:=by simpa using hakI
     have hakB2:((A[k]'hkA).toNat == (s[0]'h0).toNat)=false:=by simp;omega
     have RL:∀ j,j < k+1→sgA j≠(s[0]'h0).toNat:=fun j h=>by
      by_cases e:j=k
      ·subst e;exact he
      ·exact hin j (by omega)
     clear hin he hak
     go_wp2
     go_quiet (fail)
     rename_i nq
     go_wp2
     go_roundw
     case rel=>(try ((repeat apply Exists.intro);refine ⟨?_,rfl⟩));exact ⟨k+1,m+nq,by go_num,by omega,RL,by first | trivial | rw [World.drewN_drewN] | simp⟩
     case measure=>simp [intOf];omega
   ·obtain rfl:k=14:=by omega
    have hRR:R=⟨#[]⟩:=by
     rcases HR.out with ⟨⟨i,h1,h2⟩,_⟩ | ⟨_,h⟩
     ·exact absurd h2 (hin i h1)
     ·exact h
    have HRR:=Lib.hid hRR
    clear hRR hin
    go_wp2
    go_ret
    exact ⟨by rw [HRR.out];rfl,bdr (b0 _) _⟩
 ·have h1I:(1:Int) < (s.size:Int):=by omega
  have h2I:(2:Int)≤(s.size:Int):=by omega
  have x1:((s.extract 0 2).toList == [33,61])=false:=beq_eq_false_iff_ne.2 hx1
  have x2:((s.extract 0 2).toList == [60,61])=false:=beq_eq_false_iff_ne.2 hx2
  go_enter Tryz.func93,Tryz.ntmps93
  go_upto_region 4 with fail
  obtain ⟨A,hA⟩:∃ A:ByteArray,A=⟨#[40,41,123,125,44,58,64,43,45,42,47,37,61,60]⟩:=⟨_,rfl⟩
  rw [←hA]
  have hAs:A.size=14:=by rw [hA];rfl
  have HAA:Hid (∀ i (h:i < A.size),(A[i]).toNat=sgA i):=by
   intro i h
   subst hA
   match i,h with
   | 0,_=>rfl
   | 1,_=>rfl
   | 2,_=>rfl
   | 3,_=>rfl
   | 4,_=>rfl
   | 5,_=>rfl
   | 6,_=>rfl
   | 7,_=>rfl
   | 8,_=>rfl
   | 9,_=>rfl
   | 10,_=>rfl
   | 11,_=>rfl
   | 12,_=>rfl
   | 13,_=>rfl
  clear hA
  go_wp2_with fail
  go_loopw [4] (fun v wr=>∃ k m:Nat,v=.int .i64 (k:Nat)∧k≤14∧(∀ j,j < k→sgA j≠(s[0]'h0).toNat)∧wr=w.drewN m) (fun v _=>14 - (intOf v).toNat)
  case atStart=>exact ⟨0,0,by go_num,by omega,fun j h=>by omega,rfl⟩
  case round =>
   obtain ⟨k,m,rfl,hk,hin,rfl⟩:=hrel
   by_cases hlt:k < 14
   ·have hkI:(k:Int) < 14:=by omega
    have hkA:k < A.size:=by omega
    have hak:=HAA.out k hkA
    by_cases he:sgA k=(s[0]'h0).toNat
    ·have hRR:R=s.extract 0 1:=by
      rcases HR.out with ⟨_,h⟩ | ⟨h,_⟩
      ·exact h
      ·exact absurd he (h k hlt)
     have HRR:=Lib.hid hRR
     rw [he] at hak
     clear hRR hin he
     go_wp2
     go_quiet (fail)
     go_wp2
     go_ret
     exact ⟨by rw [HRR.out];rfl,bdr (b0 _) _⟩
    ·have hakI:((A[k]'hkA).toNat:Int)≠((s[0]'h0).toNat:Int):=by omega
     have hakB:(((A[k]'hkA).toNat:Int) == ((s[0]'h0).toNat:Int))=false:=by simpa using hakI
     have hakB2:((A[k]'hkA).toNat == (s[0]'h0).toNat)=false:=by simp;omega
     have RL:∀ j,j < k+1→sgA j≠(s[0]'h0).toNat:=fun j h=>by
      by_cases e:j=k
      ·subst e;exact he
      ·exact hin j (by omega)
     clear hin he hak
     go_wp2
     go_quiet (fail)
     rename_i nq
     go_wp2
     go_roundw
     case rel=>(try ((repeat apply Exists.intro);refine ⟨?_,rfl⟩));exact ⟨k+1,m+nq,by go_num,by omega,RL,by first | trivial | rw [World.drewN_drewN] | simp⟩
     case measure=>simp [intOf];omega
   ·obtain rfl:k=14:=by omega
    have hRR:R=⟨#[]⟩:=by
     rcases HR.out with ⟨⟨i,h1,h2⟩,_⟩ | ⟨_,h⟩
     ·exact absurd h2 (hin i h1)
     ·exact h
    have HRR:=Lib.hid hRR
    clear hRR hin
    go_wp2
    go_ret
    exact ⟨by rw [HRR.out];rfl,bdr (b0 _) _⟩
theorem two_list (s:ByteArray) (h:1 < s.size):(s.extract 0 2).data.toList=[s[0],s[1]]:=by
 rw [cut_list]
 have hl:=data_len s
 have e:s.data.toList.take 2=[s.data.toList[0]'(by omega),s.data.toList[1]'(by omega)]:=by
  rw [List.take_add_one,List.take_add_one,List.take_zero,List.getElem?_eq_getElem (by omega),List.getElem?_eq_getElem (by omega)]
  rfl
 rw [e,data_get s 0 (by omega),data_get s 1 h]
theorem cons_list (s:ByteArray) (h:0 < s.size):s.data.toList=s[0] :: s.data.toList.drop 1:=by
 have hl:=data_len s
 have:=drop_at s.data.toList 0 (by omega)
 rw [List.drop_zero,data_get s 0 h] at this
 exact this
theorem sign_r (s:ByteArray) (w:World) (h0:0 < s.size) (hs:s.size≤2000) :
  Calls Tryz.prog 93 #[.string s] w fun e w'=>e=.returned (.string ⟨(sgnU s.data.toList).toArray⟩)∧Below w.heap.size w w':=by
 have hl:=data_len s
 have hcl:=cons_list s h0
 by_cases h2:1 < s.size∧((s[0]'h0).toNat=33∨(s[0]'h0).toNat=60)∧(s.data.toList.drop 1).head?=some 61
 ·obtain ⟨h1,h3,h4⟩:=h2
  have hu:sgnU s.data.toList=[s[0],61]:=by
   rw [hcl]
   unfold sgnU
   simp only
   rw [if_pos ⟨h3,h4⟩]
  have h5:s[1]'h1=61:=by
   rw [List.head?_drop,List.getElem?_eq_getElem (by omega),data_get s 1 h1] at h4
   injection h4
  have htl:=two_list s h1
  rw [h5] at htl
  have hR:s.extract 0 2=⟨(sgnU s.data.toList).toArray⟩:=by
   rw [hu,←htl,back_text]
  have HR:=Lib.hid hR
  have h1I:(1:Int) < (s.size:Int):=by omega
  have h2I:(2:Int)≤(s.size:Int):=by omega
  rcases h3 with h3 | h3
  ·have hc:s[0]'h0=33:=UInt8.toNat.inj h3
   rw [hc] at htl
   have hA:(s.extract 0 2).toList=[33,61]:=by rw [ByteArray.toList_eq];exact htl
   clear hcl hu hR htl hl hc h3 h4 h5
   go_enter Tryz.func93,Tryz.ntmps93
   go_wp2
   go_ret
   exact ⟨by rw [←HR.out];rfl,b0 _⟩
  ·have hc:s[0]'h0=60:=UInt8.toNat.inj h3
   rw [hc] at htl
   have hA:(s.extract 0 2).toList=[60,61]:=by rw [ByteArray.toList_eq];exact htl
   clear hcl hu hR htl hl hc h3 h4 h5
   go_enter Tryz.func93,Tryz.ntmps93
   go_wp2
   go_ret
   exact ⟨by rw [←HR.out];rfl,b0 _⟩
 ·refine sign_loop s w h0 hs ?_ _ ?_
  ·by_cases h1:1 < s.size
   ·right
    have htl:=two_list s h1
    have hh:(s.data.toList.drop 1).head?=some s[1]:=by rw [List.head?_drop,List.getElem?_eq_getElem (by omega),data_get s 1 h1]
    refine ⟨h1,?_,?_⟩
    ·intro e
     rw [ByteArray.toList_eq,htl] at e
     injection e with e1 e2
     injection e2 with e2 _
     exact h2 ⟨h1,.inl (by rw [e1];rfl),by rw [hh,e2]⟩
    ·intro e
     rw [ByteArray.toList_eq,htl] at e
     injection e with e1 e2
     injection e2 with e2 _
     exact h2 ⟨h1,.inr (by rw [e1];rfl),by rw [hh,e2]⟩
   ·left
    omega
  ·have hu:sgnU s.data.toList=if sgn (s[0]'h0).toNat=true∧(s[0]'h0).toNat≠33 then [s[0]] else []:=by
    rw [hcl]
    unfold sgnU
    simp only
    rw [if_neg]
    rintro ⟨h3,h4⟩
    refine h2 ⟨?_,h3,h4⟩
    rw [List.head?_drop] at h4
    by_cases h1:1 < s.size
    ·exact h1
    ·rw [List.getElem?_eq_none (by omega)] at h4
     cases h4
   by_cases h3:sgn (s[0]'h0).toNat=true∧(s[0]'h0).toNat≠33
   ·left
    rw [hu,if_pos h3]
    refine ⟨(sgA_sgn _).1 h3,?_⟩
    rw [ext_eq,hcl]
    rfl
   ·right
    rw [hu,if_neg h3]
    refine ⟨fun i hi e=>h3 ((sgA_sgn _).2 ⟨i,hi,e⟩),rfl⟩
def TokPost (l:List UInt8) (at0:Nat) (e:Ending):Prop :=
 (∃ er:Nat,e=.returned (.tuple #[.agg #[.int .i64 0,.int .i64 0,.string ⟨#[]⟩,.int .i64 0],.int .i64 0,.int .i64 (er:Nat)])∧lexL 0 [] at0 at0 (l.drop at0)=.inl (er,at0)∧er≠0) ∨
 (∃ (x:Tk) (nx:Nat),e=.returned (.tuple #[.agg (tka x),.int .i64 (nx:Nat),.int .i64 0])∧at0 < nx∧nx≤l.length∧lexL 0 [] at0 at0 (l.drop at0)=consR x (lexL 0 [] nx nx (l.drop nx)))
theorem tok3_end {fn:Func} {p u v:Tmp} (h:fn.results=#[.cell p 57,.tmp u,.tmp v]) (tmps:Array Value) (w:World) (g:Nat) (v0 v1 v2 v3:Value) (t:TypeId) (fr:Nat × Nat)
  (hp:tmps.getD p undef=.pointer (some ⟨g,0,none⟩)) (hg:w.heap[g]?=some (.cells #[v0,v1,v2,v3] t fr)) :
  (results fn tmps).run Tryz.prog w=.ok (.tuple #[.agg #[v0,v1,v2,v3],tmps.getD u undef,tmps.getD v undef]) w:=by
 have hl:=run_loadVar_row (P:=Tryz.prog) w g t 57 #[v0,v1,v2,v3] fr _ hg Tryz.underlying57 rfl (by kernel_rfl)
 have hp':tmps[p]?.getD undef=.pointer (some ⟨g,0,none⟩):=by simpa using hp
 simp [results,h,hp',asAddr,hl,Result.andThen]
theorem one_box {w w1:World} {A:Obj} (h:Below (w.alloc A).heap.size (w.alloc A) w1):w1.heap[w.heap.size]?=some A∧Below w.heap.size w w1:=by
 refine ⟨?_,(b1 _ _).trans (h.mono (by simp))⟩
 rw [h.block _ (by simp)]
 exact heap_alloc_new _ _
end Go.Proofs.YtaihhnlfcndecaaGreatDoor

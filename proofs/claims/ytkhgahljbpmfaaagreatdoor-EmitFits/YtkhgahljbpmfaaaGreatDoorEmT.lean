import Derived.Test.YtkhgahljbpmfaaaGreatDoorLexY
import Derived.Defers
import Derived.Recover
import Derived.Laws.Pointers
import Derived.Lib.AtoiAllCases
import Derived.Laws.BitsAllLaws
import Derived.Laws.Bits64
import Derived.Laws.ShiftsVarLaws
import Derived.Below
import Derived.IntWalk
import Derived.Lib.LaidTab
set_option maxRecDepth 100000
set_option maxHeartbeats 8000000
namespace Go.Proofs.YtkhgahljbpmfaaaGreatDoor
open Go.ChangeShapes Go.WideShapes Go.ChangeAt Go.RowKit
set_option linter.unusedVariables false
def sgnU (l:List UInt8):List UInt8 :=
 match l with
 | []=>[]
 | c::r=>if (c.toNat=33\/c.toNat=60)/\r.head?=some 61 then [c,61] else if sgn c.toNat=true/\c.toNat≠33 then [c] else []
theorem sign_read (c:UInt8)(r:List UInt8)(q:Nat)(h1:blk c.toNat=false)(h2:ltr c.toNat=false)(h3:dig c.toNat=false) :
  (sgnU (c::r)=[]/\lexL 0 [] q q (c::r)=.inl (110,q))\/(sgnU (c::r)≠[]/\(sgnU (c::r)).length<=(c::r).length/\lexL 0 [] q q (c::r)=consR ⟨4,0,sgnU (c::r),q⟩ (lexL 0 [] (q+(sgnU (c::r)).length) (q+(sgnU (c::r)).length) ((c::r).drop (sgnU (c::r)).length))):=by
 cases h4:sgn c.toNat
 ·left
  have hc:cls c.toNat=4:=by simp[cls,h1,h2,h3,h4]
  refine⟨?_,?_⟩
  ·unfold sgnU;simp only;rw[if_neg,if_neg (by rw[h4];simp)];rintro ⟨h5|h5,_⟩<;>(rw[h5] at h4;cases h4)
  ·rw[lexL_no (k:=0) (by exact h1),hc,lexL_four];rfl
 ·have hc:cls c.toNat=3:=by simp[cls,h1,h2,h3,h4]
  by_cases h5:(c.toNat=33\/c.toNat=60)/\r.head?=some 61
  ·right
   have hu:sgnU (c::r)=[c,61]:=by
    unfold sgnU;simp only;rw[if_pos h5]
   obtain⟨h6,h7⟩:=h5;cases r with
   | nil=>cases h7
   | cons d r' =>
    injection h7 with h7
    subst h7;rw[hu];refine⟨by simp,by simp,?_⟩;have hcc:c=33\/c=60:=by
     rcases h6 with h6|h6
     ·exact .inl (UInt8.toNat.inj h6)
     ·exact .inr (UInt8.toNat.inj h6)
    have hP:Pce 3 [c,61]:=by
     have h8:Pce 3 [c]:=by rw[<-hc];exact Pce.one c (by rw[hc];omega)
     refine h8.more 61 ?_;rcases hcc with rfl|rfl<;>rfl
    have hr:=hP.reads q r' (fun d m _=>by
     rw[tks_sgn];rcases hcc with rfl|rfl<;>simp)
    show lexL 0 [] q q ([c,61]++r')=_;rw[hr];unfold shutP;rw[if_neg (by omega)];have hs:ptok 3 [c,61] q=.inr ⟨4,0,[c,61],q⟩:=by
     show sgnT [c,61] q=_;unfold sgnT;rw[if_neg (by simp)]
    rw[hs];rfl
  ·have h8:Pce 3 [c]:=by rw[<-hc];exact Pce.one c (by rw[hc];omega)
   have hr:=h8.reads q r (fun d m e=>by
    subst e;rw[tks_sgn];rw[<-Bool.not_eq_true];intro hh;simp only[Bool.and_eq_true,Bool.or_eq_true,beq_iff_eq,List.cons.injEq,and_true] at hh;apply h5;refine⟨?_,?_⟩
    ·rcases hh.2 with h|h
     ·left;rw[h];rfl
     ·right;rw[h];rfl
    ·show some d=some 61
     congr 1
     exact UInt8.toNat.inj hh.1)
   have hr':lexL 0 [] q q (c::r)=shutP 3 [c] q (lexL 0 [] (q+1) (q+1) r):=hr;by_cases h33:c.toNat=33
   ·left
    have hc33:c=33:=UInt8.toNat.inj h33;refine⟨?_,?_⟩
    ·unfold sgnU;simp only;rw[if_neg h5,if_neg (by simp[h33])]
    ·rw[hr',hc33];rfl
   ·right
    have hu:sgnU (c::r)=[c]:=by
     unfold sgnU;simp only;rw[if_neg h5,if_pos ⟨h4,h33⟩]
    rw[hu];refine⟨by simp,by simp,?_⟩;rw[hr'];unfold shutP;rw[if_neg (by omega)];have hs:ptok 3 [c] q=.inr ⟨4,0,[c],q⟩:=by
     show sgnT [c] q=_;unfold sgnT;rw[if_neg (by intro e;injection e with e _;rw[e] at h33;exact h33 rfl)]
    rw[hs];rfl
def sgA (i:Nat):Nat :=
 match i with
 | 0=>40 | 1=>41 | 2=>123 | 3=>125 | 4=>44 | 5=>58 | 6=>64 | 7=>43 | 8=>45 | 9=>42 | 10=>47 | 11=>37 | 12=>61|_=>60
theorem sgA_sgn (r:Nat):(sgn r=true/\r≠33) ↔ ∃i,i<14/\sgA i=r:=by
 constructor
 ·rintro ⟨h,h33⟩;simp[sgn,or_assoc] at h;rcases h with h|h|h|h|h|h|h|h|h|h|h|h|h|h|h
  ·exact⟨0,by omega,h.symm⟩
  ·exact⟨1,by omega,h.symm⟩
  ·exact⟨2,by omega,h.symm⟩
  ·exact⟨3,by omega,h.symm⟩
  ·exact⟨4,by omega,h.symm⟩
  ·exact⟨5,by omega,h.symm⟩
  ·exact⟨6,by omega,h.symm⟩
  ·exact⟨7,by omega,h.symm⟩
  ·exact⟨8,by omega,h.symm⟩
  ·exact⟨9,by omega,h.symm⟩
  ·exact⟨10,by omega,h.symm⟩
  ·exact⟨11,by omega,h.symm⟩
  ·exact⟨12,by omega,h.symm⟩
  ·exact absurd h h33
  ·exact⟨13,by omega,h.symm⟩
 ·rintro ⟨i,hi,rfl⟩
  match i,hi with
  | 0,_=>exact⟨rfl,by decide⟩
  | 1,_=>exact⟨rfl,by decide⟩
  | 2,_=>exact⟨rfl,by decide⟩
  | 3,_=>exact⟨rfl,by decide⟩
  | 4,_=>exact⟨rfl,by decide⟩
  | 5,_=>exact⟨rfl,by decide⟩
  | 6,_=>exact⟨rfl,by decide⟩
  | 7,_=>exact⟨rfl,by decide⟩
  | 8,_=>exact⟨rfl,by decide⟩
  | 9,_=>exact⟨rfl,by decide⟩
  | 10,_=>exact⟨rfl,by decide⟩
  | 11,_=>exact⟨rfl,by decide⟩
  | 12,_=>exact⟨rfl,by decide⟩
  | 13,_=>exact⟨rfl,by decide⟩
theorem sign_loop (s:ByteArray)(w:World)(h0:0<s.size)(hs:s.size<=2000)(hx:s.size<=1\/(1<s.size/\¬(s.extract 0 2).toList=[33,61]/\¬(s.extract 0 2).toList=[60,61]))(R:ByteArray)(hR:(∃i,i<14/\sgA i=(s[0]'h0).toNat)/\R=s.extract 0 1\/(∀ i,i<14->sgA i≠(s[0]'h0).toNat)/\R=⟨#[]⟩) :
  Calls Tryz.prog 102 #[.string s] w fun e w'=>e=.returned (.string R)/\Below w.heap.size w w':=by
 have HR:=Lib.hid hR;have hb:(s[0]'h0).toNat<256:=UInt8.toNat_lt _;have h0I:(0:Int)<(s.size:Int):=by omega
 have h1s:(1:Int)<=(s.size:Int):=by omega
 clear hR;rcases hx with hx|⟨hx0,hx1,hx2⟩
 ·have h1I:¬(1:Int)<(s.size:Int):=by omega
  go_enter Tryz.func102,Tryz.ntmps102;go_upto_region 4 with fail;obtain⟨A,hA⟩:∃A:ByteArray,A=⟨#[40,41,123,125,44,58,64,43,45,42,47,37,61,60]⟩:=⟨_,rfl⟩
  rw[<-hA];have hAs:A.size=14:=by rw[hA];rfl
  have HAA:Hid (∀ i (h:i<A.size),(A[i]).toNat=sgA i):=by
   intro i h;subst hA
   match i,h with
   | 0,_=>rfl
   | 1,_=>rfl
   | 2,_=>rfl
   | 3,_=>rfl
   | 4,_=>rfl
   | 5,_=>rfl
   | 6,_=>rfl
   | 7,_=>rfl
   | 8,_=>rfl
   | 9,_=>rfl
   | 10,_=>rfl
   | 11,_=>rfl
   | 12,_=>rfl
   | 13,_=>rfl
  clear hA;go_wp2_with fail;go_loopw [4] (fun v wr=>∃k m:Nat,v=.int .i64 (k:Nat)/\k<=14/\(∀ j,j<k->sgA j≠(s[0]'h0).toNat)/\wr=w.drewN m) (fun v _=>14-(intOf v).toNat)
  case atStart=>exact⟨0,0,by go_num,by omega,fun j h=>by omega,rfl⟩
  case round =>
   obtain⟨k,m,rfl,hk,hin,rfl⟩:=hrel;by_cases hlt:k<14
   ·have hkI:(k:Int)<14:=by omega
    have hkA:k<A.size:=by omega
    have hak:=HAA.out k hkA;by_cases he:sgA k=(s[0]'h0).toNat
    ·have hRR:R=s.extract 0 1:=by
      rcases HR.out with ⟨_,h⟩|⟨h,_⟩
      ·exact h
      ·exact absurd he (h k hlt)
     have HRR:=Lib.hid hRR;rw[he] at hak;clear hRR hin he;go_wp2
     go_quiet (fail)
     go_wp2;go_ret;exact⟨by rw[HRR.out];rfl,bdr (b0 _) _⟩
    ·have hakI:((A[k]'hkA).toNat:Int)≠((s[0]'h0).toNat:Int):=by omega
     have hakB:(((A[k]'hkA).toNat:Int)==((s[0]'h0).toNat:Int))=false:=by simpa using hakI
     have hakB2:((A[k]'hkA).toNat==(s[0]'h0).toNat)=false:=by simp;omega
     have RL:∀ j,j<k+1->sgA j≠(s[0]'h0).toNat:=fun j h=>by
      by_cases e:j=k
      ·subst e;exact he
      ·exact hin j (by omega)
     clear hin he hak;go_wp2
     go_quiet (fail)
     rename_i nq
     go_wp2;go_roundw
     case rel=>(try ((repeat apply Exists.intro);refine⟨?_,rfl⟩));exact⟨k+1,m+nq,by go_num,by omega,RL,by first|trivial|rw[World.drewN_drewN] | simp⟩
     case measure=>simp[intOf];omega
   ·obtain rfl:k=14:=by omega
    have hRR:R=⟨#[]⟩:=by
     rcases HR.out with ⟨⟨i,h1,h2⟩,_⟩|⟨_,h⟩
     ·exact absurd h2 (hin i h1)
     ·exact h
    have HRR:=Lib.hid hRR;clear hRR hin;go_wp2;go_ret;exact⟨by rw[HRR.out];rfl,bdr (b0 _) _⟩
 ·have h1I:(1:Int)<(s.size:Int):=by omega
  have h2I:(2:Int)<=(s.size:Int):=by omega
  have x1:((s.extract 0 2).toList==[33,61])=false:=beq_eq_false_iff_ne.2 hx1;have x2:((s.extract 0 2).toList==[60,61])=false:=beq_eq_false_iff_ne.2 hx2;go_enter Tryz.func102,Tryz.ntmps102;go_upto_region 4 with fail;obtain⟨A,hA⟩:∃A:ByteArray,A=⟨#[40,41,123,125,44,58,64,43,45,42,47,37,61,60]⟩:=⟨_,rfl⟩
  rw[<-hA];have hAs:A.size=14:=by rw[hA];rfl
  have HAA:Hid (∀ i (h:i<A.size),(A[i]).toNat=sgA i):=by
   intro i h;subst hA
   match i,h with
   | 0,_=>rfl
   | 1,_=>rfl
   | 2,_=>rfl
   | 3,_=>rfl
   | 4,_=>rfl
   | 5,_=>rfl
   | 6,_=>rfl
   | 7,_=>rfl
   | 8,_=>rfl
   | 9,_=>rfl
   | 10,_=>rfl
   | 11,_=>rfl
   | 12,_=>rfl
   | 13,_=>rfl
  clear hA;go_wp2_with fail;go_loopw [4] (fun v wr=>∃k m:Nat,v=.int .i64 (k:Nat)/\k<=14/\(∀ j,j<k->sgA j≠(s[0]'h0).toNat)/\wr=w.drewN m) (fun v _=>14-(intOf v).toNat)
  case atStart=>exact⟨0,0,by go_num,by omega,fun j h=>by omega,rfl⟩
  case round =>
   obtain⟨k,m,rfl,hk,hin,rfl⟩:=hrel;by_cases hlt:k<14
   ·have hkI:(k:Int)<14:=by omega
    have hkA:k<A.size:=by omega
    have hak:=HAA.out k hkA;by_cases he:sgA k=(s[0]'h0).toNat
    ·have hRR:R=s.extract 0 1:=by
      rcases HR.out with ⟨_,h⟩|⟨h,_⟩
      ·exact h
      ·exact absurd he (h k hlt)
     have HRR:=Lib.hid hRR;rw[he] at hak;clear hRR hin he;go_wp2
     go_quiet (fail)
     go_wp2;go_ret;exact⟨by rw[HRR.out];rfl,bdr (b0 _) _⟩
    ·have hakI:((A[k]'hkA).toNat:Int)≠((s[0]'h0).toNat:Int):=by omega
     have hakB:(((A[k]'hkA).toNat:Int)==((s[0]'h0).toNat:Int))=false:=by simpa using hakI
     have hakB2:((A[k]'hkA).toNat==(s[0]'h0).toNat)=false:=by simp;omega
     have RL:∀ j,j<k+1->sgA j≠(s[0]'h0).toNat:=fun j h=>by
      by_cases e:j=k
      ·subst e;exact he
      ·exact hin j (by omega)
     clear hin he hak;go_wp2
     go_quiet (fail)
     rename_i nq
     go_wp2;go_roundw
     case rel=>(try ((repeat apply Exists.intro);refine⟨?_,rfl⟩));exact⟨k+1,m+nq,by go_num,by omega,RL,by first|trivial|rw[World.drewN_drewN] | simp⟩
     case measure=>simp[intOf];omega
   ·obtain rfl:k=14:=by omega
    have hRR:R=⟨#[]⟩:=by
     rcases HR.out with ⟨⟨i,h1,h2⟩,_⟩|⟨_,h⟩
     ·exact absurd h2 (hin i h1)
     ·exact h
    have HRR:=Lib.hid hRR;clear hRR hin;go_wp2;go_ret;exact⟨by rw[HRR.out];rfl,bdr (b0 _) _⟩
theorem two_list (s:ByteArray)(h:1<s.size):(s.extract 0 2).data.toList=[s[0],s[1]]:=by
 rw[cut_list];have hl:=data_len s;have e:s.data.toList.take 2=[s.data.toList[0]'(by omega),s.data.toList[1]'(by omega)]:=by
  rw[List.take_add_one,List.take_add_one,List.take_zero,List.getElem?_eq_getElem (by omega),List.getElem?_eq_getElem (by omega)];rfl
 rw[e,data_get s 0 (by omega),data_get s 1 h]
theorem cons_list (s:ByteArray)(h:0<s.size):s.data.toList=s[0]::s.data.toList.drop 1:=by
 have hl:=data_len s
 have:=drop_at s.data.toList 0 (by omega)
 rw[List.drop_zero,data_get s 0 h] at this;exact this
theorem sign_r (s:ByteArray)(w:World)(h0:0<s.size)(hs:s.size<=2000) :
  Calls Tryz.prog 102 #[.string s] w fun e w'=>e=.returned (.string ⟨(sgnU s.data.toList).toArray⟩)/\Below w.heap.size w w':=by
 have hl:=data_len s;have hcl:=cons_list s h0;by_cases h2:1<s.size/\((s[0]'h0).toNat=33\/(s[0]'h0).toNat=60)/\(s.data.toList.drop 1).head?=some 61
 ·obtain⟨h1,h3,h4⟩:=h2;have hu:sgnU s.data.toList=[s[0],61]:=by
   rw[hcl];unfold sgnU;simp only;rw[if_pos ⟨h3,h4⟩]
  have h5:s[1]'h1=61:=by
   rw[List.head?_drop,List.getElem?_eq_getElem (by omega),data_get s 1 h1] at h4;injection h4
  have htl:=two_list s h1;rw[h5] at htl;have hR:s.extract 0 2=⟨(sgnU s.data.toList).toArray⟩:=by
   rw[hu,<-htl,back_text]
  have HR:=Lib.hid hR;have h1I:(1:Int)<(s.size:Int):=by omega
  have h2I:(2:Int)<=(s.size:Int):=by omega
  rcases h3 with h3|h3
  ·have hc:s[0]'h0=33:=UInt8.toNat.inj h3;rw[hc] at htl;have hA:(s.extract 0 2).toList=[33,61]:=by rw[ByteArray.toList_eq];exact htl
   clear hcl hu hR htl hl hc h3 h4 h5;go_enter Tryz.func102,Tryz.ntmps102;go_wp2;go_ret;exact⟨by rw[<-HR.out];rfl,b0 _⟩
  ·have hc:s[0]'h0=60:=UInt8.toNat.inj h3;rw[hc] at htl;have hA:(s.extract 0 2).toList=[60,61]:=by rw[ByteArray.toList_eq];exact htl
   clear hcl hu hR htl hl hc h3 h4 h5;go_enter Tryz.func102,Tryz.ntmps102;go_wp2;go_ret;exact⟨by rw[<-HR.out];rfl,b0 _⟩
 ·refine sign_loop s w h0 hs ?_ _ ?_
  ·by_cases h1:1<s.size
   ·right
    have htl:=two_list s h1;have hh:(s.data.toList.drop 1).head?=some s[1]:=by rw[List.head?_drop,List.getElem?_eq_getElem (by omega),data_get s 1 h1]
    refine⟨h1,?_,?_⟩
    ·intro e;rw[ByteArray.toList_eq,htl] at e;injection e with e1 e2
     injection e2 with e2 _
     exact h2 ⟨h1,.inl (by rw[e1];rfl),by rw[hh,e2]⟩
    ·intro e;rw[ByteArray.toList_eq,htl] at e;injection e with e1 e2
     injection e2 with e2 _
     exact h2 ⟨h1,.inr (by rw[e1];rfl),by rw[hh,e2]⟩
   ·left
    omega
  ·have hu:sgnU s.data.toList=if sgn (s[0]'h0).toNat=true/\(s[0]'h0).toNat≠33 then [s[0]] else []:=by
    rw[hcl];unfold sgnU;simp only;rw[if_neg];rintro ⟨h3,h4⟩;refine h2 ⟨?_,h3,h4⟩;rw[List.head?_drop] at h4;by_cases h1:1<s.size
    ·exact h1
    ·rw[List.getElem?_eq_none (by omega)] at h4;cases h4
   by_cases h3:sgn (s[0]'h0).toNat=true/\(s[0]'h0).toNat≠33
   ·left
    rw[hu,if_pos h3];refine⟨(sgA_sgn _).1 h3,?_⟩;rw[ext_eq,hcl];rfl
   ·right
    rw[hu,if_neg h3];refine⟨fun i hi e=>h3 ((sgA_sgn _).2 ⟨i,hi,e⟩),rfl⟩
def TokPost (l:List UInt8)(at0:Nat)(e:Ending):Prop :=
 (∃er:Nat,e=.returned (.tuple #[.agg #[.int .i64 0,.int .i64 0,.string ⟨#[]⟩,.int .i64 0],.int .i64 0,.int .i64 (er:Nat)])/\lexL 0 [] at0 at0 (l.drop at0)=.inl (er,at0)/\er≠0) \/
 (∃(x:Tk) (nx:Nat),e=.returned (.tuple #[.agg (tka x),.int .i64 (nx:Nat),.int .i64 0])/\at0<nx/\nx<=l.length/\lexL 0 [] at0 at0 (l.drop at0)=consR x (lexL 0 [] nx nx (l.drop nx)))
theorem tok3_end {fn:Func}{p u v:Tmp}(h:fn.results=#[.cell p 67,.tmp u,.tmp v])(tmps:Array Value)(w:World)(g:Nat)(v0 v1 v2 v3:Value)(t:TypeId)(fr:Nat × Nat)
  (hp:tmps.getD p undef=.pointer (some ⟨g,0,none⟩)) (hg:w.heap[g]?=some (.cells #[v0,v1,v2,v3] t fr)) :
  (results fn tmps).run Tryz.prog w=.ok (.tuple #[.agg #[v0,v1,v2,v3],tmps.getD u undef,tmps.getD v undef]) w:=by
 have hl:=run_loadVar_row (P:=Tryz.prog) w g t 67 #[v0,v1,v2,v3] fr _ hg Tryz.underlying67 rfl (by kernel_rfl);have hp':tmps[p]?.getD undef=.pointer (some ⟨g,0,none⟩):=by simpa using hp
 simp[results,h,hp',asAddr,hl,Result.andThen]
theorem one_box {w w1:World}{A:Obj}(h:Below (w.alloc A).heap.size (w.alloc A) w1):w1.heap[w.heap.size]?=some A/\Below w.heap.size w w1:=by
 refine⟨?_,(b1 _ _).trans (h.mono (by simp))⟩;rw[h.block _ (by simp)];exact heap_alloc_new _ _
theorem seg_ext (s:ByteArray)(at0 e:Nat)(h0:at0<e)(h1:e<=s.size):(s.extract at0 e).data.toList=(s.data.toList.drop at0).take (e-at0)/\(s.extract at0 e).size=e-at0:=by
 refine⟨ext_list s at0 e,?_⟩;rw[<-data_len,ext_list];exact seg_len _ _ _ h0 (by rw[data_len];exact h1)
theorem seg_digs (l:List UInt8)(at0 e:Nat)(h1:e<=l.length)(hin:∀ j (h:j<l.length),at0<=j->j<e->tks 2 [] (l[j]).toNat=true):Digs ((l.drop at0).take (e-at0)):=by
 intro c hc;obtain⟨j,hj,rfl⟩:=List.mem_iff_getElem.1 hc;have hj':j<e-at0:=by simp at hj;omega
 rw[List.getElem_take,List.getElem_drop];have hjl:at0+j<l.length:=by omega
 have:=hin (at0+j) hjl (by omega) (by omega)
 simpa [tks,dig] using this
theorem cls_dig {r:Nat}(h1:blk r=false)(h3:dig r=true):cls r=2:=by
 have h2:ltr r=false:=by
  simp[dig] at h3;simp[ltr,sml];omega
 simp[cls,h1,h2,h3]
theorem cls_ltr {r:Nat}(h1:blk r=false)(h2:ltr r=true):cls r=1:=by simp[cls,h1,h2]
theorem token_num (s:ByteArray)(at0:Nat)(w:World)(hat:at0<s.size)(hs:s.size<=2000)(hb:blk (s[at0]).toNat=false)(hd:dig (s[at0]).toNat=true) :
  Calls Tryz.prog 50 #[.string s,.int .i64 (at0:Nat)] w fun e w'=>TokPost s.data.toList at0 e/\Below w.heap.size w w':=by
 have HL:Hid (s.data.toList.length=s.size):=data_len s;have hb0:(s[at0]'hat).toNat<256:=UInt8.toNat_lt _;have hatI:(at0:Int)<(s.size:Int):=by omega
 have hal:at0<s.data.toList.length:=by rw[HL.out];exact hat
 have HC:Hid (cls (s.data.toList[at0]'hal).toNat=2):=by rw[data_get s at0 hat hal];exact cls_dig hb hd
 go_enter Tryz.func50,Tryz.ntmps50;go_wp2_with (first|(go_at_call 95;refine(dig_r _ _ hb0).mono ?_;rw[hd];rintro e w1 ⟨rfl,rfl⟩)|(go_at_call 96;refine(ends_2 s at0 _ hat hs hd).mono ?_;rintro e w1 ⟨e0,rfl,hE,rfl⟩;refine Hid.out ?_));refine Lib.hid ?_;obtain⟨h1,h2,h3,h4⟩:=hE;rw[HL.out] at h2;obtain⟨hx1,hx2⟩:=seg_ext s at0 e0 h1 h2;have hsr:=seg_read s.data.toList 2 at0 e0 (.inr rfl) h1 (by rw[HL.out];exact h2) HC.out h3 h4;have hdg:=seg_digs s.data.toList at0 e0 (by rw[HL.out];exact h2) h3;have HSR:=Lib.hid hsr;have hI1:(at0:Int)<=(e0:Int):=by omega
 have hI2:(e0:Int)<=(s.size:Int):=by omega
 rw[<-hx1] at hdg;have HX:=Lib.hid hx1;have hz1:0<(s.extract at0 e0).size:=by omega
 have hz2:(s.extract at0 e0).size<=2000:=by omega
 clear hsr h3 h4 hx1 hx2;go_wp2_with (go_at_call 97;refine(number_r _ _ hz1 hz2 hdg).mono ?_;rintro e w2 ⟨⟨v,b,rfl,ho⟩,rfl⟩;refine Hid.out ?_);refine Lib.hid ?_;rw[HX.out] at ho;clear hdg hz1 hz2;rcases ho with ⟨rfl,hn⟩|⟨rfl,rfl,hn⟩
 ·have HP:Hid (TokPost s.data.toList at0 (.returned (.tuple #[.agg #[.int .i64 1,.int .i64 v,.string ⟨#[]⟩,.int .i64 (at0:Nat)],.int .i64 (e0:Nat),.int .i64 0]))):=by
   refine .inr ⟨⟨1,v,[],at0⟩,e0,rfl,h1,by rw[HL.out];exact h2,?_⟩;rw[HSR.out];unfold shutP;rw[if_neg (by omega)];show (match numT _ at0 with | .inl e=>_ | .inr x=>_)=_;rw[hn at0]
  clear hn;go_wp2;refine bodyPost_ret (tok3_end rfl _ _ w.heap.size _ _ _ _ _ _ rfl (heap_alloc_new _ _)) rfl ?_;exact⟨HP.out,b1 _ _⟩
 ·have HP:Hid (TokPost s.data.toList at0 (.returned (.tuple #[.agg #[.int .i64 0,.int .i64 0,.string ⟨#[]⟩,.int .i64 0],.int .i64 0,.int .i64 111]))):=by
   refine .inl ⟨111,rfl,?_,by omega⟩;rw[HSR.out];unfold shutP;rw[if_neg (by omega)];show (match numT _ at0 with | .inl e=>_ | .inr x=>_)=_;rw[hn at0]
  clear hn;go_wp2;refine bodyPost_ret (tok3_end rfl _ _ w.heap.size _ _ _ _ _ _ rfl (heap_alloc_new _ _)) rfl ?_;exact⟨HP.out,b1 _ _⟩
theorem token_wordS (s:ByteArray)(at0:Nat)(w:World)(hat:at0<s.size)(hs:s.size<=2000)(hb:blk (s[at0]).toNat=false)(hd:dig (s[at0]).toNat=false)(hsm:sml (s[at0]).toNat=true) :
  Calls Tryz.prog 50 #[.string s,.int .i64 (at0:Nat)] w fun e w'=>TokPost s.data.toList at0 e/\Below w.heap.size w w':=by
 have HL:Hid (s.data.toList.length=s.size):=data_len s;have hb0:(s[at0]'hat).toNat<256:=UInt8.toNat_lt _;have hatI:(at0:Int)<(s.size:Int):=by omega
 have hal:at0<s.data.toList.length:=by rw[HL.out];exact hat
 have hl:ltr (s[at0]'hat).toNat=true:=by simp[ltr,hsm]
 have HC:Hid (cls (s.data.toList[at0]'hal).toNat=1):=by rw[data_get s at0 hat hal];exact cls_ltr hb hl
 go_enter Tryz.func50,Tryz.ntmps50;go_wp2_with (first|(go_at_call 95;refine(dig_r _ _ hb0).mono ?_;rw[hd];rintro e w1 ⟨rfl,rfl⟩)|(go_at_call 98;refine(sml_r _ _ hb0).mono ?_;rw[hsm];rintro e w1 ⟨rfl,rfl⟩)|(go_at_call 96;refine(ends_1 s at0 _ hat hs hd hl).mono ?_;rintro e w1 ⟨e0,rfl,hE,rfl⟩;refine Hid.out ?_));refine Lib.hid ?_;obtain⟨h1,h2,h3,h4⟩:=hE;rw[HL.out] at h2;obtain⟨hx1,hx2⟩:=seg_ext s at0 e0 h1 h2;have hsr:=seg_read s.data.toList 1 at0 e0 (.inl rfl) h1 (by rw[HL.out];exact h2) HC.out h3 h4;have HSR:=Lib.hid hsr;have hI1:(at0:Int)<=(e0:Int):=by omega
 have hI2:(e0:Int)<=(s.size:Int):=by omega
 have HX:=Lib.hid hx1;have hz2:(s.extract at0 e0).size<=maxLen:=by unfold maxLen;omega
 clear hsr h3 h4 hx1 hx2;go_wp2_with (go_at_call 100;refine(word_r _ _ hz2).mono ?_;rw[HX.out];rintro e w2 ⟨rfl,hb2⟩;refine Hid.out ?_);refine Lib.hid ?_;obtain⟨k2,B2⟩:=one_box hb2;clear hb2;have HY:Hid (∀ x,wrdT ((s.data.toList.drop at0).take (e0-at0)) at0=.inr x->lexL 0 [] at0 at0 (s.data.toList.drop at0)=consR x (lexL 0 [] e0 e0 (s.data.toList.drop e0))):=fun x h=>by
  rw[HSR.out];unfold shutP;rw[if_neg (by omega)];show (match wrdT _ at0 with | .inl e=>_ | .inr x=>_)=_;rw[h]
 have HN:Hid (∀ e,wrdT ((s.data.toList.drop at0).take (e0-at0)) at0=.inl e->lexL 0 [] at0 at0 (s.data.toList.drop at0)=.inl (e,at0)):=fun x h=>by
  rw[HSR.out];unfold shutP;rw[if_neg (by omega)];show (match wrdT _ at0 with | .inl e=>_ | .inr x=>_)=_;rw[h]
 have hbt:(⟨((s.data.toList.drop at0).take (e0-at0)).toArray⟩:ByteArray)=s.extract at0 e0:=(ext_eq s at0 e0).symm;cases hw:wordB ((s.data.toList.drop at0).take (e0-at0))
 ·have hn0:B2=B2:=rfl;have hk2:=Lib.hid k2;go_wp2_with (go_at_call 101;refine(name_r _ _ hz2).mono ?_;rw[HX.out];rintro e w3 ⟨rfl,hb3⟩;refine Hid.out ?_);refine Lib.hid ?_;have k3:w3.heap[w.heap.size]?=some (.cells #[.int .i64 0,.int .i64 0,.string ⟨#[]⟩,.int .i64 0] 67 (0,0)):=by
   rw[hb3.block _ (lt_of_block hk2.out)];exact hk2.out
  have B3:=B2.trans (hb3.mono B2.size);clear hb3 k2 hk2 B2 hn0;have c0:w3.cell? ⟨w.heap.size,0,none⟩=some (.int .i64 0):=by rw[cell_of_row _ _ _ _ _ _ k3];rfl
  have c1:w3.cell? ⟨w.heap.size,1,none⟩=some (.int .i64 0):=by rw[cell_of_row _ _ _ _ _ _ k3];rfl
  have c2:w3.cell? ⟨w.heap.size,2,none⟩=some (.string ⟨#[]⟩):=by rw[cell_of_row _ _ _ _ _ _ k3];rfl
  have c3:w3.cell? ⟨w.heap.size,3,none⟩=some (.int .i64 0):=by rw[cell_of_row _ _ _ _ _ _ k3];rfl
  have fz:∀ j,w3.frozen? ⟨w.heap.size,j,none⟩=false:=fun j=>frozen_of_row w3 _ j _ _ k3;have HK2:=Lib.hid k3;clear k3;cases hn:nameB ((s.data.toList.drop at0).take (e0-at0))
  ·have HP:Hid (TokPost s.data.toList at0 (.returned (.tuple #[.agg #[.int .i64 0,.int .i64 0,.string ⟨#[]⟩,.int .i64 0],.int .i64 0,.int .i64 112]))):=by
    refine .inl ⟨112,rfl,HN.out 112 ?_,by omega⟩;unfold wrdT;rw[hw,hn];rfl
   clear hw hn hbt;go_wp2;refine bodyPost_ret (tok3_end rfl _ _ w.heap.size _ _ _ _ _ _ rfl (set4 _ _ _ _ HK2.out)) rfl ?_;exact⟨HP.out,bset4 _ _ _ _ B3 (by omega)⟩
  ·have HP:Hid (TokPost s.data.toList at0 (.returned (.tuple #[.agg #[.int .i64 2,.int .i64 0,.string (s.extract at0 e0),.int .i64 (at0:Nat)],.int .i64 (e0:Nat),.int .i64 0]))):=by
    refine .inr ⟨⟨2,0,(s.data.toList.drop at0).take (e0-at0),at0⟩,e0,by simp only[tka,hbt];rfl,h1,by rw[HL.out];exact h2,HY.out _ ?_⟩;unfold wrdT;rw[hw,hn];rfl
   clear hw hn hbt;go_wp2;refine bodyPost_ret (tok3_end rfl _ _ w.heap.size _ _ _ _ _ _ rfl (set4 _ _ _ _ HK2.out)) rfl ?_;exact⟨HP.out,bset4 _ _ _ _ B3 (by omega)⟩
 ·have HP:Hid (TokPost s.data.toList at0 (.returned (.tuple #[.agg #[.int .i64 3,.int .i64 0,.string (s.extract at0 e0),.int .i64 (at0:Nat)],.int .i64 (e0:Nat),.int .i64 0]))):=by
   refine .inr ⟨⟨3,0,(s.data.toList.drop at0).take (e0-at0),at0⟩,e0,by simp only[tka,hbt];rfl,h1,by rw[HL.out];exact h2,HY.out _ ?_⟩;unfold wrdT;rw[hw];rfl
  have c0:w2.cell? ⟨w.heap.size,0,none⟩=some (.int .i64 0):=by rw[cell_of_row _ _ _ _ _ _ k2];rfl
  have c1:w2.cell? ⟨w.heap.size,1,none⟩=some (.int .i64 0):=by rw[cell_of_row _ _ _ _ _ _ k2];rfl
  have c2:w2.cell? ⟨w.heap.size,2,none⟩=some (.string ⟨#[]⟩):=by rw[cell_of_row _ _ _ _ _ _ k2];rfl
  have c3:w2.cell? ⟨w.heap.size,3,none⟩=some (.int .i64 0):=by rw[cell_of_row _ _ _ _ _ _ k2];rfl
  have fz:∀ j,w2.frozen? ⟨w.heap.size,j,none⟩=false:=fun j=>frozen_of_row w2 _ j _ _ k2;have HK2:=Lib.hid k2;clear k2;clear hw hbt;go_wp2;refine bodyPost_ret (tok3_end rfl _ _ w.heap.size _ _ _ _ _ _ rfl (set4 _ _ _ _ HK2.out)) rfl ?_;exact⟨HP.out,bset4 _ _ _ _ B2 (by omega)⟩
theorem token_wordG (s:ByteArray)(at0:Nat)(w:World)(hat:at0<s.size)(hs:s.size<=2000)(hb:blk (s[at0]).toNat=false)(hd:dig (s[at0]).toNat=false)(hsm:sml (s[at0]).toNat=false)(hgr:grt (s[at0]).toNat=true) :
  Calls Tryz.prog 50 #[.string s,.int .i64 (at0:Nat)] w fun e w'=>TokPost s.data.toList at0 e/\Below w.heap.size w w':=by
 have HL:Hid (s.data.toList.length=s.size):=data_len s;have hb0:(s[at0]'hat).toNat<256:=UInt8.toNat_lt _;have hatI:(at0:Int)<(s.size:Int):=by omega
 have hal:at0<s.data.toList.length:=by rw[HL.out];exact hat
 have hl:ltr (s[at0]'hat).toNat=true:=by rw[ltr_grt,hsm,hgr];rfl
 have HC:Hid (cls (s.data.toList[at0]'hal).toNat=1):=by rw[data_get s at0 hat hal];exact cls_ltr hb hl
 go_enter Tryz.func50,Tryz.ntmps50;go_wp2_with (first|(go_at_call 95;refine(dig_r _ _ hb0).mono ?_;rw[hd];rintro e w1 ⟨rfl,rfl⟩)|(go_at_call 98;refine(sml_r _ _ hb0).mono ?_;rw[hsm];rintro e w1 ⟨rfl,rfl⟩)|(go_at_call 99;refine(grt_r _ _ hb0).mono ?_;rw[hgr];rintro e w1 ⟨rfl,rfl⟩)|(go_at_call 96;refine(ends_1 s at0 _ hat hs hd hl).mono ?_;rintro e w1 ⟨e0,rfl,hE,rfl⟩;refine Hid.out ?_));refine Lib.hid ?_;obtain⟨h1,h2,h3,h4⟩:=hE;rw[HL.out] at h2;obtain⟨hx1,hx2⟩:=seg_ext s at0 e0 h1 h2;have hsr:=seg_read s.data.toList 1 at0 e0 (.inl rfl) h1 (by rw[HL.out];exact h2) HC.out h3 h4;have HSR:=Lib.hid hsr;have hI1:(at0:Int)<=(e0:Int):=by omega
 have hI2:(e0:Int)<=(s.size:Int):=by omega
 have HX:=Lib.hid hx1;have hz2:(s.extract at0 e0).size<=maxLen:=by unfold maxLen;omega
 clear hsr h3 h4 hx1 hx2;go_wp2_with (go_at_call 100;refine(word_r _ _ hz2).mono ?_;rw[HX.out];rintro e w2 ⟨rfl,hb2⟩;refine Hid.out ?_);refine Lib.hid ?_;obtain⟨k2,B2⟩:=one_box hb2;clear hb2;have HY:Hid (∀ x,wrdT ((s.data.toList.drop at0).take (e0-at0)) at0=.inr x->lexL 0 [] at0 at0 (s.data.toList.drop at0)=consR x (lexL 0 [] e0 e0 (s.data.toList.drop e0))):=fun x h=>by
  rw[HSR.out];unfold shutP;rw[if_neg (by omega)];show (match wrdT _ at0 with | .inl e=>_ | .inr x=>_)=_;rw[h]
 have HN:Hid (∀ e,wrdT ((s.data.toList.drop at0).take (e0-at0)) at0=.inl e->lexL 0 [] at0 at0 (s.data.toList.drop at0)=.inl (e,at0)):=fun x h=>by
  rw[HSR.out];unfold shutP;rw[if_neg (by omega)];show (match wrdT _ at0 with | .inl e=>_ | .inr x=>_)=_;rw[h]
 have hbt:(⟨((s.data.toList.drop at0).take (e0-at0)).toArray⟩:ByteArray)=s.extract at0 e0:=(ext_eq s at0 e0).symm;cases hw:wordB ((s.data.toList.drop at0).take (e0-at0))
 ·have hn0:B2=B2:=rfl;have hk2:=Lib.hid k2;go_wp2_with (go_at_call 101;refine(name_r _ _ hz2).mono ?_;rw[HX.out];rintro e w3 ⟨rfl,hb3⟩;refine Hid.out ?_);refine Lib.hid ?_;have k3:w3.heap[w.heap.size]?=some (.cells #[.int .i64 0,.int .i64 0,.string ⟨#[]⟩,.int .i64 0] 67 (0,0)):=by
   rw[hb3.block _ (lt_of_block hk2.out)];exact hk2.out
  have B3:=B2.trans (hb3.mono B2.size);clear hb3 k2 hk2 B2 hn0;have c0:w3.cell? ⟨w.heap.size,0,none⟩=some (.int .i64 0):=by rw[cell_of_row _ _ _ _ _ _ k3];rfl
  have c1:w3.cell? ⟨w.heap.size,1,none⟩=some (.int .i64 0):=by rw[cell_of_row _ _ _ _ _ _ k3];rfl
  have c2:w3.cell? ⟨w.heap.size,2,none⟩=some (.string ⟨#[]⟩):=by rw[cell_of_row _ _ _ _ _ _ k3];rfl
  have c3:w3.cell? ⟨w.heap.size,3,none⟩=some (.int .i64 0):=by rw[cell_of_row _ _ _ _ _ _ k3];rfl
  have fz:∀ j,w3.frozen? ⟨w.heap.size,j,none⟩=false:=fun j=>frozen_of_row w3 _ j _ _ k3;have HK2:=Lib.hid k3;clear k3;cases hn:nameB ((s.data.toList.drop at0).take (e0-at0))
  ·have HP:Hid (TokPost s.data.toList at0 (.returned (.tuple #[.agg #[.int .i64 0,.int .i64 0,.string ⟨#[]⟩,.int .i64 0],.int .i64 0,.int .i64 112]))):=by
    refine .inl ⟨112,rfl,HN.out 112 ?_,by omega⟩;unfold wrdT;rw[hw,hn];rfl
   clear hw hn hbt;go_wp2;refine bodyPost_ret (tok3_end rfl _ _ w.heap.size _ _ _ _ _ _ rfl (set4 _ _ _ _ HK2.out)) rfl ?_;exact⟨HP.out,bset4 _ _ _ _ B3 (by omega)⟩
  ·have HP:Hid (TokPost s.data.toList at0 (.returned (.tuple #[.agg #[.int .i64 2,.int .i64 0,.string (s.extract at0 e0),.int .i64 (at0:Nat)],.int .i64 (e0:Nat),.int .i64 0]))):=by
    refine .inr ⟨⟨2,0,(s.data.toList.drop at0).take (e0-at0),at0⟩,e0,by simp only[tka,hbt];rfl,h1,by rw[HL.out];exact h2,HY.out _ ?_⟩;unfold wrdT;rw[hw,hn];rfl
   clear hw hn hbt;go_wp2;refine bodyPost_ret (tok3_end rfl _ _ w.heap.size _ _ _ _ _ _ rfl (set4 _ _ _ _ HK2.out)) rfl ?_;exact⟨HP.out,bset4 _ _ _ _ B3 (by omega)⟩
 ·have HP:Hid (TokPost s.data.toList at0 (.returned (.tuple #[.agg #[.int .i64 3,.int .i64 0,.string (s.extract at0 e0),.int .i64 (at0:Nat)],.int .i64 (e0:Nat),.int .i64 0]))):=by
   refine .inr ⟨⟨3,0,(s.data.toList.drop at0).take (e0-at0),at0⟩,e0,by simp only[tka,hbt];rfl,h1,by rw[HL.out];exact h2,HY.out _ ?_⟩;unfold wrdT;rw[hw];rfl
  have c0:w2.cell? ⟨w.heap.size,0,none⟩=some (.int .i64 0):=by rw[cell_of_row _ _ _ _ _ _ k2];rfl
  have c1:w2.cell? ⟨w.heap.size,1,none⟩=some (.int .i64 0):=by rw[cell_of_row _ _ _ _ _ _ k2];rfl
  have c2:w2.cell? ⟨w.heap.size,2,none⟩=some (.string ⟨#[]⟩):=by rw[cell_of_row _ _ _ _ _ _ k2];rfl
  have c3:w2.cell? ⟨w.heap.size,3,none⟩=some (.int .i64 0):=by rw[cell_of_row _ _ _ _ _ _ k2];rfl
  have fz:∀ j,w2.frozen? ⟨w.heap.size,j,none⟩=false:=fun j=>frozen_of_row w2 _ j _ _ k2;have HK2:=Lib.hid k2;clear k2;clear hw hbt;go_wp2;refine bodyPost_ret (tok3_end rfl _ _ w.heap.size _ _ _ _ _ _ rfl (set4 _ _ _ _ HK2.out)) rfl ?_;exact⟨HP.out,bset4 _ _ _ _ B2 (by omega)⟩
theorem token_sign (s:ByteArray)(at0:Nat)(w:World)(hat:at0<s.size)(hs:s.size<=2000)(hb:blk (s[at0]).toNat=false)(hd:dig (s[at0]).toNat=false)(hsm:sml (s[at0]).toNat=false)(hgr:grt (s[at0]).toNat=false) :
  Calls Tryz.prog 50 #[.string s,.int .i64 (at0:Nat)] w fun e w'=>TokPost s.data.toList at0 e/\Below w.heap.size w w':=by
 have HL:Hid (s.data.toList.length=s.size):=data_len s;have hb0:(s[at0]'hat).toNat<256:=UInt8.toNat_lt _;have hatI:(at0:Int)<(s.size:Int):=by omega
 have hatL:(at0:Int)<=(s.size:Int):=by omega
 have hal:at0<s.data.toList.length:=by rw[HL.out];exact hat
 have hl:ltr (s[at0]'hat).toNat=false:=by rw[ltr_grt,hsm,hgr];rfl
 have hda:=drop_at s.data.toList at0 hal;rw[data_get s at0 hat hal] at hda;have hsr:=sign_read (s[at0]'hat) (s.data.toList.drop (at0+1)) at0 hb hl hd;rw[<-hda] at hsr;obtain⟨hx1,hx2⟩:=seg_ext s at0 s.size hat (Nat.le_refl _);rw[List.take_of_length_le (by rw[List.length_drop,HL.out];exact Nat.le_refl _)] at hx1;have HSR:=Lib.hid hsr;have HX:=Lib.hid hx1;have hz1:0<(s.extract at0 s.size).size:=by omega
 have hz2:(s.extract at0 s.size).size<=2000:=by omega
 clear hda hsr hx1 hx2 hl;go_enter Tryz.func50,Tryz.ntmps50;go_wp2_with (first|(go_at_call 95;refine(dig_r _ _ hb0).mono ?_;rw[hd];rintro e w1 ⟨rfl,rfl⟩)|(go_at_call 98;refine(sml_r _ _ hb0).mono ?_;rw[hsm];rintro e w1 ⟨rfl,rfl⟩)|(go_at_call 99;refine(grt_r _ _ hb0).mono ?_;rw[hgr];rintro e w1 ⟨rfl,rfl⟩)|(go_at_call 102;refine(sign_r _ _ hz1 hz2).mono ?_;rw[HX.out];rintro e w2 ⟨rfl,hb2⟩;refine Hid.out ?_));refine Lib.hid ?_;obtain⟨k2,B2⟩:=one_box hb2;clear hb2 hz1 hz2;have c0:w2.cell? ⟨w.heap.size,0,none⟩=some (.int .i64 0):=by rw[cell_of_row _ _ _ _ _ _ k2];rfl
 have c1:w2.cell? ⟨w.heap.size,1,none⟩=some (.int .i64 0):=by rw[cell_of_row _ _ _ _ _ _ k2];rfl
 have c2:w2.cell? ⟨w.heap.size,2,none⟩=some (.string ⟨#[]⟩):=by rw[cell_of_row _ _ _ _ _ _ k2];rfl
 have c3:w2.cell? ⟨w.heap.size,3,none⟩=some (.int .i64 0):=by rw[cell_of_row _ _ _ _ _ _ k2];rfl
 have fz:∀ j,w2.frozen? ⟨w.heap.size,j,none⟩=false:=fun j=>frozen_of_row w2 _ j _ _ k2;have HK2:=Lib.hid k2;clear k2;obtain⟨U,hU⟩:∃U:ByteArray,U=⟨(sgnU (s.data.toList.drop at0)).toArray⟩:=⟨_,rfl⟩
 have hUs:U.size=(sgnU (s.data.toList.drop at0)).length:=by rw[hU,mk_size]
 rw[<-hU];rcases HSR.out with ⟨h1,h2⟩|⟨h1,h2,h3⟩
 ·have hU0:U=⟨#[]⟩:=by rw[hU,h1]
  have HP:Hid (TokPost s.data.toList at0 (.returned (.tuple #[.agg #[.int .i64 0,.int .i64 0,.string ⟨#[]⟩,.int .i64 0],.int .i64 0,.int .i64 110]))):=.inl ⟨110,rfl,h2,by omega⟩;clear hU hUs h1 h2;subst hU0;go_wp2;refine bodyPost_ret (tok3_end rfl _ _ w.heap.size _ _ _ _ _ _ rfl (set4 _ _ _ _ HK2.out)) rfl ?_;exact⟨HP.out,bset4 _ _ _ _ B2 (by omega)⟩
 ·have hln:0<(sgnU (s.data.toList.drop at0)).length:=List.length_pos_iff.2 h1;have hdl:(s.data.toList.drop at0).length=s.size-at0:=by rw[List.length_drop,HL.out]
  have h4:at0+U.size<=s.size:=by omega
  have hne:U.toList.isEmpty=false:=str_full (by omega);have HP:Hid (TokPost s.data.toList at0 (.returned (.tuple #[.agg #[.int .i64 4,.int .i64 0,.string U,.int .i64 (at0:Nat)],.int .i64 ((at0:Int)+(U.size:Int)),.int .i64 0]))):=by
   refine .inr ⟨⟨4,0,sgnU (s.data.toList.drop at0),at0⟩,at0+U.size,?_,by omega,by rw[HL.out];exact h4,?_⟩
   ·simp only[tka,<-hU,Int.natCast_add];rfl
   ·rw[h3,<-hUs,List.drop_drop]
  have h4I:(at0:Int)+(U.size:Int)<=2000:=by omega
  clear hU hUs h1 h2 h3 hln hdl;go_wp2;refine bodyPost_ret (tok3_end rfl _ _ w.heap.size _ _ _ _ _ _ rfl (set4 _ _ _ _ HK2.out)) rfl ?_;exact⟨HP.out,bset4 _ _ _ _ B2 (by omega)⟩
theorem token_q (s:ByteArray)(at0:Nat)(w:World)(hat:at0<s.size)(hs:s.size<=2000)(hb:blk (s[at0]).toNat=false) :
  Calls Tryz.prog 50 #[.string s,.int .i64 (at0:Nat)] w fun e w'=>TokPost s.data.toList at0 e/\Below w.heap.size w w':=by
 cases hd:dig (s[at0]'hat).toNat
 ·cases hsm:sml (s[at0]'hat).toNat
  ·cases hgr:grt (s[at0]'hat).toNat
   ·exact token_sign s at0 w hat hs hb hd hsm hgr
   ·exact token_wordG s at0 w hat hs hb hd hsm hgr
  ·exact token_wordS s at0 w hat hs hb hd hsm
 ·exact token_num s at0 w hat hs hb hd
abbrev I44:Nat->Prop:=fun k=>k=4
theorem I44_below {w wr:World}{o:Nat->Nat}(h:Step I44 w (fun _=>0) wr o):Below w.heap.size w wr:=h.below (fun _ _ h=>by cases h)
structure RsQ (l:List UInt8)(w wr:World)(o:Nat->Nat)(v:Value)(q:Nat)(ts:List Tk):Prop where
 row:Row wr o 4 67 4 v ts.length (tcells ts)
 len:ts.length<=q
 run:preR ts (lexL 0 [] q q (l.drop q))=lexA l
 stp:Step I44 w (fun _=>0) wr o
theorem rscan_c (s:ByteArray)(w:World)(hs:s.size<=maxLen) :
  Calls Tryz.prog 27 #[.string s] w fun e w'=>∃v er at0,e=.returned (.tuple #[v,.int .i64 er,.int .i64 at0])/\ScanOut w w' v er at0 (scanA s.data.toList)/\Below w.heap.size w w':=by
 unfold maxLen at hs;have HL:Hid (s.data.toList.length=s.size):=data_len s;by_cases hbig:2000<s.size
 ·have fin:scanA s.data.toList=.inl (113,0):=by
   unfold scanA;rw[HL.out,if_pos hbig]
  have hI:(2000:Int)<(s.size:Int):=by omega
  go_enter Tryz.func27,Tryz.ntmps27;go_wp2;go_ret3;exact⟨_,_,_,rfl,Or.inl ⟨113,0,fin,rfl,rfl,rfl⟩,b0 _⟩
 ·have HF:Hid (scanA s.data.toList=lexA s.data.toList):=by
   show _=_;unfold scanA;rw[HL.out,if_neg hbig]
  have hs2:s.size<=2000:=by omega
  have hI:¬(2000:Int)<(s.size:Int):=by omega
  obtain⟨ii,hii,hz0,hz1,hz2⟩:=info_parts infoToken;go_enter Tryz.func27,Tryz.ntmps27;go_wp2_with fail;go_loopw [5,6] (fun v5 v6 wr=>∃q ts o,v6=.int .i64 (q:Nat)/\q<=s.size/\RsQ s.data.toList w wr o v5 q ts) (fun _ v6 _=>s.size-(intOf v6).toNat)
  case atStart=>exact⟨0,[],fun _=>0,by go_num,by omega,Row.nil _ _ _ _ _,by simp,rfl,Step.refl _ _ _⟩
  case round =>
   obtain⟨q,ts,o,rfl,hq,J⟩:=hrel;have hB:=I44_below J.stp;have hlen:=J.len;by_cases hlt:q<s.size
   ·have hqI:(q:Int)<(s.size:Int):=by omega
    have hql:q<s.data.toList.length:=by rw[HL.out];exact hlt
    have hbq:(s[q]'hlt).toNat<256:=UInt8.toNat_lt _;have hda:=drop_at s.data.toList q hql;rw[data_get s q hlt hql] at hda;cases hb:blk (s[q]'hlt).toNat
    ·have HJ:=Lib.hid J;clear J hda;go_wp2_with (first|(go_at_call 49;refine(blk_r _ _ hbq).mono ?_;rw[hb];rintro e w1 ⟨rfl,rfl⟩)|(go_at_call 50;refine(token_q s q _ hlt hs2 hb).mono ?_;rintro e w2 ⟨⟨er,rfl,h1,h2⟩|⟨x,nx,rfl,h1,h2,h3⟩,hb2⟩<;>refine Hid.out ?_))
     ·refine Lib.hid ?_;have her0:¬(er:Int)=0:=by omega
      have herb:((er:Int) != 0)=true:=by simpa using her0
      have fin:lexA s.data.toList=.inl (er,q):=by
       rw[<-HJ.out.run,h1,preR_inl]
      have HN:=Lib.hid fin;clear fin h1;have hbw:=hB.trans (hb2.mono hB.size);go_wp2;go_ret3;exact⟨_,_,_,rfl,Or.inl ⟨er,q,HF.out.trans HN.out,rfl,rfl,rfl⟩,hbw.trans ((b1 _ _).mono hbw.size)⟩
     ·refine Lib.hid ?_;obtain⟨xk,xn,xt,xa⟩:=x;rw[HL.out] at h2;have J:=HJ.out;have s2:Step (fun _=>False) w1 o w2 o:=Step.ofBelow o hb2;have R3':=(J.row.step s2 (by simp)).step ((allocStep (fun _=>False) w2 o (.cells #[.int .i64 (xk:Nat),.int .i64 xn,.string ⟨xt.toArray⟩,.int .i64 (xa:Nat)] 67)).alloc (.cells #[.int .i64 (xk:Nat),.int .i64 xn,.string ⟨xt.toArray⟩,.int .i64 (xa:Nat)] 67)) (by simp);have hps:ts.length<=2001:=by omega
      have HR:Hid (preR (ts++[⟨xk,xn,xt,xa⟩]) (lexL 0 [] nx nx (s.data.toList.drop nx))=lexA s.data.toList):=by
       show _=_;rw[preR_more,<-J.run,h3]
      clear J s2 h3;simp only[tka];go_wp2_with (first|(at_builtin;refine wpList_append_lab rfl (.tmp 34) (.tmp 36) 59 rfl 67 ii (.agg #[.int .i64 0,.int .i64 0,.string ⟨#[]⟩,.int .i64 0]) 4 40 Tryz.underlying59 hii hz0 hz1 hz2 rfl (by decide) o 4 _ ts.length (tcells ts) rfl R3' ⟨w2.heap.size+1,0,none⟩ 1 1 [.int .i64 (xk:Nat),.int .i64 xn,.string ⟨xt.toArray⟩,.int .i64 (xa:Nat)] rfl rfl ?c1 ?c2 (by decide) ?c3 ?c4 ?_)|go_in)
      case c1=>exact new_four_at (by simp) _ _ _ _ _
      case c2=>intro u hu;simp at hu;rcases hu with rfl|rfl|rfl|rfl<;>rfl
      case c3=>unfold maxLen;omega
      case c4=>omega
      intro g5 cap5 w5 o5 R5 s5';have J:=HJ.out;have s5:Step (fun k=>k=4) w1 o w5 o5:=(((Step.ofBelow (I:=fun k=>k=4) o hb2).alloc _).alloc _).trans s5';have RR:Row w5 o5 4 67 4 (.slice (some ⟨g5,0,none⟩) (ts.length+1) cap5) (ts++[Tk.mk xk xn xt xa]).length (tcells (ts++[Tk.mk xk xn xt xa])):=by
       rw[tcells_more,List.length_append];exact R5
      have JN:RsQ s.data.toList w w5 o5 (.slice (some ⟨g5,0,none⟩) (ts.length+1) cap5) nx (ts++[Tk.mk xk xn xt xa]):=⟨RR,by simp;omega,HR.out,J.stp.trans s5⟩
      have HN:=Lib.hid JN;clear R3' R5 s5' RR J s5 JN;go_wp2;go_roundw
      case rel=>(try ((repeat apply Exists.intro);refine⟨?_,rfl⟩));exact⟨nx,_,o5,by go_num,by omega,HN.out⟩
      case measure=>simp[intOf];omega
    ·have JN:RsQ s.data.toList w wr o u5 (q+1) ts:=by
      refine⟨J.row,by omega,?_,J.stp⟩;have h1:=J.run;rw[hda,lexL_yes (k:=0) (by exact hb),lexL_blank _ [] _ (q+1)] at h1;exact h1
     have HN:=Lib.hid JN;clear J JN hda;go_wp2_with (go_at_call 49;refine(blk_r _ _ hbq).mono ?_;rw[hb];rintro e w1 ⟨rfl,rfl⟩);go_roundw
     case rel=>(try ((repeat apply Exists.intro);refine⟨?_,rfl⟩));exact⟨q+1,ts,o,by go_num,by omega,HN.out⟩
     case measure=>simp[intOf];omega
   ·obtain rfl:q=s.size:=by omega
    have hps:ts.length<=2001:=by omega
    have HJ:=Lib.hid J;have R3':=J.row.step (allocStep (fun _=>False) wr o (.cells #[.int .i64 0,.int .i64 0,.string ⟨#[]⟩,.int .i64 (s.size:Nat)] 67)) (by simp);clear J;go_wp2_with (first|(at_builtin;refine wpList_append_lab rfl (.tmp 39) (.tmp 43) 59 rfl 67 ii (.agg #[.int .i64 0,.int .i64 0,.string ⟨#[]⟩,.int .i64 0]) 4 40 Tryz.underlying59 hii hz0 hz1 hz2 rfl (by decide) o 4 _ ts.length (tcells ts) rfl R3' ⟨wr.heap.size,0,none⟩ 1 1 [.int .i64 0,.int .i64 0,.string ⟨#[]⟩,.int .i64 (s.size:Nat)] rfl rfl ?d1 ?d2 (by decide) ?d3 ?d4 ?_)|go_in)
    case d1=>exact new_four_at (by simp) _ _ _ _ _
    case d2=>intro u hu;simp at hu;rcases hu with rfl|rfl|rfl|rfl<;>rfl
    case d3=>unfold maxLen;omega
    case d4=>omega
    intro g5 cap5 w5 o5 R5 s5';have J:=HJ.out;have s5:Step (fun k=>k=4) wr o w5 o5:=(allocStep _ wr o _).trans s5';have S5:=J.stp.trans s5;have RN:lexA s.data.toList=.inr (ts++[⟨0,0,[],s.size⟩]):=by
     have:=J.run
     rw[List.drop_of_length_le (by rw[HL.out];exact Nat.le_refl _)] at this;rw[<-this];exact preR_inr _ _
    have RR:Row w5 o5 4 67 4 (.slice (some ⟨g5,0,none⟩) (ts.length+1) cap5) (ts++[Tk.mk 0 0 [] s.size]).length (tcells (ts++[Tk.mk 0 0 [] s.size])):=by
     rw[tcells_more,List.length_append];exact R5
    have OR:=RR.fresh S5;have hbe:=I44_below S5;have HN:=Lib.hid RN;clear R3' R5 s5' RR J s5 RN S5;go_wp2;go_ret3;exact⟨_,_,_,rfl,Or.inr ⟨_,HF.out.trans HN.out,rfl,rfl,OR⟩,hbe⟩
set_option linter.unusedSimpArgs false
theorem drew_at (w:World)(k:Nat):w.drew.heap[k]?=w.heap[k]?:=rfl
theorem cf_cells {wx:World}{bq er a:Nat}(hw:wx.heap[bq]?=some (.cells #[.int .i64 (er:Nat),.int .i64 (a:Nat)] 113)):wx.cell? ⟨bq,0,none⟩=some (.int .i64 (er:Nat))/\wx.cell? ⟨bq,1,none⟩=some (.int .i64 (a:Nat)):=by
 obtain⟨y0,y1,-⟩:=Blk.cells2 (o:=fun _=>0) (i:=0) ⟨hw,rfl⟩;exact⟨y0,y1⟩
section
variable {w w1:World}{B bq er a:Nat}{v0 v1 v2 v3 v4 ve va:Value}
theorem cf7 (R1:w1.heap[bq]?=some (.cells #[.int .i64 (er:Nat),.int .i64 (a:Nat)] 113))(hB:B+2<bq):((World.setCell (World.setCell (World.setCell (World.setCell (World.setCell (World.setCell (World.setCell w1 ⟨B,0,none⟩ (.int .i64 0)) ⟨B,1,none⟩ (.int .i64 0)) ⟨B,2,none⟩ (.string ⟨#[]⟩)) ⟨B,3,none⟩ (.slice none 0 0)) ⟨B,4,none⟩ (.int .i64 0)) ⟨B+1,0,none⟩ (.int .i64 (er:Nat))) ⟨B+2,0,none⟩ (.int .i64 (a:Nat)))).drew.cell? ⟨bq,0,none⟩=some (.int .i64 (er:Nat))/\((World.setCell (World.setCell (World.setCell (World.setCell (World.setCell (World.setCell (World.setCell w1 ⟨B,0,none⟩ (.int .i64 0)) ⟨B,1,none⟩ (.int .i64 0)) ⟨B,2,none⟩ (.string ⟨#[]⟩)) ⟨B,3,none⟩ (.slice none 0 0)) ⟨B,4,none⟩ (.int .i64 0)) ⟨B+1,0,none⟩ (.int .i64 (er:Nat))) ⟨B+2,0,none⟩ (.int .i64 (a:Nat)))).drew.cell? ⟨bq,1,none⟩=some (.int .i64 (a:Nat)):=cf_cells (wx:=((World.setCell (World.setCell (World.setCell (World.setCell (World.setCell (World.setCell (World.setCell w1 ⟨B,0,none⟩ (.int .i64 0)) ⟨B,1,none⟩ (.int .i64 0)) ⟨B,2,none⟩ (.string ⟨#[]⟩)) ⟨B,3,none⟩ (.slice none 0 0)) ⟨B,4,none⟩ (.int .i64 0)) ⟨B+1,0,none⟩ (.int .i64 (er:Nat))) ⟨B+2,0,none⟩ (.int .i64 (a:Nat)))).drew) ((drew_at _ bq).trans ((heap_setCell_other (World.setCell (World.setCell (World.setCell (World.setCell (World.setCell (World.setCell w1 ⟨B,0,none⟩ (.int .i64 0)) ⟨B,1,none⟩ (.int .i64 0)) ⟨B,2,none⟩ (.string ⟨#[]⟩)) ⟨B,3,none⟩ (.slice none 0 0)) ⟨B,4,none⟩ (.int .i64 0)) ⟨B+1,0,none⟩ (.int .i64 (er:Nat))) ⟨B+2,0,none⟩ bq (.int .i64 (a:Nat)) (show bq≠B+2 by omega)).trans ((heap_setCell_other (World.setCell (World.setCell (World.setCell (World.setCell (World.setCell w1 ⟨B,0,none⟩ (.int .i64 0)) ⟨B,1,none⟩ (.int .i64 0)) ⟨B,2,none⟩ (.string ⟨#[]⟩)) ⟨B,3,none⟩ (.slice none 0 0)) ⟨B,4,none⟩ (.int .i64 0)) ⟨B+1,0,none⟩ bq (.int .i64 (er:Nat)) (show bq≠B+1 by omega)).trans ((heap_set5 w1 B bq (.int .i64 0) (.int .i64 0) (.string ⟨#[]⟩) (.slice none 0 0) (.int .i64 0) (by omega)).trans R1))))
end
def PostR (w:World)(res:Rs Ex)(e:Ending)(w':World):Prop :=
 match res with
 | ⟨none⟩=>False
 | ⟨some (.inl (er,a))⟩=>e=.returned (.tuple #[exV noEx none 0,.int .i64 (er:Nat),.int .i64 (a:Nat)])/\Below w.heap.size w w'
 | ⟨some (.inr (x,_))⟩=>∃ao cap,e=.returned (.tuple #[exV x ao cap,.int .i64 0,.int .i64 0])/\Sl w' (Nw w.heap.size) x.kids ao/\Below w.heap.size w w'
theorem QS.bad5 {w:World}{rb o q er a:Nat}{all:List Tk}(h:QS w rb all o q (.inl (er,a))):((er:Int)==0)=false/\w.cell? ⟨rb,4,none⟩=some (.int .i64 (er:Nat))/\w.cell? ⟨rb,5,none⟩=some (.int .i64 (a:Nat)):=by
 obtain⟨i,o',q',h1,h2,h3⟩:=h;obtain⟨_,_,_,_,_,_,_,_,_,_,_,c4,c5,hf0⟩:=h1.next (List.getElem?_eq_getElem h2);exact⟨by simp;omega,c4,c5⟩
theorem QS.new {w:World}{g cap0:Nat}{ts:List Tk}(hg:g<w.heap.size)(hc:∀ j u,(tcells ts)[j]?=some u->w.cell? ⟨g,j,none⟩=some u)(hl:ts.length<=3000)(hc1:ts.length<=cap0)(hc2:cap0<=maxLen)(hw:WFT ts) :
  QS (w.alloc (.cells #[.slice (some ⟨g,0,none⟩) ts.length cap0,.int .i64 0,.int .i64 0,.int .i64 0,.int .i64 0,.int .i64 0] 64)) w.heap.size ts 0 0 (.inr ts) :=
 ⟨0,0,⟨g,cap0,heap_alloc_new w _,hg,fun j u hu=>(((Below.refl _ w).alloc (Nat.le_refl _) _).cell (p:=⟨g,j,none⟩) hg).trans (hc j u hu),hl,hc1,hc2⟩,rfl,hw,by omega,by omega⟩
theorem own_cells {w:World}{b0:Nat}{v:Value}{ts:List Tk}(hT:w.ownsRow b0 67 4 v ts.length (tcells ts))(h0:0<ts.length):∃g cap,v=.slice (some ⟨g,0,none⟩) ts.length cap/\g<w.heap.size/\ts.length<=cap/\cap<=maxLen/\∀ j u,(tcells ts)[j]?=some u->w.cell? ⟨g,j,none⟩=some u:=by
 have r0:Row w (fun _=>0) 0 67 4 v ts.length (tcells ts):=⟨ownsRow_base0 hT,fun _ _=>rfl⟩
 obtain⟨g,cap,rfl,-,hc1,hc2,hg,hcell,-⟩:=r0.pos h0;refine⟨g,cap,rfl,hg,hc1,hc2,fun j u hu=>?_⟩;rw[hcell j ?_]
 ·exact hu
 ·have hlen:=r0.len;rw[<-hlen];by_cases hj:j<(tcells ts).length
  ·exact hj
  ·rw[List.getElem?_eq_none (by omega)] at hu;cases hu
theorem read_bad {n:Nat}{ts:List Tk}{X:Ex}{er a:Nat}(hn:Nou (partF n 1 0 0) (.inr ts))(Q:Qd (partF n 1 0 0) (.inr ts) X (.inl (er,a))):readF n ts=.bad er a:=by
 have h1:=Q.1;simp only[onw] at h1;unfold readF;cases hp:partF n 1 0 0 ts using Rs.on with
 | out=>exact absurd hp (hn ts rfl)
 | bad e2 a2 =>
  rw[hp] at h1;simp only[stp] at h1;injection h1 with h1
  injection h1 with h1 h2
  subst h1 h2;rfl
 | ok y t=>rw[hp] at h1;cases h1
theorem read_good {n:Nat}{ts:List Tk}{X:Ex}{y:Tk}{r:List Tk}(hn:Nou (partF n 1 0 0) (.inr ts))(Q:Qd (partF n 1 0 0) (.inr ts) X (.inr (y::r))):readF n ts=if y.k=0 then .ok X (y::r) else .bad 120 y.a:=by
 have h1:=Q.1;simp only[onw] at h1;unfold readF;cases hp:partF n 1 0 0 ts using Rs.on with
 | out=>exact absurd hp (hn ts rfl)
 | bad e2 a2=>rw[hp] at h1;cases h1
 | ok z t =>
  rw[hp] at h1;simp only[stp] at h1;injection h1 with h1
  subst h1;rw[Q.2 ts z _ rfl hp];rfl
theorem parse_q (s:ByteArray)(w:World)(hs:s.size<=maxLen) :
  Calls Tryz.prog 8 #[.string s] w (PostR w (parseA s.data.toList)):=by
 obtain⟨W,hPW⟩:∃W,W=parseA s.data.toList:=⟨_,rfl⟩
 rw[<-hPW];have HW:Hid (W=parseA s.data.toList):=hPW;have hn:W≠.out:=by rw[hPW];exact parse_fine _
 have B0:Below w.heap.size w (w.alloc exZ):=(Below.refl _ w).alloc (Nat.le_refl _) _;have Z0:(w.alloc exZ).heap[w.heap.size]?=some exZ:=heap_alloc_new w _;have hs0:w.heap.size<(w.alloc exZ).heap.size:=by simp
 have c1:=rscan_c s (w.alloc exZ) hs;clear hPW;go_enter Tryz.func8,Tryz.ntmps8;go_wp2_with fail;refine c1.mono ?_;rintro e w1 ⟨v,er,at0,rfl,hO,b1⟩;have B1:Below w.heap.size w w1:=B0.trans (b1.mono (by omega));have Z1:=(b1.block _ hs0).trans Z0;have hz1:w.heap.size<w1.heap.size:=lt_of_block Z1;clear c1 b1 Z0 B0;rcases hO with ⟨e,p,hR,rfl,rfl,rfl⟩|⟨ts,hR,rfl,rfl,hown⟩
 ·have he:=scan_err_pos hR;have heI:((e:Int)==0)=false:=by rw[beq_eq_false_iff_ne];omega
  have heI2:((e:Int) != 0)=true:=by simpa using heI
  have FIN:Hid (W=.bad e p):=by show W=_;rw[HW.out];unfold parseA;rw[hR]
  have B9:=((((B1.setCell (p:=⟨w.heap.size,0,none⟩) (Nat.le_refl _) (.int .i64 0)).setCell (p:=⟨w.heap.size,1,none⟩) (Nat.le_refl _) (.int .i64 0)).setCell (p:=⟨w.heap.size,2,none⟩) (Nat.le_refl _) (.string ⟨#[]⟩)).setCell (p:=⟨w.heap.size,3,none⟩) (Nat.le_refl _) (.slice none 0 0)).setCell (p:=⟨w.heap.size,4,none⟩) (Nat.le_refl _) (.int .i64 0);have ZE:=set5k (.int .i64 0) (.int .i64 0) (.string ⟨#[]⟩) (.slice none 0 0) (.int .i64 0) Z1;have HU:Hid (∃wz,wz=(World.setCell (World.setCell (World.setCell (World.setCell (World.setCell w1 ⟨w.heap.size,0,none⟩ (.int .i64 0)) ⟨w.heap.size,1,none⟩ (.int .i64 0)) ⟨w.heap.size,2,none⟩ (.string ⟨#[]⟩)) ⟨w.heap.size,3,none⟩ (.slice none 0 0)) ⟨w.heap.size,4,none⟩ (.int .i64 0))/\wz.cell? ⟨w.heap.size,0,none⟩=some (.int .i64 0)/\wz.cell? ⟨w.heap.size,1,none⟩=some (.int .i64 0)/\wz.cell? ⟨w.heap.size,2,none⟩=some (.string ⟨#[]⟩)/\wz.cell? ⟨w.heap.size,3,none⟩=some (.slice none 0 0)/\wz.cell? ⟨w.heap.size,4,none⟩=some (.int .i64 0)/\Below w.heap.size w wz):=by
   obtain⟨u0,u1,u2,u3,u4,-⟩:=box5 ZE;exact⟨_,rfl,u0,u1,u2,u3,u4,B9⟩
  obtain⟨z0,z1,z2,z3,z4,zf⟩:=box5 Z1;clear ZE B9;clear HW hR B1 Z1 he;go_wp2;obtain⟨wz,hwz,u0,u1,u2,u3,u4,BZ⟩:=HU.out;clear HU;rw[<-hwz];clear hwz;exact bodyPost_ret (v:=.tuple #[exV noEx none 0,.int .i64 (e:Nat),.int .i64 (p:Nat)]) (by simp[results,Tryz.results8,go_sem,u0,u1,u2,u3,u4,exV,noEx,Fs.len]) rfl (by rw[FIN.out];exact⟨rfl,BZ⟩)
 ·have hso:=scan_ok hR;have hPW:W=readF 30000 ts:=by rw[HW.out];unfold parseA;rw[hR]
  have HW2:Hid (W=readF 30000 ts):=hPW;have hNou:Nou (partF 30000 1 0 0) (.inr ts):=fun t0 h0 e=>hn (by cases h0;rw[hPW];unfold readF;rw[e];rfl);have hwf:WFT ts:=lex_wft _ _ _ _ _ _ hso.2.1;have TI:∀ x,x ∈ ts->TokI x:=fun x hx s h1 h2=>(scan_w hR x hx).is h1 h2;obtain⟨g,cap0,rfl,hg,hc1,hc2,hcell⟩:=own_cells hown hso.2.2.2.2.1;have hA:=QS.new hg hcell (by omega) hc1 hc2 hwf;have kA:=(Keep.refl w1.heap.size w1).alloc (.cells #[.slice (some ⟨g,0,none⟩) ts.length cap0,.int .i64 0,.int .i64 0,.int .i64 0,.int .i64 0,.int .i64 0] 64);have ZA:=(Below.heap_alloc w1 (.cells #[.slice (some ⟨g,0,none⟩) ts.length cap0,.int .i64 0,.int .i64 0,.int .i64 0,.int .i64 0,.int .i64 0] 64) _ hz1).trans Z1;have BA:=B1.alloc (by omega) (.cells #[.slice (some ⟨g,0,none⟩) ts.length cap0,.int .i64 0,.int .i64 0,.int .i64 0,.int .i64 0,.int .i64 0] 64);have c2:=(rec_all 30000 (by omega)).1 _ _ ts 1 0 0 _ TI (by omega) (by omega) hA hNou;have hsA:(w1.alloc (.cells #[.slice (some ⟨g,0,none⟩) ts.length cap0,.int .i64 0,.int .i64 0,.int .i64 0,.int .i64 0,.int .i64 0] 64)).heap.size=w1.heap.size+1:=by simp
  have hrb:=hA.lt;clear HW hR hso hown hPW hcell hA hwf TI hn hg hc1 hc2 kA;go_wp2_with fail;refine c2.mono ?_;rintro e w2 ⟨X,ao,cap,st,rfl,S2,h2,k2,Q2⟩;have b2:=k2.below (Nat.le_of_lt hz1) hrb;have Z2:=k2.blk ZA (by omega);have B2:=BA.trans b2;have hz2:w.heap.size<w2.heap.size:=lt_of_block Z2;have h3:=h2.alloc (bxE X ao cap);have Z3:=(Below.heap_alloc w2 (bxE X ao cap) _ hz2).trans Z2;have B3:=B2.alloc (by omega) (bxE X ao cap);have X3:(w2.alloc (bxE X ao cap)).heap[w2.heap.size]?=some (bxE X ao cap):=heap_alloc_new w2 _;have S3:=S2.allocN (bxE X ao cap);have hz3:w1.heap.size<w2.heap.size:=h2.lt;rw[exV_out];go_upto_region 6 with fail;generalize w2.alloc (bxE X ao cap)=w3 at *;obtain⟨xb,hxb⟩:∃xb,xb=w2.heap.size:=⟨_,rfl⟩
  rw[<-hxb] at X3 hz3 ⊢;have hxw:w.heap.size<xb:=by omega
  have hwr:w.heap.size<w1.heap.size:=hz1;have S3:=S3.low (show w.heap.size+1<=_ from (by omega));clear c2 S2 h2 k2 b2 Z2 B2 BA ZA B1 Z1 hz2 hxb hsA hrb;generalize w1.heap.size=rb at *
  match st,h3,Q2 with
  | .inl (er,a),h3,Q2 =>
   have FIN:Hid (W=.bad er a):=by show W=_;rw[HW2.out];exact read_bad hNou Q2
   clear HW2 Q2 hNou;obtain⟨hb,d4,d5⟩:=h3.bad5;have hb2:((er:Int) != 0)=true:=by simpa using hb
   go_quiet (fail)
   have b4:Below w3.heap.size w3 (w3.drewN nq):=bdr (Below.refl _ _) nq;have h4:=h3.below b4;have Z4:=(b4.block _ (lt_of_block Z3)).trans Z3;have B4:=B3.trans (b4.mono B3.size);generalize w3.drewN nq=w4 at *;clear b4 h3 Z3 B3 X3 S3 hb d4 d5 hb2;obtain⟨hb,d4,d5⟩:=h4.bad5;have hb2:((er:Int) != 0)=true:=by simpa using hb
   have B9:=((((B4.setCell (p:=⟨w.heap.size,0,none⟩) (Nat.le_refl _) (.int .i64 0)).setCell (p:=⟨w.heap.size,1,none⟩) (Nat.le_refl _) (.int .i64 0)).setCell (p:=⟨w.heap.size,2,none⟩) (Nat.le_refl _) (.string ⟨#[]⟩)).setCell (p:=⟨w.heap.size,3,none⟩) (Nat.le_refl _) (.slice none 0 0)).setCell (p:=⟨w.heap.size,4,none⟩) (Nat.le_refl _) (.int .i64 0);have ZE:=set5k (.int .i64 0) (.int .i64 0) (.string ⟨#[]⟩) (.slice none 0 0) (.int .i64 0) Z4;have HU:Hid (∃wz,wz=(World.setCell (World.setCell (World.setCell (World.setCell (World.setCell w4 ⟨w.heap.size,0,none⟩ (.int .i64 0)) ⟨w.heap.size,1,none⟩ (.int .i64 0)) ⟨w.heap.size,2,none⟩ (.string ⟨#[]⟩)) ⟨w.heap.size,3,none⟩ (.slice none 0 0)) ⟨w.heap.size,4,none⟩ (.int .i64 0))/\wz.cell? ⟨w.heap.size,0,none⟩=some (.int .i64 0)/\wz.cell? ⟨w.heap.size,1,none⟩=some (.int .i64 0)/\wz.cell? ⟨w.heap.size,2,none⟩=some (.string ⟨#[]⟩)/\wz.cell? ⟨w.heap.size,3,none⟩=some (.slice none 0 0)/\wz.cell? ⟨w.heap.size,4,none⟩=some (.int .i64 0)/\Below w.heap.size w wz):=by
    obtain⟨u0,u1,u2,u3,u4,-⟩:=box5 ZE;exact⟨_,rfl,u0,u1,u2,u3,u4,B9⟩
   obtain⟨z0,z1,z2,z3,z4,zf⟩:=box5 Z4;clear ZE B9;clear h4 B4 Z4;go_upto_region 9 with fail;go_region
   all_goals
    go_wp2;obtain⟨wz,hwz,u0,u1,u2,u3,u4,BZ⟩:=HU.out;clear HU;have BZd:=BZ.drew;rw[<-hwz];clear hwz;exact bodyPost_ret (v:=.tuple #[exV noEx none 0,.int .i64 (er:Nat),.int .i64 (a:Nat)]) (by simp[results,Tryz.results8,go_sem,u0,u1,u2,u3,u4,exV,noEx,Fs.len]) rfl (by rw[FIN.out];exact⟨rfl,BZd⟩)
  | .inr [],h3,Q2=>exact absurd rfl (h3.nn [] rfl)
  | .inr (y::r),h3,Q2 =>
   have FIN0:Hid (W=if y.k=0 then .ok X (y::r) else .bad 120 y.a):=by show W=_;rw[HW2.out];exact read_good hNou Q2
   clear HW2 Q2 hNou;obtain⟨i3,g3,cap3,L3,hg3,hi3,hcL3,hcap3,hL3,hm3,d0,d1,-,-,d4,⟨t0,t1,t2,t3⟩,hf⟩:=h3.ok;have hiI:(i3:Int)<(L3:Int):=by omega
   by_cases hk:y.k=0
   ·have FIN:Hid (W=.ok X (y::r)):=by show W=_;rw[FIN0.out,if_pos hk]
    have bk:((y.k:Int)==0)=true:=by simp[hk]
    have bk2:((y.k:Int) != 0)=false:=by simp[hk]
    clear FIN0 hk
    go_quiet (fail)
    have b4:Below w3.heap.size w3 (w3.drewN nq):=bdr (Below.refl _ _) nq;have e4:=(b4.cell (p:=⟨rb,4,none⟩) h3.lt).trans d4;have Z4:=(b4.block _ (lt_of_block Z3)).trans Z3;have X4:=(b4.block _ (lt_of_block X3)).trans X3;have B4:=B3.trans (b4.mono B3.size);have S4:=S3.mono (fun i _ hl=>b4.block i hl) b4.size (fun _ h _=>h);generalize w3.drewN nq=w4 at *;clear b4 h3 Z3 B3 X3 S3 d0 d1 d4 t0 t1 t2 t3 hf hm3 bk bk2;have B9:=((((B4.setCell (p:=⟨w.heap.size,0,none⟩) (Nat.le_refl _) (.int .i64 X.k)).setCell (p:=⟨w.heap.size,1,none⟩) (Nat.le_refl _) (.int .i64 X.n)).setCell (p:=⟨w.heap.size,2,none⟩) (Nat.le_refl _) (stv X.nm)).setCell (p:=⟨w.heap.size,3,none⟩) (Nat.le_refl _) (.slice ao X.kids.len cap)).setCell (p:=⟨w.heap.size,4,none⟩) (Nat.le_refl _) (.int .i64 X.a);have ZE:=set5k (.int .i64 X.k) (.int .i64 X.n) (stv X.nm) (.slice ao X.kids.len cap) (.int .i64 X.a) Z4;have SE:Sl _ (Nw w.heap.size) _ _:=(S4.set5 (b:=w.heap.size) (by omega) (.int .i64 X.k) (.int .i64 X.n) (stv X.nm) (.slice ao X.kids.len cap) (.int .i64 X.a)).low (by omega);obtain⟨z0,z1,z2,z3,z4,zf⟩:=box5 Z4;obtain⟨x0,x1,x2,x3,x4,xf⟩:=box5 X4;obtain⟨u0,u1,u2,u3,u4,-⟩:=box5 ZE;clear ZE Z4 X4 B4 S4;go_wp2;exact bodyPost_ret (v:=.tuple #[exV X ao cap,.int .i64 0,.int .i64 0]) (by simp[results,Tryz.results8,go_sem,u0,u1,u2,u3,u4,exV]) rfl (by rw[FIN.out];exact⟨ao,cap,rfl,SE,B9⟩)
   ·have FIN:Hid (W=.bad 120 y.a):=by show W=_;rw[FIN0.out,if_neg hk]
    have bk:((y.k:Int)==0)=false:=by simp;omega
    have bk2:((y.k:Int) != 0)=true:=by simp;omega
    clear FIN0 hk
    go_quiet (fail)
    have b4:Below w3.heap.size w3 (w3.drewN nq):=bdr (Below.refl _ _) nq;have h4:=h3.below b4;have Z4:=(b4.block _ (lt_of_block Z3)).trans Z3;have B4:=B3.trans (b4.mono B3.size);generalize w3.drewN nq=w4 at *;clear b4 h3 Z3 B3 X3 S3 d0 d1 d4 t0 t1 t2 t3 hf hm3 bk bk2;have c5:Calls Tryz.prog 29 #[.pointer (some ⟨rb,0,none⟩),.int .i64 120] w4 fun r' w'=>r'=.returned (.tuple #[])/\QS w' rb ts 0 0 (.inl (120,y.a))/\Keep rb w4 w':=fail_s 120 (by decide) h4;have hr4:=h4.lt;go_wp2_with fail;refine c5.mono ?_;rintro e w5 ⟨rfl,h5,k5⟩;have Z5:=k5.blk Z4 (by omega);have B5:=B4.trans (k5.below (Nat.le_of_lt hwr) hr4);clear c5 k5 Z4 B4 h4 hr4;obtain⟨hb,d4,d5⟩:=h5.bad5;have hb2:((120:Int) != 0)=true:=by decide
    have B9:=((((B5.setCell (p:=⟨w.heap.size,0,none⟩) (Nat.le_refl _) (.int .i64 0)).setCell (p:=⟨w.heap.size,1,none⟩) (Nat.le_refl _) (.int .i64 0)).setCell (p:=⟨w.heap.size,2,none⟩) (Nat.le_refl _) (.string ⟨#[]⟩)).setCell (p:=⟨w.heap.size,3,none⟩) (Nat.le_refl _) (.slice none 0 0)).setCell (p:=⟨w.heap.size,4,none⟩) (Nat.le_refl _) (.int .i64 0);have ZE:=set5k (.int .i64 0) (.int .i64 0) (.string ⟨#[]⟩) (.slice none 0 0) (.int .i64 0) Z5;have HU:Hid (∃wz,wz=(World.setCell (World.setCell (World.setCell (World.setCell (World.setCell w5 ⟨w.heap.size,0,none⟩ (.int .i64 0)) ⟨w.heap.size,1,none⟩ (.int .i64 0)) ⟨w.heap.size,2,none⟩ (.string ⟨#[]⟩)) ⟨w.heap.size,3,none⟩ (.slice none 0 0)) ⟨w.heap.size,4,none⟩ (.int .i64 0))/\wz.cell? ⟨w.heap.size,0,none⟩=some (.int .i64 0)/\wz.cell? ⟨w.heap.size,1,none⟩=some (.int .i64 0)/\wz.cell? ⟨w.heap.size,2,none⟩=some (.string ⟨#[]⟩)/\wz.cell? ⟨w.heap.size,3,none⟩=some (.slice none 0 0)/\wz.cell? ⟨w.heap.size,4,none⟩=some (.int .i64 0)/\Below w.heap.size w wz):=by
     obtain⟨u0,u1,u2,u3,u4,-⟩:=box5 ZE;exact⟨_,rfl,u0,u1,u2,u3,u4,B9⟩
    obtain⟨z0,z1,z2,z3,z4,zf⟩:=box5 Z5;clear ZE B9;clear h5 B5 Z5;go_upto_region 9 with fail;go_region
    all_goals
     go_wp2;obtain⟨wz,hwz,u0,u1,u2,u3,u4,BZ⟩:=HU.out;clear HU;have BZd:=BZ.drew;rw[<-hwz];clear hwz;exact bodyPost_ret (v:=.tuple #[exV noEx none 0,.int .i64 (120:Nat),.int .i64 (y.a:Nat)]) (by simp[results,Tryz.results8,go_sem,u0,u1,u2,u3,u4,exV,noEx,Fs.len]) rfl (by rw[FIN.out];exact⟨rfl,BZd⟩)
def tkG (x:Tk):Prop:=-9223372036854775808<=x.n/\x.n<=9223372036854775807/\x.t.length<=2000/\x.a<=2000
def Fs.gd:Fs->Prop
 | ⟨none⟩=>True
 | ⟨some ⟨_,n,nm,a,ks,r⟩⟩=>-9223372036854775808<=n/\n<=9223372036854775807/\nm.length<=2000/\0<=a/\a<=2000/\ks.gd/\r.gd
theorem Fs.gd_app:∀ {x y:Fs},x.gd->y.gd->(x.app y).gd
 | ⟨none⟩,y,h,k=>k
 | ⟨some ⟨_,_,_,_,_,r⟩⟩,y,h,k=>⟨h.1,h.2.1,h.2.2.1,h.2.2.2.1,h.2.2.2.2.1,h.2.2.2.2.2.1,Fs.gd_app h.2.2.2.2.2.2 k⟩
def Ex.gd (e:Ex):Prop:=(one e).gd
def Ex.sz (e:Ex):Nat:=(one e).size
theorem Ex.gd_mk {k n:Int}{nm:List UInt8}{a:Nat}{ks:Fs}(h1:-9223372036854775808<=n)(h2:n<=9223372036854775807)(h3:nm.length<=2000)(h4:a<=2000)(h5:ks.gd):(⟨k,n,nm,(a:Nat),ks⟩:Ex).gd:=⟨h1,h2,h3,by show (0:Int)<=(a:Nat);omega,by show ((a:Nat):Int)<=2000;omega,h5,trivial⟩
theorem Ex.sz_mk (k n:Int)(nm:List UInt8)(a:Int)(ks:Fs):(⟨k,n,nm,a,ks⟩:Ex).sz=ks.size+1:=rfl
theorem gd_snoc {x:Fs}{e:Ex}(h:x.gd)(k:e.gd):(x.snoc e).gd:=Fs.gd_app h k
theorem sz_snoc (x:Fs)(e:Ex):(x.snoc e).size=x.size+e.sz:=Fs.size_app x (one e)
def Gb {α:Type}(T:List Tk)(b:Nat)(P:α->Prop)(sz:α->Nat)(R:Rs α):Prop:=∀ x t,R=.ok x t->t <:+ T/\P x/\sz x+t.length<=b
section
variable {T:List Tk}
theorem Gb.bind {α β:Type}{b1 b:Nat}{P:α->Prop}{sz:α->Nat}{Q:β->Prop}{sq:β->Nat}{R:Rs α}{f:α->List Tk->Rs β}(h:Gb T b1 P sz R)(hf:∀ x t,t <:+ T->P x->sz x+t.length<=b1->Gb T b Q sq (f x t)):Gb T b Q sq (R.bind f):=by
 cases R using Rs.on with
 | out=>intro x t e;cases e
 | bad e a=>intro x t e;cases e
 | ok x t =>
  obtain⟨h1,h2,h3⟩:=h x t rfl;exact hf x t h1 h2 h3
theorem Gb.bad {α:Type}{b e a:Nat}{P:α->Prop}{sz:α->Nat}:Gb T b P sz (.bad e a:Rs α):=fun x t h=>by cases h
theorem Gb.out {α:Type}{b:Nat}{P:α->Prop}{sz:α->Nat}:Gb T b P sz (.out:Rs α):=fun x t h=>by cases h
theorem Gb.ok {α:Type}{b:Nat}{P:α->Prop}{sz:α->Nat}{x:α}{t:List Tk}(h:t <:+ T)(hp:P x)(hs:sz x+t.length<=b):Gb T b P sz (.ok x t):=fun y u e=>by
 obtain⟨e1,e2⟩:=Rs.ok_inj e;subst e1 e2;exact⟨h,hp,hs⟩
theorem gb_pass (HT:∀ y,y ∈ T->tkG y)(s:List UInt8){ts:List Tk}(h:ts <:+ T):Gb T ts.length (fun a=>a<=2000) (fun _=>1) (passT s ts):=by
 cases ts with
 | nil=>exact Gb.out
 | cons x r =>
  simp only[passT];split
  ·exact Gb.ok ((List.suffix_cons x r).trans h) (HT x (h.mem (by simp))).2.2.2 (by simp;omega)
  ·exact Gb.bad
theorem gb_kind (HT:∀ y,y ∈ T->tkG y)(k:Nat){ts:List Tk}(h:ts <:+ T):Gb T ts.length tkG (fun _=>1) (passK k ts):=by
 cases ts with
 | nil=>exact Gb.out
 | cons x r =>
  simp only[passK];split
  ·exact Gb.ok ((List.suffix_cons x r).trans h) (HT x (h.mem (by simp))) (by simp;omega)
  ·exact Gb.bad
theorem gb_enter (HT:∀ y,y ∈ T->tkG y)(s:List UInt8)(o:Nat){ts:List Tk}(h:ts <:+ T):Gb T ts.length (fun a=>a<=2000) (fun _=>1) (enterT s o ts):=by
 cases ts with
 | nil=>exact Gb.out
 | cons x r =>
  simp only[enterT];split
  ·split
   ·exact Gb.bad
   ·exact Gb.ok ((List.suffix_cons x r).trans h) (HT x (h.mem (by simp))).2.2.2 (by simp;omega)
  ·exact Gb.bad
variable {rec:Rdr}
theorem gb_argsL (HT:∀ y,y ∈ T->tkG y)(H:∀ row o q ts,ts <:+ T->Gb T ts.length Ex.gd Ex.sz (rec row o q ts)):∀ (j:Nat) (o q:Nat) (acc:Fs) (ts:List Tk) (b:Nat),ts <:+ T->acc.gd->acc.size+ts.length<=b->Gb T b Fs.gd Fs.size (argsL rec j o q acc ts)
 | 0,o,q,acc,ts,b,h,hg,hb=>Gb.ok h hg hb
 | j+1,o,q,acc,ts,b,h,hg,hb=>by
  unfold argsL;refine(gb_pass HT _ h).bind fun _ t1 h1 _ l1=>(H _ _ _ _ h1).bind fun e t2 h2 p2 l2=>?_;exact gb_argsL HT H j o q _ t2 b h2 (gd_snoc hg p2) (by rw[sz_snoc];omega)
theorem gb_args (HT:∀ y,y ∈ T->tkG y)(H:∀ row o q ts,ts <:+ T->Gb T ts.length Ex.gd Ex.sz (rec row o q ts))(many o q:Nat){ts:List Tk}(h:ts <:+ T):Gb T (ts.length-1) Fs.gd Fs.size (argsR rec many o q ts):=by
 unfold argsR;refine(gb_enter HT _ _ h).bind fun _ t1 h1 _ l1=>(H _ _ _ _ h1).bind fun e t2 h2 p2 l2=>?_;refine(gb_argsL HT H _ _ _ _ t2 t1.length h2 p2 l2).bind fun ks t3 h3 p3 l3=>?_;exact(gb_pass HT _ h3).bind fun _ t4 h4 _ l4=>Gb.ok h4 p3 (by omega)
theorem gb_choice (HT:∀ y,y ∈ T->tkG y)(H:∀ row o q ts,ts <:+ T->Gb T ts.length Ex.gd Ex.sz (rec row o q ts))(o q:Nat){ts:List Tk}(h:ts <:+ T):Gb T ts.length Ex.gd Ex.sz (choiceR rec o q ts):=by
 unfold choiceR;refine(gb_enter HT _ _ h).bind fun a t1 h1 p1 l1=>(H _ _ _ _ h1).bind fun x t2 h2 p2 l2=>?_;refine(gb_pass HT _ h2).bind fun _ t3 h3 _ l3=>(H _ _ _ _ h3).bind fun y t4 h4 p4 l4=>?_;refine(gb_pass HT _ h4).bind fun _ t5 h5 _ l5=>(H _ _ _ _ h5).bind fun z t6 h6 p6 l6=>?_;refine Gb.ok h6 (Ex.gd_mk (by omega) (by omega) (by simp) p1 (gd_snoc (gd_snoc p2 p4) p6)) ?_;rw[Ex.sz_mk,sz_snoc,sz_snoc];show x.sz+y.sz+z.sz+1+_<=_;omega
theorem gb_memL (HT:∀ y,y ∈ T->tkG y)(H:∀ row o q ts,ts <:+ T->Gb T ts.length Ex.gd Ex.sz (rec row o q ts)):∀ (m:Nat) (o q:Nat) (acc:Fs) (ts:List Tk) (b:Nat),ts <:+ T->acc.gd->acc.size+ts.length<=b->Gb T b Fs.gd Fs.size (memL rec m o q acc ts)
 | 0,o,q,acc,ts,b,h,hg,hb=>Gb.out
 | m+1,o,q,acc,[],b,h,hg,hb=>Gb.out
 | m+1,o,q,acc,x::r,b,h,hg,hb=>by
  have _:=HT;unfold memL;simp only;split
  ·simp only[List.length_cons] at hb;refine(H _ _ _ _ ((List.suffix_cons x r).trans h)).bind fun e t2 h2 p2 l2=>?_;exact gb_memL HT H m o q _ t2 b h2 (gd_snoc hg p2) (by rw[sz_snoc];omega)
  ·exact Gb.ok h hg hb
theorem gb_mem (HT:∀ y,y ∈ T->tkG y)(H:∀ row o q ts,ts <:+ T->Gb T ts.length Ex.gd Ex.sz (rec row o q ts))(m o q:Nat){ts:List Tk}(h:ts <:+ T):Gb T ts.length Fs.gd Fs.size (memR rec m o q ts):=by
 cases ts with
 | nil=>exact Gb.out
 | cons x r =>
  unfold memR;simp only;split
  ·exact Gb.ok h trivial (by simp[Fs.size])
  ·exact(H _ _ _ _ h).bind fun e t1 h1 p1 l1=>gb_memL HT H m o q _ t1 _ h1 p1 l1
theorem gb_set (HT:∀ y,y ∈ T->tkG y)(H:∀ row o q ts,ts <:+ T->Gb T ts.length Ex.gd Ex.sz (rec row o q ts))(m o q:Nat){ts:List Tk}(h:ts <:+ T):Gb T ts.length Ex.gd Ex.sz (setR rec m o q ts):=by
 cases ts with
 | nil=>exact Gb.out
 | cons x r =>
  have hx:=HT x (h.mem (by simp));have hr:r <:+ T:=(List.suffix_cons x r).trans h;unfold setR;simp only;split
  ·exact Gb.ok hr (Ex.gd_mk (by omega) (by omega) hx.2.2.1 hx.2.2.2 trivial) (by rw[Ex.sz_mk];simp[Fs.size];omega)
  ·split
   ·exact Gb.ok hr (Ex.gd_mk (by omega) (by omega) (by simp) hx.2.2.2 trivial) (by rw[Ex.sz_mk];simp[Fs.size];omega)
   ·split
    ·exact(gb_args HT H 1 o q hr).bind fun ks t h1 p1 l1=>Gb.ok h1 (Ex.gd_mk (by omega) (by omega) (by simp) hx.2.2.2 p1) (by rw[Ex.sz_mk];simp;omega)
    ·refine(gb_enter HT _ _ h).bind fun a t1 h1 p1 l1=>(gb_mem HT H m _ q h1).bind fun ks t2 h2 p2 l2=>(gb_pass HT _ h2).bind fun _ t3 h3 _ l3=>?_;exact Gb.ok h3 (Ex.gd_mk (by omega) (by omega) (by simp) p1 p2) (by rw[Ex.sz_mk];omega)
theorem gb_quant (HT:∀ y,y ∈ T->tkG y)(H:∀ row o q ts,ts <:+ T->Gb T ts.length Ex.gd Ex.sz (rec row o q ts))(m:Nat)(s:List UInt8)(k o q:Nat)(hk:k<=100){ts:List Tk}(h:ts <:+ T):Gb T ts.length Ex.gd Ex.sz (quantR rec m s k o q ts):=by
 cases ts with
 | nil=>exact Gb.out
 | cons x r =>
  unfold quantR;simp only;split
  ·exact Gb.bad
  ·refine(gb_enter HT _ _ h).bind fun a t1 h1 p1 l1=>(gb_kind HT _ h1).bind fun y t2 h2 p2 l2=>(gb_pass HT _ h2).bind fun _ t3 h3 _ l3=>?_;refine(gb_set HT H m _ _ h3).bind fun e t4 h4 p4 l4=>(gb_pass HT _ h4).bind fun _ t5 h5 _ l5=>(H _ _ _ _ h5).bind fun b t6 h6 p6 l6=>?_;refine Gb.ok h6 (Ex.gd_mk (by omega) (by omega) p2.2.2.1 p1 (gd_snoc p4 p6)) ?_;rw[Ex.sz_mk,sz_snoc];show e.sz+b.sz+1+_<=_;omega
theorem gb_atom (HT:∀ y,y ∈ T->tkG y)(H:∀ row o q ts,ts <:+ T->Gb T ts.length Ex.gd Ex.sz (rec row o q ts))(m o q:Nat){ts:List Tk}(h:ts <:+ T):Gb T ts.length Ex.gd Ex.sz (atomR rec m o q ts):=by
 cases ts with
 | nil=>exact Gb.out
 | cons x r =>
  have hx:=HT x (h.mem (by simp));have hr:r <:+ T:=(List.suffix_cons x r).trans h;unfold atomR;simp only;split
  ·exact Gb.ok hr (Ex.gd_mk hx.1 hx.2.1 (by simp) hx.2.2.2 trivial) (by rw[Ex.sz_mk];simp[Fs.size];omega)
  ·split
   ·exact Gb.ok hr (Ex.gd_mk (by omega) (by omega) hx.2.2.1 hx.2.2.2 trivial) (by rw[Ex.sz_mk];simp[Fs.size];omega)
   ·split
    ·exact Gb.ok hr (Ex.gd_mk (by omega) (by omega) (by simp) hx.2.2.2 trivial) (by rw[Ex.sz_mk];simp[Fs.size];omega)
    ·split
     ·exact Gb.ok hr (Ex.gd_mk (by omega) (by omega) (by simp) hx.2.2.2 trivial) (by rw[Ex.sz_mk];simp[Fs.size];omega)
     ·split
      ·exact(gb_kind HT _ hr).bind fun y t h1 p1 l1=>Gb.ok h1 (Ex.gd_mk p1.1 p1.2.1 (by simp) hx.2.2.2 trivial) (by rw[Ex.sz_mk];simp[Fs.size];omega)
      ·split
       ·rw[par_args];unfold parR;exact(gb_enter HT _ _ h).bind fun _ t1 h1 _ l1=>(H _ _ _ _ h1).bind fun e t2 h2 p2 l2=>(gb_pass HT _ h2).bind fun _ t4 h4 _ l4=>Gb.ok h4 p2 (by omega)
       ·split
        ·exact gb_choice HT H o q h
        ·split
         ·rename_i hc
          have hz:=List.mem_of_find?_eq_some hc;have hz2:∀ z ∈ callsL,z.2.1<=100:=by decide
          have hz3:=hz2 _ hz;simp only at hz3;exact(gb_args HT H _ o q hr).bind fun ks t h1 p1 l1=>Gb.ok h1 (Ex.gd_mk (by omega) (by omega) (by simp) hx.2.2.2 p1) (by rw[Ex.sz_mk];simp;omega)
         ·split
          ·rename_i hc
           have hz:=List.mem_of_find?_eq_some hc;have hz2:∀ z ∈ quantsL,z.2<=100:=by decide
           have hz3:=hz2 _ hz;simp only at hz3;exact gb_quant HT H m _ _ o q hz3 h
          ·exact Gb.bad
theorem gb_pref (HT:∀ y,y ∈ T->tkG y)(H:∀ row o q ts,ts <:+ T->Gb T ts.length Ex.gd Ex.sz (rec row o q ts))(s:List UInt8)(k:Int)(row o q:Nat){ts:List Tk}(h:ts <:+ T):Gb T ts.length Ex.gd Ex.sz (prefR rec s k row o q ts):=by
 cases ts with
 | nil=>exact Gb.out
 | cons x r =>
  have hx:=HT x (h.mem (by simp));have hr:r <:+ T:=(List.suffix_cons x r).trans h;unfold prefR;simp only;split
  ·split
   ·exact Gb.bad
   ·refine(H _ _ _ _ hr).bind fun e t2 h2 p2 l2=>Gb.ok h2 (Ex.gd_mk (by omega) (by omega) (by simp) hx.2.2.2 p2) ?_;rw[Ex.sz_mk];show e.sz+1+_<=_;simp only[List.length_cons];omega
  ·exact H _ _ _ _ h
theorem gb_chainL (HT:∀ y,y ∈ T->tkG y)(H:∀ row o q ts,ts <:+ T->Gb T ts.length Ex.gd Ex.sz (rec row o q ts)):∀ (m row o q:Nat) (left:Ex) (ts:List Tk) (b:Nat),ts <:+ T->left.gd->left.sz+ts.length<=b->Gb T b Ex.gd Ex.sz (chainL rec m row o q left ts)
 | 0,row,o,q,left,ts,b,h,hg,hb=>Gb.out
 | m+1,row,o,q,left,[],b,h,hg,hb=>Gb.out
 | m+1,row,o,q,left,x::r,b,h,hg,hb=>by
  have hx:=HT x (h.mem (by simp));have hr:r <:+ T:=(List.suffix_cons x r).trans h;unfold chainL;simp only;split
  ·exact Gb.ok h hg hb
  ·refine(H _ _ _ _ hr).bind fun e t2 h2 p2 l2=>?_;simp only[List.length_cons] at hb;have hgd:∀ (z:Int),(⟨z,0,[],(x.a:Nat),(one left).snoc e⟩:Ex).gd:=fun z=>Ex.gd_mk (by omega) (by omega) (by simp) hx.2.2.2 (gd_snoc hg p2);have hsz:∀ (z:Int),(⟨z,0,[],(x.a:Nat),(one left).snoc e⟩:Ex).sz+t2.length<=b:=fun z=>by
    rw[Ex.sz_mk,sz_snoc];show left.sz+e.sz+1+_<=_;omega
   split
   ·exact Gb.ok h2 (hgd _) (hsz _)
   ·exact gb_chainL HT H m row o q _ t2 b h2 (hgd _) (hsz _)
end
theorem gb_part {T:List Tk}(HT:∀ y,y ∈ T->tkG y):∀ (n row o q:Nat) (ts:List Tk),ts <:+ T->Gb T ts.length Ex.gd Ex.sz (partF n row o q ts)
 | 0,row,o,q,ts,h=>Gb.out
 | n+1,row,o,q,ts,h=>by
  have H:=gb_part HT n;unfold partF;split
  ·exact gb_pref HT H _ _ _ _ _ h
  ·split
   ·exact gb_pref HT H _ _ _ _ _ h
   ·split
    ·exact gb_atom HT H n o q h
    ·exact(H _ _ _ _ h).bind fun l t h1 p1 l1=>gb_chainL HT H n row o q l t _ h1 p1 l1
theorem ptok_good {k:Nat}{t:List UInt8}{a:Nat}{x:Tk}(h:ptok k t a=.inr x):-9223372036854775808<=x.n/\x.n<=9223372036854775807/\x.t.length<=t.length:=by
 unfold ptok at h;split at h
 ·unfold wrdT at h
  repeat' split at h
  all_goals first|(injection h with h;subst h;exact⟨by simp,by simp,Nat.le_refl _⟩)|cases h
 ·unfold numT at h;cases hv:Lib.atoiAll t with
  | ok v =>
   rw[hv] at h;have hb:=Go.Lib.atoiAll_bounds hv;simp only at h;split at h
   ·cases h
   ·injection h with h
    subst h;exact⟨hb.1,hb.2,by simp⟩
  | _=>rw[hv] at h;cases h
 ·unfold sgnT at h;split at h
  all_goals first|(injection h with h;subst h;exact⟨by simp,by simp,Nat.le_refl _⟩)|cases h
 ·cases h
theorem tok_good (k:Nat)(t:List UInt8)(a p:Nat)(l:List UInt8)(ts:List Tk)(h:lexL k t a p l=.inr ts)(hl:t.length+l.length<=2000):∀ x,x ∈ ts->-9223372036854775808<=x.n/\x.n<=9223372036854775807/\x.t.length<=2000:=by
 induction l generalizing k t a p ts with
 | nil =>
  intro x hx;rcases shut_inr h with ⟨rfl,h1⟩|⟨hk,y,us,hp,h1,h2⟩
  ·injection h1 with h1
   subst h1;simp at hx;subst hx;exact⟨by simp,by simp,by simp⟩
  ·injection h1 with h1
   subst h1 h2;simp at hx;rcases hx with rfl|rfl
   ·have:=ptok_good hp
    simp only[List.length_nil] at hl;exact⟨this.1,this.2.1,by omega⟩
   ·exact⟨by simp,by simp,by simp⟩
 | cons c r ih =>
  simp only[List.length_cons] at hl;cases ht:tks k t c.toNat
  ·rw[lexL_no ht] at h;rcases shut_inr h with ⟨rfl,h1⟩|⟨hk,y,us,hp,h1,h2⟩
   ·exact ih _ _ _ _ _ h1 (by simp;omega)
   ·subst h2;intro x hx;rcases List.mem_cons.1 hx with rfl|hx
    ·have:=ptok_good hp
     exact⟨this.1,this.2.1,by omega⟩
    ·exact ih _ _ _ _ _ h1 (by simp;omega) x hx
  ·rw[lexL_yes ht] at h;exact ih _ _ _ _ _ h (by simp;omega)
theorem Fs.len_size:∀ (x:Fs),x.len<=x.size
 | ⟨none⟩=>Nat.le_refl _
 | ⟨some ⟨k,n,nm,a,ks,r⟩⟩=>by have:=Fs.len_size r;simp only[Fs.len,Fs.size];omega
theorem Fs.gd_all:∀ {x:Fs},x.gd->x.size<=100000000->x.short/\x.rng/\x.plc
 | ⟨none⟩,h,hs=>⟨trivial,trivial,trivial⟩
 | ⟨some ⟨k,n,nm,a,ks,r⟩⟩,h,hs=>by
  simp only[Fs.size] at hs;obtain⟨h1,h2,h3,h4,h5,h6,h7⟩:=h;obtain⟨a1,a2,a3⟩:=Fs.gd_all h6 (by omega);obtain⟨b1,b2,b3⟩:=Fs.gd_all h7 (by omega)
  have:=Fs.len_size ks
  exact⟨⟨by unfold maxLen;omega,by omega,a1,b1⟩,⟨h1,h2,a2,b2⟩,⟨h4,by omega,a3,b3⟩⟩
theorem parse_gd {s:List UInt8}{x:Ex}{t:List Tk}(h:parseA s=.ok x t):x.gd/\x.sz<=2001:=by
 obtain⟨us,E,h0,h1,h2,h3,h4,h5⟩:=parse_text h;have hs:scanA s=.inr (us++[E]):=by rw[scan_short h0];exact h1
 have hk:=scan_ok hs;have hg:∀ y,y ∈ us++[E]->tkG y:=fun y hy=>by
  have a1:=tok_good _ _ _ _ _ _ h1 (by simpa using h0) y hy;have a2:=hk.2.2.2.2.2 y hy;exact⟨a1.1,a1.2.1,a1.2.2,by omega⟩
 obtain⟨_,g1,g2⟩:=gb_part hg 30000 1 0 0 _ (List.suffix_refl _) x [E] h5;refine⟨g1,?_⟩
 have:=hk.2.2.1
 omega
structure Ex.okT (x:Ex):Prop where
 fit:x.fit
 a0:0<=x.a
 a1:x.a<=2000
 plc:x.kids.plc
 size:x.kids.size<=2000
theorem parse_okT {s:List UInt8}{x:Ex}{t:List Tk}(h:parseA s=.ok x t):x.okT:=by
 obtain⟨g,hs⟩:=parse_gd h;have hs:x.kids.size+1<=2001:=hs;obtain⟨h1,h2,h3,h4,h5,h6,_⟩:=g;obtain⟨a1,a2,a3⟩:=Fs.gd_all h6 (by omega)
 have:=Fs.len_size x.kids
 exact⟨⟨by unfold maxLen;omega,a1,by omega,h1,h2,a2⟩,h4,h5,a3,by omega⟩
structure Wo where
 op:Nat
 a:Nat
 b:Nat
structure Em where
 ws:List Wo
 cs:List Int
 ns:List (List UInt8)
 ks:List Int
 dp:Nat
def Em.lay (s:Em)(op a b:Nat):Em:=⟨s.ws++[⟨op,a,b⟩],s.cs,s.ns,s.ks,s.dp⟩
def Em.push (s:Em)(op a b u:Nat):Em:=⟨s.ws++[⟨op,a,b⟩],s.cs,s.ns,s.ks,max s.dp (u+1)⟩
def Em.kc (s:Em)(n:Int):Em:=⟨s.ws,if n ∈ s.cs then s.cs else s.cs++[n],s.ns,s.ks,s.dp⟩
def Em.kn (s:Em)(x:List UInt8):Em:=⟨s.ws,s.cs,if x ∈ s.ns then s.ns else s.ns++[x],s.ks,s.dp⟩
def Em.con (s:Em)(n:Int)(kd u:Nat):Em:=(s.kc n).push 1 (s.cs.idxOf n) kd u
def Wo.to (x:Wo)(n:Nat):Wo:=if x.op=17 then ⟨x.op,x.a,n⟩ else ⟨x.op,n,x.b⟩
def Em.land (s:Em)(i:Nat):Em:=⟨s.ws.modify i (fun x=>x.to s.ws.length),s.cs,s.ns,s.ks,s.dp⟩
def Em.cel (s:Em)(i:Nat)(k:Int):Em:=⟨s.ws,s.cs,s.ns,s.ks.set i k,s.dp⟩
def Em.fork (s:Em)(op:Nat)(f g:Em->Em):Em:=(g (((f (s.lay op 0 0)).lay 13 0 0).land s.ws.length)).land (f (s.lay op 0 0)).ws.length
def cakN (n:Int):Int:=if n=1\/n=2 then 2 else if n=10 then 3 else 1
def qukN (n:Int):Int:=if n=1\/n=2 then 2 else 1
def kdN (k n:Int)(ks:List Int):Int :=
 if k=1\/k=6\/(8<=k/\k<=12) then 1 else if k=3\/k=5 then 3 else if k=19 then ks.getD 1 0 else if k=26 then ks.getD 0 0 else if k=20 then cakN n else if k=21 then qukN n else 2
def kdF:Fs->List Int
 | ⟨none⟩=>[]
 | ⟨some ⟨k,n,_,_,ks,r⟩⟩=>kdN k n (kdF ks)::kdF r
def kdE (e:Ex):Int:=kdN e.k e.n (kdF e.kids)
abbrev Tr:=Nat->Nat->Em->Em
def seqT:List Tr->Nat->Nat->Nat->Em->Em
 | [],_,_,_,s=>s
 | t::r,i,ar,u,s=>seqT r (i+1) ar u (t ar (u+i) s)
def barN (k:Int):Nat:=if k=6 then 4 else if k=7 then 5 else if k=8 then 6 else if k=9 then 7 else if k=10 then 8 else if k=11 then 9 else if k=12 then 10 else if k=22 then 20 else 22
def opr (k n:Int)(nm:List UInt8)(kk:List Int)(s:Em):Em :=
 if k=13 then s.lay 11 0 (kk.getD 0 0).toNat else if k=14 then (s.lay 11 0 (kk.getD 0 0).toNat).lay 5 0 0 else if k=15 then s.lay 12 0 0 else if k=16 then s.lay 12 0 1
 else if k=20 then s.lay 16 n.toNat 0 else if k=23 then (s.kn nm).lay 21 (s.ns.idxOf nm) 0 else if k=25 then s.lay 23 kk.length 0 else s.lay (barN k) 0 0
def clrs (h:Nat):List Int->Nat->Em->Em
 | [],_,s=>s
 | l::r,i,s=>clrs h r (i+1) (if l=(h:Int) then s.lay 19 i 0 else s)
def bdy (lv:List Int)(t:Tr):Tr:=fun ar u s=>t (ar+1) u (clrs (ar+1) lv 0 s)
def srch (lv:List Int)(t:Tr)(op:Nat)(v:Int):Tr:=fun ar u s =>
 s.fork 24 (fun x=>(((bdy lv t ar u x).lay op s.ws.length 0).lay 25 0 0).con v 2 u) (fun x=>x.con (1-v) 2 u)
def gath (lv:List Int)(t:Tr)(f:Nat->Em->Em):Tr:=fun ar u s =>
 ((f s.ws.length (bdy lv t ar u (s.lay 24 0 0))).lay 13 s.ws.length 0).land s.ws.length
def qua (lv:List Int)(n:Int)(a t:Tr):Tr:=fun ar u s =>
 if n=1 then srch lv t 15 0 ar u (a ar u s) else if n=2 then srch lv t 14 1 ar u (a ar u s)
 else if n=3 then gath lv t (fun g x=>((x.lay 14 g 0).con 1 1 (u+1)).lay 6 0 0) ar (u+1) ((a ar u s).con 0 1 u)
 else if n=4 then gath lv t (fun _ x=>x.lay 6 0 0) ar (u+1) ((a ar u s).con 0 1 u)
 else (gath lv t (fun _ x=>x.lay 26 (n-5).toNat 0) ar (u+2) (((a ar u s).con 0 1 u).con 0 2 (u+1))).lay 27 0 0
abbrev noT:Tr:=fun _ _ s=>s
def prt (lv:List Int)(k n:Int)(nm:List UInt8)(kk:List Int)(T:List Tr):Tr:=fun ar u s =>
 if k=1 then s.con n 1 u else if k=2 then s.con n 2 u else if k=3 then (s.kc n).push 2 (s.cs.idxOf n) 0 u else if k=5 then s.push 3 n.toNat 0 u
 else if k=17 then (T.getD 0 noT ar u s).fork 14 (T.getD 1 noT ar u) (fun x=>x.con 0 2 u)
 else if k=18 then (T.getD 0 noT ar u s).fork 15 (T.getD 1 noT ar u) (fun x=>x.con 1 2 u)
 else if k=19 then (T.getD 0 noT ar u s).fork 14 (T.getD 1 noT ar u) (T.getD 2 noT ar u)
 else if k=26 then ((T.getD 0 noT ar u ((s.cel n.toNat (kk.getD 0 0)).lay 17 n.toNat 0)).lay 18 n.toNat 0).land s.ws.length
 else if k=21 then qua lv n (T.getD 0 noT) (T.getD 1 noT) ar u s
 else opr k n nm kk (seqT T 0 ar u s)
def emF (lv:List Int):Fs->List Tr
 | ⟨none⟩=>[]
 | ⟨some ⟨k,n,nm,_,ks,r⟩⟩=>prt lv k n nm (kdF ks) (emF lv ks)::emF lv r
def emE (lv:List Int)(e:Ex):Tr:=prt lv e.k e.n e.nm (kdF e.kids) (emF lv e.kids)
def em0 (lv:List Int):Em:=⟨[],[],[],List.replicate lv.length 1,0⟩
def emA (lv:List Int)(e:Ex):Em:=(emE lv e 0 0 (em0 lv)).lay 0 0 0
def Em.mes (s:Em):Nat:=s.ws.length+s.cs.length+s.ns.length
theorem Em.mes_lay (s:Em)(op a b:Nat):(s.lay op a b).mes=s.mes+1:=by simp[Em.mes,Em.lay];omega
theorem Em.mes_push (s:Em)(op a b u:Nat):(s.push op a b u).mes=s.mes+1:=by simp[Em.mes,Em.push];omega
theorem Em.mes_kc (s:Em)(n:Int):(s.kc n).mes<=s.mes+1:=by simp only[Em.mes,Em.kc];split<;>simp<;>omega
theorem Em.mes_kn (s:Em)(n:List UInt8):(s.kn n).mes<=s.mes+1:=by simp only[Em.mes,Em.kn];split<;>simp<;>omega
theorem Em.mes_con (s:Em)(n:Int)(kd u:Nat):(s.con n kd u).mes<=s.mes+2:=by
 unfold Em.con;rw[Em.mes_push]
 have:=s.mes_kc n
 omega
theorem Em.mes_land (s:Em)(i:Nat):(s.land i).mes=s.mes:=by simp[Em.mes,Em.land]
def okN (nc:Nat)(k n:Int)(nm:List UInt8)(len:Nat):Prop:=docF k n nm len=true/\(k=5->n<=3)/\(k=26->0<=n/\n<(nc:Int))/\(-9223372036854775808<=n/\n<=9223372036854775807)
def okF (nc:Nat):Fs->Prop
 | ⟨none⟩=>True
 | ⟨some ⟨k,n,nm,_,ks,r⟩⟩=>okN nc k n nm ks.len/\okF nc ks/\okF nc r
def okE (nc:Nat)(e:Ex):Prop:=okN nc e.k e.n e.nm e.kids.len/\okF nc e.kids
open Go.ChangeShapes Go.WideShapes Go.ChangeAt Go.RowKit Go.Maps
theorem own_tightE {P:Program}{K:TypeId}{R:Value->Option (DataW Unit × List MemPlace)}{w:World}{b n:Nat}{D:DataW Unit}(h:w.ownsMap P K R b n D):w.ownsMap P K R b (Maps.size D) D:=by
 obtain⟨es,clock,hb,F,hs,rfl⟩:=h;exact⟨es,clock,hb,F,by simp[Maps.size,length_sorted],rfl⟩
theorem own_stepE {P:Program}{K:TypeId}{R:Value->Option (DataW Unit × List MemPlace)}{w w':World}{o o':Nat->Nat}{I:Nat->Prop}{b n:Nat}{D:DataW Unit}(h:w.ownsMap P K R b n D)(s:Step I w o w' o')(hi:¬I (o b)):w'.ownsMap P K R b n D:=by
 have hlt:=h.lt;obtain⟨es,clock,hb,F,hs,hD⟩:=h;exact⟨es,clock,(s.block b hlt hi).trans hb,F,hs,hD⟩
theorem turned_stepE {w w':World}{o:Nat->Nat}{b i:Nat}(h:w.mapTurned w' b)(hb:o b=i):Step (fun k=>k=i) w o w' o :=
 let g:=h.grown
 ⟨g.os,g.tape,g.output,g.size,fun _ _=>rfl,fun k hk hn=>g.block k hk (fun e=>hn (by cases e;exact hb))⟩
def plElem:Value->Option (DataW Unit × List MemPlace)
 | .int .i64 a=>some (.lit (.int .i64 a),[])
 | _=>none
theorem plElem_inv {v:Value}{a:Int}{ps:List MemPlace}(h:plElem v=some (.lit (.int .i64 a),ps)):v=.int .i64 a:=by
 unfold plElem at h;split at h
 ·simp at h;rw[h.1]
 ·cases h
theorem plElem_form {v:Value}{y:DataW Unit × List MemPlace}(h:plElem v=some y):∃a,v=.int .i64 a:=by
 unfold plElem at h;split at h
 ·exact⟨_,rfl⟩
 ·cases h
theorem zeroPl (w:World):(zeroValue 3).run Tryz.prog w=.ok (.int .i64 0) w:=by kernel_rfl
theorem intLawE:Keyed Tryz.prog 3:=int_keyed Tryz.underlying3
theorem strLawE:Keyed Tryz.prog 9:=string_keyed Tryz.underlying9
theorem keyI (k:Int)(h:-9223372036854775808<=k/\k<=9223372036854775807):keyOf Tryz.prog 3 (.int .i64 k)=some (.int .i64 k):=keyOf_int_mk Tryz.underlying3 (WalkArith.wf_i64 (by have:=h.1;have:=h.2;omega))
theorem keyS (x:List UInt8)(h:x.length<=maxLen):keyOf Tryz.prog 9 (stv x)=some (.string x):=by
 have:=WideMaps.keyOf_string_mk (P:=Tryz.prog) Tryz.underlying9 (s:=⟨x.toArray⟩) (by rw[show (⟨x.toArray⟩:ByteArray).size=x.toArray.size from rfl];simpa using h)
 simpa using this
theorem idx_new {α:Type}[BEq α][LawfulBEq α]{l:List α}{x:α}(h:x ∉ l):(l++[x]).idxOf x=l.length:=by
 rw[List.idxOf_append,if_neg h];simp
theorem idx_old {α:Type}[BEq α][LawfulBEq α]{l:List α}{x y:α}(h:y ∈ l):(l++[x]).idxOf y=l.idxOf y:=by
 rw[List.idxOf_append,if_pos h]
theorem idx_none {α:Type}[BEq α][LawfulBEq α]{l:List α}{x:α}(h:x ∉ l):l.idxOf x=l.length:=List.idxOf_eq_length h
def MpC (w:World)(o:Nat->Nat)(i b:Nat)(l:List (Int)):Prop :=
 ∃D:DataW Unit,w.ownsMap Tryz.prog 3 plElem b l.length D/\Maps.size D=l.length/\o b=i /\
  ∀ k:Int,Maps.has D (.int .i64 k)=decide (k ∈ l)/\(k ∈ l->D.atKey (.int .i64 k) (.lit (.int .i64 0))=.lit (.int .i64 (l.idxOf k:Nat)))
theorem MpC.step {I:Nat->Prop}{w w':World}{o o':Nat->Nat}{i b:Nat}{l:List (Int)}(h:MpC w o i b l)(s:Step I w o w' o')(hi:¬I i):MpC w' o' i b l:=by
 obtain⟨D,h1,h2,h3,h4⟩:=h;exact⟨D,own_stepE h1 s (by rw[h3];exact hi),h2,(s.lab b h1.lt).trans h3,h4⟩
theorem MpC.made (w:World)(o:Nat->Nat)(i:Nat):MpC (w.alloc (.map #[] 0)) (newLab w o i) i w.heap.size [] :=
 ⟨.map [],World.ownsMap_made _ _ _ _,rfl,newLab_new (Nat.le_refl _),fun k=>⟨by simp[Maps.has],fun h=>by simp at h⟩⟩
theorem MpC.look {w:World}{o:Nat->Nat}{i b:Nat}{l:List (Int)}(h:MpC w o i b l)(k:Int)(hk:-9223372036854775808<=k/\k<=9223372036854775807)(hm:k ∈ l) :
  (Instr.lookup 87 (.map (some b)) (.int .i64 k) true).run Tryz.prog w=.ok (.tuple #[.int .i64 (l.idxOf k:Nat),.bool true]) w:=by
 obtain⟨D,h1,h2,h3,h4⟩:=h;obtain⟨c,ps,hr,hc⟩:=h1.look_ok intLawE Tryz.underlying87 (zeroPl w) (zd:=.lit (.int .i64 0)) (zp:=[]) rfl (keyI k hk);rw[(h4 k).2 hm] at hc;rw[(h4 k).1,plElem_inv hc,decide_eq_true hm] at hr;exact hr
theorem MpC.miss {w:World}{o:Nat->Nat}{i b:Nat}{l:List (Int)}(h:MpC w o i b l)(k:Int)(hk:-9223372036854775808<=k/\k<=9223372036854775807)(hm:k ∉ l) :
  ∃x:Int,(Instr.lookup 87 (.map (some b)) (.int .i64 k) true).run Tryz.prog w=.ok (.tuple #[.int .i64 x,.bool false]) w:=by
 obtain⟨D,h1,h2,h3,h4⟩:=h;obtain⟨c,ps,hr,hc⟩:=h1.look_ok intLawE Tryz.underlying87 (zeroPl w) (zd:=.lit (.int .i64 0)) (zp:=[]) rfl (keyI k hk);obtain⟨x,rfl⟩:=plElem_form hc;rw[(h4 k).1,decide_eq_false hm] at hr;exact⟨x,hr⟩
theorem MpC.put {w:World}{o:Nat->Nat}{i b:Nat}{l:List (Int)}(h:MpC w o i b l)(k:Int)(hk:-9223372036854775808<=k/\k<=9223372036854775807)(hm:k ∉ l)(hl:l.length<=1000000000) :
  ∃w',(Instr.mapUpdate 87 (.map (some b)) (.int .i64 k) (.int .i64 (l.length:Nat))).run Tryz.prog w=.ok () w'/\MpC w' o i b (l++[k])/\Step (fun k=>k=i) w o w' o:=by
 obtain⟨D,h1,h2,h3,h4⟩:=h;obtain⟨w',hr,ho,ht⟩:=h1.store (val:=.int .i64 (l.length:Nat)) (d:=.lit (.int .i64 (l.length:Nat))) (ps:=[]) intLawE Tryz.underlying87 (by unfold maxLen;omega) (keyI k hk) rfl;have hsz:Maps.size (D.put (.int .i64 k) (.lit (.int .i64 (l.length:Nat))))=l.length+1:=by
  rw[size_put (h1.tidy intLawE),h2,(h4 k).1,decide_eq_false hm];simp
 have ho':=own_tightE ho;rw[hsz] at ho';refine⟨w',hr,⟨_,by rw[List.length_append];exact ho',by rw[hsz,List.length_append];rfl,h3,fun y=>?_⟩,turned_stepE ht h3⟩;by_cases e:y=k
 ·subst e;rw[has_put_same h1.isMap (show WideAt.IsKeyLit (.int .i64 y) from trivial),atKey_put_same h1.isMap (show WideAt.IsKeyLit (.int .i64 y) from trivial),idx_new hm];exact⟨by simp,fun _=>rfl⟩
 ·have hne:Lit.int .i64 y≠Lit.int .i64 k:=fun h=>e (by simpa using h);rw[has_put_other hne,atKey_put_other hne,(h4 y).1];refine⟨by simp[e],fun hy=>?_⟩;have hy2:y ∈ l:=by simpa [e] using hy
  rw[idx_old hy2];exact(h4 y).2 hy2
def MpS (w:World)(o:Nat->Nat)(i b:Nat)(l:List (List UInt8)):Prop :=
 ∃D:DataW Unit,w.ownsMap Tryz.prog 9 plElem b l.length D/\Maps.size D=l.length/\o b=i /\
  ∀ k:List UInt8,Maps.has D (.string k)=decide (k ∈ l)/\(k ∈ l->D.atKey (.string k) (.lit (.int .i64 0))=.lit (.int .i64 (l.idxOf k:Nat)))
theorem MpS.step {I:Nat->Prop}{w w':World}{o o':Nat->Nat}{i b:Nat}{l:List (List UInt8)}(h:MpS w o i b l)(s:Step I w o w' o')(hi:¬I i):MpS w' o' i b l:=by
 obtain⟨D,h1,h2,h3,h4⟩:=h;exact⟨D,own_stepE h1 s (by rw[h3];exact hi),h2,(s.lab b h1.lt).trans h3,h4⟩
theorem MpS.made (w:World)(o:Nat->Nat)(i:Nat):MpS (w.alloc (.map #[] 0)) (newLab w o i) i w.heap.size [] :=
 ⟨.map [],World.ownsMap_made _ _ _ _,rfl,newLab_new (Nat.le_refl _),fun k=>⟨by simp[Maps.has],fun h=>by simp at h⟩⟩
theorem MpS.look {w:World}{o:Nat->Nat}{i b:Nat}{l:List (List UInt8)}(h:MpS w o i b l)(k:List UInt8)(hk:k.length<=maxLen)(hm:k ∈ l) :
  (Instr.lookup 88 (.map (some b)) (stv k) true).run Tryz.prog w=.ok (.tuple #[.int .i64 (l.idxOf k:Nat),.bool true]) w:=by
 obtain⟨D,h1,h2,h3,h4⟩:=h;obtain⟨c,ps,hr,hc⟩:=h1.look_ok strLawE Tryz.underlying88 (zeroPl w) (zd:=.lit (.int .i64 0)) (zp:=[]) rfl (keyS k hk);rw[(h4 k).2 hm] at hc;rw[(h4 k).1,plElem_inv hc,decide_eq_true hm] at hr;exact hr
theorem MpS.miss {w:World}{o:Nat->Nat}{i b:Nat}{l:List (List UInt8)}(h:MpS w o i b l)(k:List UInt8)(hk:k.length<=maxLen)(hm:k ∉ l) :
  ∃x:Int,(Instr.lookup 88 (.map (some b)) (stv k) true).run Tryz.prog w=.ok (.tuple #[.int .i64 x,.bool false]) w:=by
 obtain⟨D,h1,h2,h3,h4⟩:=h;obtain⟨c,ps,hr,hc⟩:=h1.look_ok strLawE Tryz.underlying88 (zeroPl w) (zd:=.lit (.int .i64 0)) (zp:=[]) rfl (keyS k hk);obtain⟨x,rfl⟩:=plElem_form hc;rw[(h4 k).1,decide_eq_false hm] at hr;exact⟨x,hr⟩
theorem MpS.put {w:World}{o:Nat->Nat}{i b:Nat}{l:List (List UInt8)}(h:MpS w o i b l)(k:List UInt8)(hk:k.length<=maxLen)(hm:k ∉ l)(hl:l.length<=1000000000) :
  ∃w',(Instr.mapUpdate 88 (.map (some b)) (stv k) (.int .i64 (l.length:Nat))).run Tryz.prog w=.ok () w'/\MpS w' o i b (l++[k])/\Step (fun k=>k=i) w o w' o:=by
 obtain⟨D,h1,h2,h3,h4⟩:=h;obtain⟨w',hr,ho,ht⟩:=h1.store (val:=.int .i64 (l.length:Nat)) (d:=.lit (.int .i64 (l.length:Nat))) (ps:=[]) strLawE Tryz.underlying88 (by unfold maxLen;omega) (keyS k hk) rfl;have hsz:Maps.size (D.put (.string k) (.lit (.int .i64 (l.length:Nat))))=l.length+1:=by
  rw[size_put (h1.tidy strLawE),h2,(h4 k).1,decide_eq_false hm];simp
 have ho':=own_tightE ho;rw[hsz] at ho';refine⟨w',hr,⟨_,by rw[List.length_append];exact ho',by rw[hsz,List.length_append];rfl,h3,fun y=>?_⟩,turned_stepE ht h3⟩;by_cases e:y=k
 ·subst e;rw[has_put_same h1.isMap (show WideAt.IsKeyLit (.string y) from trivial),atKey_put_same h1.isMap (show WideAt.IsKeyLit (.string y) from trivial),idx_new hm];exact⟨by simp,fun _=>rfl⟩
 ·have hne:Lit.string y≠Lit.string k:=fun h=>e (by simpa using h);rw[has_put_other hne,atKey_put_other hne,(h4 y).1];refine⟨by simp[e],fun hy=>?_⟩;have hy2:y ∈ l:=by simpa [e] using hy
  rw[idx_old hy2];exact(h4 y).2 hy2
open Go.RowKit
theorem wrap64_small (n:Int)(h1:-9223372036854775808<=n)(h2:n<=9223372036854775807):wrap64 n=n:=by
 unfold wrap64;omega
theorem or_join (x y:Int)(h1:0<=x)(h2:x<68719476736)(h3:0<=y)(h4:y<268435456):bits .or .u64 (x*268435456) y=x*268435456+y:=by
 rw[u64_or _ _ (by omega) (by omega) (by omega) (by omega),nat_join 28 _ _ (by omega) (by omega)];omega
theorem word_eq (o a b:Int)(h1:0<=o)(h2:o<=255)(h3:0<=a)(h4:a<=268435455)(h5:0<=b)(h6:b<=268435455) :
  bits .or .u64 (bits .or .u64 (o*72057594037927936) (a*268435456)) b=(o*268435456+a)*268435456+b:=by
 have e:bits .or .u64 (o*72057594037927936) (a*268435456)=(o*268435456+a)*268435456:=by
  rw[u64_or _ _ (by omega) (by omega) (by omega) (by omega),nat_join 56 _ _ (by omega) (by omega)];omega
 rw[e,or_join _ _ (by omega) (by omega) h5 (by omega)]
theorem part0_eq (u:Int)(h1:0<=u)(h2:u<18446744073709551616):wrap64 (bits .and .u64 (u / 72057594037927936) 255)=u / 72057594037927936:=by
 rw[u64_and _ _ (by omega) (by omega) (by omega) (by omega),show (255:Int).toNat=255 from rfl,nat_mask8,wrap64_small _ (by omega) (by omega)];omega
theorem and_mask28 (x:Nat):x &&& 268435455=x % 268435456:=Nat.and_two_pow_sub_one_eq_mod x 28
theorem part1_eq (u:Int)(h1:0<=u)(h2:u<18446744073709551616):wrap64 (bits .and .u64 (u / 268435456) 268435455)=u / 268435456 % 268435456:=by
 rw[u64_and _ _ (by omega) (by omega) (by omega) (by omega),show (268435455:Int).toNat=268435455 from rfl,and_mask28,wrap64_small _ (by omega) (by omega)];omega
theorem part2_eq (u:Int)(h1:0<=u)(h2:u<18446744073709551616):wrap64 (bits .and .u64 u 268435455)=u % 268435456:=by
 rw[u64_and _ _ (by omega) (by omega) (by omega) (by omega),show (268435455:Int).toNat=268435455 from rfl,and_mask28,wrap64_small _ (by omega) (by omega)];omega
theorem gTab : Tryz.prog.globalNamed "isthmus/pack.fields" = some 2 := by kernel_rfl
theorem gTabType:(Tryz.prog.globals[2]?).map (·.type)=some 223:=by kernel_rfl
theorem cellsTab:Tryz.prog.cellsOf 223=6:=by kernel_rfl
theorem cellsField:Tryz.prog.cellsOf 222=2:=by kernel_rfl
theorem cellsUint:Tryz.prog.cellsOf 175=1:=by kernel_rfl
theorem cellsUint64:Tryz.prog.cellsOf 54=1:=by kernel_rfl
def Tab (w:World):Prop :=
 w.cell? ⟨2,0,none⟩=some (.int .u64 56)/\w.cell? ⟨2,1,none⟩=some (.int .u64 255)/\w.cell? ⟨2,2,none⟩=some (.int .u64 28) /\
 w.cell? ⟨2,3,none⟩=some (.int .u64 268435455)/\w.cell? ⟨2,4,none⟩=some (.int .u64 0)/\w.cell? ⟨2,5,none⟩=some (.int .u64 268435455)/\2<w.heap.size
theorem Tab.below {w w':World}(h:Tab w)(hb:Below w.heap.size w w'):Tab w':=by
 obtain⟨h0,h1,h2,h3,h4,h5,hs⟩:=h;refine⟨?_,?_,?_,?_,?_,?_,Nat.lt_of_lt_of_le hs hb.size⟩
 ·exact(hb.cell (p:=⟨2,0,none⟩) hs).trans h0
 ·exact(hb.cell (p:=⟨2,1,none⟩) hs).trans h1
 ·exact(hb.cell (p:=⟨2,2,none⟩) hs).trans h2
 ·exact(hb.cell (p:=⟨2,3,none⟩) hs).trans h3
 ·exact(hb.cell (p:=⟨2,4,none⟩) hs).trans h4
 ·exact(hb.cell (p:=⟨2,5,none⟩) hs).trans h5
theorem below_drewN (w:World)(n:Nat):Below w.heap.size w (w.drewN n):=by
 have key:∀ (n:Nat) (v:World),Below w.heap.size w v->Below w.heap.size w (v.drewN n):=by
  intro n
  induction n with
  | zero=>intro v h;exact h
  | succ n ih=>intro v h;exact(ih v h).drew
 exact key n w (Below.refl _ _)
theorem bjoin {a b c:World}(h:Below a.heap.size a b)(k:Below b.heap.size b c):Below a.heap.size a c:=h.trans (k.mono h.size)
theorem fits_yes0 (n:Int)(w:World)(hT:Tab w)(h1:0<=n)(h2:n<=255) :
  Calls Tryz.prog 134 #[.int .i64 0,.int .i64 n] w fun e w'=>e=.returned (.bool true)/\w'=w:=by
 have hc:=hT.2.1;go_enter Tryz.func134,Tryz.ntmps134;go_wp2;go_ret;exact⟨ret_bool (by simp;try omega),rfl⟩
theorem fits_yes1 (n:Int)(w:World)(hT:Tab w)(h1:0<=n)(h2:n<=268435455) :
  Calls Tryz.prog 134 #[.int .i64 1,.int .i64 n] w fun e w'=>e=.returned (.bool true)/\w'=w:=by
 have hc:=hT.2.2.2.1;go_enter Tryz.func134,Tryz.ntmps134;go_wp2;go_ret;exact⟨ret_bool (by simp;try omega),rfl⟩
theorem fits_yes2 (n:Int)(w:World)(hT:Tab w)(h1:0<=n)(h2:n<=268435455) :
  Calls Tryz.prog 134 #[.int .i64 2,.int .i64 n] w fun e w'=>e=.returned (.bool true)/\w'=w:=by
 have hc:=hT.2.2.2.2.2.1;go_enter Tryz.func134,Tryz.ntmps134;go_wp2;go_ret;exact⟨ret_bool (by simp;try omega),rfl⟩
theorem lay0 (n:Int)(w:World)(hT:Tab w)(h1:0<=n)(h2:n<=255) :
  Calls Tryz.prog 135 #[.int .i64 0,.int .i64 n] w fun e w'=>e=.returned (.int .u64 (n*72057594037927936))/\w'=w:=by
 have hc:=hT.1;go_enter Tryz.func135,Tryz.ntmps135;go_wp2;go_ret;exact⟨rfl,rfl⟩
theorem lay1 (n:Int)(w:World)(hT:Tab w)(h1:0<=n)(h2:n<=268435455) :
  Calls Tryz.prog 135 #[.int .i64 1,.int .i64 n] w fun e w'=>e=.returned (.int .u64 (n*268435456))/\w'=w:=by
 have hc:=hT.2.2.1;go_enter Tryz.func135,Tryz.ntmps135;go_wp2;go_ret;exact⟨rfl,rfl⟩
theorem lay2 (n:Int)(w:World)(hT:Tab w)(h1:0<=n)(h2:n<=268435455) :
  Calls Tryz.prog 135 #[.int .i64 2,.int .i64 n] w fun e w'=>e=.returned (.int .u64 n)/\w'=w:=by
 have hc:=hT.2.2.2.2.1;go_enter Tryz.func135,Tryz.ntmps135;go_wp2;go_ret;exact⟨ret_int (by simp),rfl⟩
theorem part0 (u:Int)(w:World)(hT:Tab w)(h1:0<=u)(h2:u<18446744073709551616) :
  Calls Tryz.prog 196 #[.int .i64 0,.int .u64 u] w fun e w'=>e=.returned (.int .i64 (u / 72057594037927936))/\Below w.heap.size w w':=by
 have hc:=hT.1;have hd:=hT.2.1;go_enter Tryz.func196,Tryz.ntmps196;go_wp2
 go_quiet (fail)
 go_wp2;go_ret;exact⟨ret_int (part0_eq u h1 h2),below_drewN _ _⟩
theorem part1 (u:Int)(w:World)(hT:Tab w)(h1:0<=u)(h2:u<18446744073709551616) :
  Calls Tryz.prog 196 #[.int .i64 1,.int .u64 u] w fun e w'=>e=.returned (.int .i64 (u / 268435456 % 268435456))/\Below w.heap.size w w':=by
 have hc:=hT.2.2.1;have hd:=hT.2.2.2.1;go_enter Tryz.func196,Tryz.ntmps196;go_wp2
 go_quiet (fail)
 go_wp2;go_ret;exact⟨ret_int (part1_eq u h1 h2),below_drewN _ _⟩
theorem part2 (u:Int)(w:World)(hT:Tab w)(h1:0<=u)(h2:u<18446744073709551616) :
  Calls Tryz.prog 196 #[.int .i64 2,.int .u64 u] w fun e w'=>e=.returned (.int .i64 (u % 268435456))/\Below w.heap.size w w':=by
 have hc:=hT.2.2.2.2.1;have hd:=hT.2.2.2.2.2.1;go_enter Tryz.func196,Tryz.ntmps196;go_wp2
 go_quiet (fail)
 go_wp2;go_ret;exact⟨ret_int (by simpa using part2_eq u h1 h2),below_drewN _ _⟩
theorem ret_two {k l:IntKind}{a b c:Int}(h:a=b):Ending.returned (.tuple #[.int k a,.int l c])=.returned (.tuple #[.int k b,.int l c]):=by rw[h]
theorem word_yes (o a b:Int)(w:World)(hT:Tab w)(h1:0<=o)(h2:o<=255)(h3:0<=a)(h4:a<=268435455)(h5:0<=b)(h6:b<=268435455) :
  Calls Tryz.prog 86 #[.int .i64 o,.int .i64 a,.int .i64 b] w fun e w' =>
   e=.returned (.tuple #[.int .u64 ((o*268435456+a)*268435456+b),.int .i64 0])/\w'=w:=by
 go_enter Tryz.func86,Tryz.ntmps86;go_wp2_with fail;refine(fits_yes0 o w hT h1 h2).mono ?_;rintro e w1 ⟨rfl,rfl⟩;go_wp2_with fail;refine(fits_yes1 a _ hT h3 h4).mono ?_;rintro e w1 ⟨rfl,rfl⟩;go_wp2_with fail;refine(fits_yes2 b _ hT h5 h6).mono ?_;rintro e w1 ⟨rfl,rfl⟩;go_wp2_with fail;refine(lay0 o _ hT h1 h2).mono ?_;rintro e w1 ⟨rfl,rfl⟩;go_wp2_with fail;refine(lay1 a _ hT h3 h4).mono ?_;rintro e w1 ⟨rfl,rfl⟩;go_wp2_with fail;refine(lay2 b _ hT h5 h6).mono ?_;rintro e w1 ⟨rfl,rfl⟩;go_wp2;go_ret2;exact⟨ret_two (word_eq o a b h1 h2 h3 h4 h5 h6),rfl⟩
theorem parts_any (u:Int)(w:World)(hT:Tab w)(h1:0<=u)(h2:u<18446744073709551616) :
  Calls Tryz.prog 146 #[.int .u64 u] w fun e w' =>
   e=.returned (.tuple #[.int .i64 (u / 72057594037927936),.int .i64 (u / 268435456 % 268435456),.int .i64 (u % 268435456)])/\Below w.heap.size w w':=by
 go_enter Tryz.func146,Tryz.ntmps146;go_wp2_with fail;refine(part0 u w hT h1 h2).mono ?_;rintro e w1 ⟨rfl,hb1⟩;have hT1:=hT.below hb1;go_wp2_with fail;refine(part1 u w1 hT1 h1 h2).mono ?_;rintro e w2 ⟨rfl,hb2⟩;have hT2:=hT1.below hb2;go_wp2_with fail;refine(part2 u w2 hT2 h1 h2).mono ?_;rintro e w3 ⟨rfl,hb3⟩;go_wp2;go_ret3;exact⟨rfl,bjoin (bjoin hb1 hb2) hb3⟩
abbrev I17:Nat->Prop:=fun k=>1<=k/\k<=7
theorem I17_of {i:Nat}(h:1<=i/\i<=7):∀ k,k=i->I17 k:=fun k hk=>by subst hk;exact h
def encW (x:Wo):Int:=((x.op:Int)*268435456+(x.a:Int))*268435456+(x.b:Int)
def Wo.ok (x:Wo):Prop:=x.op<=255/\x.a<=268435455/\x.b<=268435455
theorem encW_bd {x:Wo}(h:x.ok):0<=encW x/\encW x<18446744073709551616:=by
 obtain⟨h1,h2,h3⟩:=h;unfold encW;omega
theorem encW_parts {x:Wo}(h:x.ok):encW x / 72057594037927936=(x.op:Int)/\encW x / 268435456 % 268435456=(x.a:Int)/\encW x % 268435456=(x.b:Int):=by
 obtain⟨h1,h2,h3⟩:=h;unfold encW;omega
def woV (l:List Wo):List Value:=l.map fun x=>.int .u64 (encW x)
def eiV (l:List Int):List Value:=l.map (.int .i64 ·)
def esV (l:List (List UInt8)):List Value:=l.map stv
structure EmW (w:World)(o:Nat->Nat)(rb:Nat)(lv:Value)(s:Em):Prop where
 ok:∀ x ∈ s.ws,x.ok
 ci:∀ n ∈ s.cs,-9223372036854775808<=n/\n<=9223372036854775807
 ni:∀ x ∈ s.ns,x.length<=maxLen
 mem:∃vw vc vn vk mc mn,Blk w o 1 rb (.cells #[vw,vc,vn,vk,.map (some mc),.map (some mn),lv,.int .i64 (s.dp:Nat)] 90) /\
  Row w o 2 54 1 vw s.ws.length (woV s.ws)/\Row w o 3 3 1 vc s.cs.length (eiV s.cs)/\Row w o 4 9 1 vn s.ns.length (esV s.ns)/\Row w o 5 3 1 vk s.ks.length (eiV s.ks) /\
  MpC w o 6 mc s.cs/\MpS w o 7 mn s.ns
theorem EmW.step {I:Nat->Prop}{w w':World}{o o':Nat->Nat}{rb:Nat}{lv:Value}{s:Em}(h:EmW w o rb lv s)(x:Step I w o w' o')(hi:∀ k,I17 k->¬I k):EmW w' o' rb lv s:=by
 obtain⟨h1,h2,h3,vw,vc,vn,vk,mc,mn,q0,q1,q2,q3,q4,q5,q6⟩:=h;exact⟨h1,h2,h3,vw,vc,vn,vk,mc,mn,q0.step x (hi 1 (by decide)),q1.step x (hi 2 (by decide)),q2.step x (hi 3 (by decide)),q3.step x (hi 4 (by decide)),q4.step x (hi 5 (by decide)),q5.step x (hi 6 (by decide)),q6.step x (hi 7 (by decide))⟩
theorem EmW.below {w w':World}{o:Nat->Nat}{rb:Nat}{lv:Value}{s:Em}(h:EmW w o rb lv s)(b:Below w.heap.size w w'):EmW w' o rb lv s :=
 h.step (Step.ofBelow (I:=fun _=>False) o b) (fun _ _=>id)
theorem cells8 {w:World}{b:Nat}{x0 x1 x2 x3 x4 x5 x6 x7:Value}{t:TypeId}(h:w.heap[b]?=some (.cells #[x0,x1,x2,x3,x4,x5,x6,x7] t)):(w.cell? ⟨b,0,none⟩=some x0/\w.cell? ⟨b,1,none⟩=some x1/\w.cell? ⟨b,2,none⟩=some x2/\w.cell? ⟨b,3,none⟩=some x3/\w.cell? ⟨b,4,none⟩=some x4/\w.cell? ⟨b,5,none⟩=some x5/\w.cell? ⟨b,6,none⟩=some x6/\w.cell? ⟨b,7,none⟩=some x7)/\∀ j,w.frozen? ⟨b,j,none⟩=false:=by
 refine⟨⟨?_,?_,?_,?_,?_,?_,?_,?_⟩,fun j=>?_⟩<;>simp[World.cell?,World.frozen?,h]
structure EmX (w:World)(o:Nat->Nat)(lv:Value)(ls:List Int):Prop where
 tab:Tab w
 tl:o 2=0
 bar:∀ k:Nat,k<25->w.cell? ⟨0,k,none⟩=some (.int .i64 ([0,0,0,0,0,0,4,5,6,7,8,9,10,0,0,0,0,0,0,0,0,0,20,0,22].getD k 0))
 bl:o 0=0/\0<w.heap.size
 lvs:∃ao cap,lv=.slice ao ls.length cap/\(ls=[]\/∃b off,ao=some ⟨b,off,none⟩/\o b=0/\b<w.heap.size/\∀ j x,ls[j]?=some x->w.cell? ⟨b,off+j,none⟩=some (.int .i64 x))
theorem EmX.step {I:Nat->Prop}{w w':World}{o o':Nat->Nat}{lv:Value}{ls:List Int}(h:EmX w o lv ls)(x:Step I w o w' o')(hi:¬I 0):EmX w' o' lv ls:=by
 obtain⟨h1,h2,h3,⟨h4,h5⟩,ao,cap,h6,h7⟩:=h;have hs:2<w.heap.size:=h1.2.2.2.2.2.2;have hb:=x.block 2 hs (by rw[h2];exact hi);have hb2:=x.block 0 h5 (by rw[h4];exact hi);refine⟨?_,(x.lab _ hs).trans h2,fun k hk=>(World.cell?_of_block (a:=⟨0,k,none⟩) hb2).trans (h3 k hk),⟨(x.lab _ h5).trans h4,Nat.lt_of_lt_of_le h5 x.size⟩,ao,cap,h6,?_⟩
 ·obtain⟨e0,e1,e2,e3,e4,e5,e6⟩:=h1;exact⟨(World.cell?_of_block (a:=⟨2,0,none⟩) hb).trans e0,(World.cell?_of_block (a:=⟨2,1,none⟩) hb).trans e1,(World.cell?_of_block (a:=⟨2,2,none⟩) hb).trans e2,(World.cell?_of_block (a:=⟨2,3,none⟩) hb).trans e3,(World.cell?_of_block (a:=⟨2,4,none⟩) hb).trans e4,(World.cell?_of_block (a:=⟨2,5,none⟩) hb).trans e5,Nat.lt_of_lt_of_le e6 x.size⟩
 ·rcases h7 with h7|⟨b,off,e1,e2,e3,e4⟩
  ·exact .inl h7
  ·exact .inr ⟨b,off,e1,(x.lab b e3).trans e2,Nat.lt_of_lt_of_le e3 x.size,fun j y hy=>(World.cell?_of_block (a:=⟨b,off+j,none⟩) (x.block b e3 (by rw[e2];exact hi))).trans (e4 j y hy)⟩
theorem EmX.below {w w':World}{o:Nat->Nat}{lv:Value}{ls:List Int}(h:EmX w o lv ls)(b:Below w.heap.size w w'):EmX w' o lv ls:=h.step (Step.ofBelow (I:=fun _=>False) o b) id
def PosE (w:World)(o:Nat->Nat)(rb:Nat)(lv:Value)(s:Em)(v:Value)(e:Ending)(w':World):Prop:=e=.returned v/\∃o',EmW w' o' rb lv s/\Step I17 w o w' o'
abbrev SnO (w:World)(o:Nat->Nat)(f:Fs)(ao:Option Addr):Prop:=SlN w (fun b=>o b=0) f ao
theorem SlN.stepO {I:Nat->Prop}{w w':World}{o o':Nat->Nat}{f:Fs}{ao:Option Addr}(h:SnO w o f ao)(x:Step I w o w' o')(hi:¬I 0):SnO w' o' f ao :=
 h.mono (fun k hk hl=>x.block k hl (by rw[hk];exact hi)) x.size (fun k hk hl=>(x.lab k hl).trans hk)
end Go.Proofs.YtkhgahljbpmfaaaGreatDoor

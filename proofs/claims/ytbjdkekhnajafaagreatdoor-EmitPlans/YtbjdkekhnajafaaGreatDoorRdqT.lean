import Derived.Test.YtbjdkekhnajafaaGreatDoorLexO
import Derived.Defers
import Derived.Recover
import Derived.Laws.Pointers
set_option maxRecDepth 100000
set_option maxHeartbeats 8000000
namespace Go.Proofs.YtbjdkekhnajafaaGreatDoor
open Go.ChangeShapes Go.WideShapes Go.ChangeAt Go.RowKit
set_option linter.unusedVariables false
theorem lf (s:ByteArray)(at0 e:Nat)(h0:at0<e)(h1:e<=s.size):(s.extract at0 e).data.toList=(s.data.toList.drop at0).take (e-at0)/\(s.extract at0 e).size=e-at0:=by
 refine⟨jD s at0 e,?_⟩;rw[<-bR,jD];exact td _ _ _ h0 (by rw[bR];exact h1)
theorem xX (l:List UInt8)(at0 e:Nat)(h1:e<=l.length)(hin:∀ j (h:j<l.length),at0<=j->j<e->tks 2 [] (l[j]).toNat=true):rx ((l.drop at0).take (e-at0)):=by
 intro c hc;obtain⟨j,hj,rfl⟩:=List.mem_iff_getElem.1 hc;have hj':j<e-at0:=by simp at hj;omega
 rw[List.getElem_take,List.getElem_drop];have hjl:at0+j<l.length:=by omega
 have:=hin (at0+j) hjl (by omega) (by omega)
 simpa [tks,dig] using this
theorem Ax {r:Nat}(h1:blk r=false)(h3:dig r=true):cls r=2:=by
 have h2:ltr r=false:=by
  simp[dig] at h3;simp[ltr,sml];omega
 simp[cls,h1,h2,h3]
theorem ud {r:Nat}(h1:blk r=false)(h2:ltr r=true):cls r=1:=by simp[cls,h1,h2]
theorem um (s:ByteArray)(at0:Nat)(w:World)(hat:at0<s.size)(hs:s.size<=2000)(hb:blk (s[at0]).toNat=false)(hd:dig (s[at0]).toNat=true) :
  Calls Tryz.prog 63 #[.string s,.int .i64 (at0:Nat)] w fun e w'=>cU s.data.toList at0 e/\Below w.heap.size w w':=by
 have HL:Hid (s.data.toList.length=s.size):=bR s;have hb0:(s[at0]'hat).toNat<256:=UInt8.toNat_lt _;have hatI:(at0:Int)<(s.size:Int):=by omega
 have hal:at0<s.data.toList.length:=by rw[HL.out];exact hat
 have HC:Hid (cls (s.data.toList[at0]'hal).toNat=2):=by rw[bL s at0 hat hal];exact Ax hb hd
 go_enter Tryz.func63,Tryz.ntmps63;go_wp2_with (first|(go_at_call 120;refine(fd _ _ hb0).mono ?_;rw[hd];rintro e w1 ⟨rfl,rfl⟩)|(go_at_call 121;refine(Dm s at0 _ hat hs hd).mono ?_;rintro e w1 ⟨e0,rfl,hE,rfl⟩;refine Hid.out ?_));refine Lib.hid ?_;obtain⟨h1,h2,h3,h4⟩:=hE;rw[HL.out] at h2;obtain⟨hx1,hx2⟩:=lf s at0 e0 h1 h2;have hsr:=me s.data.toList 2 at0 e0 (.inr rfl) h1 (by rw[HL.out];exact h2) HC.out h3 h4;have hdg:=xX s.data.toList at0 e0 (by rw[HL.out];exact h2) h3;have HSR:=Lib.hid hsr;have hI1:(at0:Int)<=(e0:Int):=by omega
 have hI2:(e0:Int)<=(s.size:Int):=by omega
 rw[<-hx1] at hdg;have HX:=Lib.hid hx1;have hz1:0<(s.extract at0 e0).size:=by omega
 have hz2:(s.extract at0 e0).size<=2000:=by omega
 clear hsr h3 h4 hx1 hx2;go_wp2_with (go_at_call 122;refine(yC _ _ hz1 hz2 hdg).mono ?_;rintro e w2 ⟨⟨v,b,rfl,ho⟩,rfl⟩;refine Hid.out ?_);refine Lib.hid ?_;rw[HX.out] at ho;clear hdg hz1 hz2;rcases ho with ⟨rfl,hn⟩|⟨rfl,rfl,hn⟩
 ·have HP:Hid (cU s.data.toList at0 (.returned (.tuple #[.agg #[.int .i64 1,.int .i64 v,.string ⟨#[]⟩,.int .i64 (at0:Nat)],.int .i64 (e0:Nat),.int .i64 0]))):=by
   refine .inr ⟨⟨1,v,[],at0⟩,e0,rfl,h1,by rw[HL.out];exact h2,?_⟩;rw[HSR.out];unfold de;rw[if_neg (by omega)];show (match gq _ at0 with | .inl e=>_ | .inr x=>_)=_;rw[hn at0]
  clear hn;go_wp2;refine bodyPost_ret (dr rfl _ _ w.heap.size _ _ _ _ _ _ rfl (heap_alloc_new _ _)) rfl ?_;exact⟨HP.out,b1 _ _⟩
 ·have HP:Hid (cU s.data.toList at0 (.returned (.tuple #[.agg #[.int .i64 0,.int .i64 0,.string ⟨#[]⟩,.int .i64 0],.int .i64 0,.int .i64 111]))):=by
   refine .inl ⟨111,rfl,?_,by omega⟩;rw[HSR.out];unfold de;rw[if_neg (by omega)];show (match gq _ at0 with | .inl e=>_ | .inr x=>_)=_;rw[hn at0]
  clear hn;go_wp2;refine bodyPost_ret (dr rfl _ _ w.heap.size _ _ _ _ _ _ rfl (heap_alloc_new _ _)) rfl ?_;exact⟨HP.out,b1 _ _⟩
theorem qh (s:ByteArray)(at0:Nat)(w:World)(hat:at0<s.size)(hs:s.size<=2000)(hb:blk (s[at0]).toNat=false)(hd:dig (s[at0]).toNat=false)(hsm:sml (s[at0]).toNat=true) :
  Calls Tryz.prog 63 #[.string s,.int .i64 (at0:Nat)] w fun e w'=>cU s.data.toList at0 e/\Below w.heap.size w w':=by
 have HL:Hid (s.data.toList.length=s.size):=bR s;have hb0:(s[at0]'hat).toNat<256:=UInt8.toNat_lt _;have hatI:(at0:Int)<(s.size:Int):=by omega
 have hal:at0<s.data.toList.length:=by rw[HL.out];exact hat
 have hl:ltr (s[at0]'hat).toNat=true:=by simp[ltr,hsm]
 have HC:Hid (cls (s.data.toList[at0]'hal).toNat=1):=by rw[bL s at0 hat hal];exact ud hb hl
 go_enter Tryz.func63,Tryz.ntmps63;go_wp2_with (first|(go_at_call 120;refine(fd _ _ hb0).mono ?_;rw[hd];rintro e w1 ⟨rfl,rfl⟩)|(go_at_call 123;refine(fe _ _ hb0).mono ?_;rw[hsm];rintro e w1 ⟨rfl,rfl⟩)|(go_at_call 121;refine(xc s at0 _ hat hs hd hl).mono ?_;rintro e w1 ⟨e0,rfl,hE,rfl⟩;refine Hid.out ?_));refine Lib.hid ?_;obtain⟨h1,h2,h3,h4⟩:=hE;rw[HL.out] at h2;obtain⟨hx1,hx2⟩:=lf s at0 e0 h1 h2;have hsr:=me s.data.toList 1 at0 e0 (.inl rfl) h1 (by rw[HL.out];exact h2) HC.out h3 h4;have HSR:=Lib.hid hsr;have hI1:(at0:Int)<=(e0:Int):=by omega
 have hI2:(e0:Int)<=(s.size:Int):=by omega
 have HX:=Lib.hid hx1;have hz2:(s.extract at0 e0).size<=maxLen:=by unfold maxLen;omega
 clear hsr h3 h4 hx1 hx2;go_wp2_with (go_at_call 125;refine(sD _ _ hz2).mono ?_;rw[HX.out];rintro e w2 ⟨rfl,hb2⟩;refine Hid.out ?_);refine Lib.hid ?_;obtain⟨k2,B2⟩:=nR hb2;clear hb2;have HY:Hid (∀ x,fs ((s.data.toList.drop at0).take (e0-at0)) at0=.inr x->bN 0 [] at0 at0 (s.data.toList.drop at0)=iU x (bN 0 [] e0 e0 (s.data.toList.drop e0))):=fun x h=>by
  rw[HSR.out];unfold de;rw[if_neg (by omega)];show (match fs _ at0 with | .inl e=>_ | .inr x=>_)=_;rw[h]
 have HN:Hid (∀ e,fs ((s.data.toList.drop at0).take (e0-at0)) at0=.inl e->bN 0 [] at0 at0 (s.data.toList.drop at0)=.inl (e,at0)):=fun x h=>by
  rw[HSR.out];unfold de;rw[if_neg (by omega)];show (match fs _ at0 with | .inl e=>_ | .inr x=>_)=_;rw[h]
 have hbt:(⟨((s.data.toList.drop at0).take (e0-at0)).toArray⟩:ByteArray)=s.extract at0 e0:=(qZ s at0 e0).symm;cases hw:ew ((s.data.toList.drop at0).take (e0-at0))
 ·have hn0:B2=B2:=rfl;have hk2:=Lib.hid k2;go_wp2_with (go_at_call 126;refine(ol _ _ hz2).mono ?_;rw[HX.out];rintro e w3 ⟨rfl,hb3⟩;refine Hid.out ?_);refine Lib.hid ?_;have k3:w3.heap[w.heap.size]?=some (.cells #[.int .i64 0,.int .i64 0,.string ⟨#[]⟩,.int .i64 0] 73 (0,0)):=by
   rw[hb3.block _ (lt_of_block hk2.out)];exact hk2.out
  have B3:=B2.trans (hb3.mono B2.size);clear hb3 k2 hk2 B2 hn0;have c0:w3.cell? ⟨w.heap.size,0,none⟩=some (.int .i64 0):=by rw[cell_of_row _ _ _ _ _ _ k3];rfl
  have c1:w3.cell? ⟨w.heap.size,1,none⟩=some (.int .i64 0):=by rw[cell_of_row _ _ _ _ _ _ k3];rfl
  have c2:w3.cell? ⟨w.heap.size,2,none⟩=some (.string ⟨#[]⟩):=by rw[cell_of_row _ _ _ _ _ _ k3];rfl
  have c3:w3.cell? ⟨w.heap.size,3,none⟩=some (.int .i64 0):=by rw[cell_of_row _ _ _ _ _ _ k3];rfl
  have fz:∀ j,w3.frozen? ⟨w.heap.size,j,none⟩=false:=fun j=>frozen_of_row w3 _ j _ _ k3;have HK2:=Lib.hid k3;clear k3;cases hn:aX ((s.data.toList.drop at0).take (e0-at0))
  ·have HP:Hid (cU s.data.toList at0 (.returned (.tuple #[.agg #[.int .i64 0,.int .i64 0,.string ⟨#[]⟩,.int .i64 0],.int .i64 0,.int .i64 112]))):=by
    refine .inl ⟨112,rfl,HN.out 112 ?_,by omega⟩;unfold fs;rw[hw,hn];rfl
   clear hw hn hbt;go_wp2;refine bodyPost_ret (dr rfl _ _ w.heap.size _ _ _ _ _ _ rfl (pu _ _ _ _ HK2.out)) rfl ?_;exact⟨HP.out,ku _ _ _ _ B3 (by omega)⟩
  ·have HP:Hid (cU s.data.toList at0 (.returned (.tuple #[.agg #[.int .i64 2,.int .i64 0,.string (s.extract at0 e0),.int .i64 (at0:Nat)],.int .i64 (e0:Nat),.int .i64 0]))):=by
    refine .inr ⟨⟨2,0,(s.data.toList.drop at0).take (e0-at0),at0⟩,e0,by simp only[tka,hbt];rfl,h1,by rw[HL.out];exact h2,HY.out _ ?_⟩;unfold fs;rw[hw,hn];rfl
   clear hw hn hbt;go_wp2;refine bodyPost_ret (dr rfl _ _ w.heap.size _ _ _ _ _ _ rfl (pu _ _ _ _ HK2.out)) rfl ?_;exact⟨HP.out,ku _ _ _ _ B3 (by omega)⟩
 ·have HP:Hid (cU s.data.toList at0 (.returned (.tuple #[.agg #[.int .i64 3,.int .i64 0,.string (s.extract at0 e0),.int .i64 (at0:Nat)],.int .i64 (e0:Nat),.int .i64 0]))):=by
   refine .inr ⟨⟨3,0,(s.data.toList.drop at0).take (e0-at0),at0⟩,e0,by simp only[tka,hbt];rfl,h1,by rw[HL.out];exact h2,HY.out _ ?_⟩;unfold fs;rw[hw];rfl
  have c0:w2.cell? ⟨w.heap.size,0,none⟩=some (.int .i64 0):=by rw[cell_of_row _ _ _ _ _ _ k2];rfl
  have c1:w2.cell? ⟨w.heap.size,1,none⟩=some (.int .i64 0):=by rw[cell_of_row _ _ _ _ _ _ k2];rfl
  have c2:w2.cell? ⟨w.heap.size,2,none⟩=some (.string ⟨#[]⟩):=by rw[cell_of_row _ _ _ _ _ _ k2];rfl
  have c3:w2.cell? ⟨w.heap.size,3,none⟩=some (.int .i64 0):=by rw[cell_of_row _ _ _ _ _ _ k2];rfl
  have fz:∀ j,w2.frozen? ⟨w.heap.size,j,none⟩=false:=fun j=>frozen_of_row w2 _ j _ _ k2;have HK2:=Lib.hid k2;clear k2;clear hw hbt;go_wp2;refine bodyPost_ret (dr rfl _ _ w.heap.size _ _ _ _ _ _ rfl (pu _ _ _ _ HK2.out)) rfl ?_;exact⟨HP.out,ku _ _ _ _ B2 (by omega)⟩
theorem qB (s:ByteArray)(at0:Nat)(w:World)(hat:at0<s.size)(hs:s.size<=2000)(hb:blk (s[at0]).toNat=false)(hd:dig (s[at0]).toNat=false)(hsm:sml (s[at0]).toNat=false)(hgr:grt (s[at0]).toNat=true) :
  Calls Tryz.prog 63 #[.string s,.int .i64 (at0:Nat)] w fun e w'=>cU s.data.toList at0 e/\Below w.heap.size w w':=by
 have HL:Hid (s.data.toList.length=s.size):=bR s;have hb0:(s[at0]'hat).toNat<256:=UInt8.toNat_lt _;have hatI:(at0:Int)<(s.size:Int):=by omega
 have hal:at0<s.data.toList.length:=by rw[HL.out];exact hat
 have hl:ltr (s[at0]'hat).toNat=true:=by rw[jo,hsm,hgr];rfl
 have HC:Hid (cls (s.data.toList[at0]'hal).toNat=1):=by rw[bL s at0 hat hal];exact ud hb hl
 go_enter Tryz.func63,Tryz.ntmps63;go_wp2_with (first|(go_at_call 120;refine(fd _ _ hb0).mono ?_;rw[hd];rintro e w1 ⟨rfl,rfl⟩)|(go_at_call 123;refine(fe _ _ hb0).mono ?_;rw[hsm];rintro e w1 ⟨rfl,rfl⟩)|(go_at_call 124;refine(nr _ _ hb0).mono ?_;rw[hgr];rintro e w1 ⟨rfl,rfl⟩)|(go_at_call 121;refine(xc s at0 _ hat hs hd hl).mono ?_;rintro e w1 ⟨e0,rfl,hE,rfl⟩;refine Hid.out ?_));refine Lib.hid ?_;obtain⟨h1,h2,h3,h4⟩:=hE;rw[HL.out] at h2;obtain⟨hx1,hx2⟩:=lf s at0 e0 h1 h2;have hsr:=me s.data.toList 1 at0 e0 (.inl rfl) h1 (by rw[HL.out];exact h2) HC.out h3 h4;have HSR:=Lib.hid hsr;have hI1:(at0:Int)<=(e0:Int):=by omega
 have hI2:(e0:Int)<=(s.size:Int):=by omega
 have HX:=Lib.hid hx1;have hz2:(s.extract at0 e0).size<=maxLen:=by unfold maxLen;omega
 clear hsr h3 h4 hx1 hx2;go_wp2_with (go_at_call 125;refine(sD _ _ hz2).mono ?_;rw[HX.out];rintro e w2 ⟨rfl,hb2⟩;refine Hid.out ?_);refine Lib.hid ?_;obtain⟨k2,B2⟩:=nR hb2;clear hb2;have HY:Hid (∀ x,fs ((s.data.toList.drop at0).take (e0-at0)) at0=.inr x->bN 0 [] at0 at0 (s.data.toList.drop at0)=iU x (bN 0 [] e0 e0 (s.data.toList.drop e0))):=fun x h=>by
  rw[HSR.out];unfold de;rw[if_neg (by omega)];show (match fs _ at0 with | .inl e=>_ | .inr x=>_)=_;rw[h]
 have HN:Hid (∀ e,fs ((s.data.toList.drop at0).take (e0-at0)) at0=.inl e->bN 0 [] at0 at0 (s.data.toList.drop at0)=.inl (e,at0)):=fun x h=>by
  rw[HSR.out];unfold de;rw[if_neg (by omega)];show (match fs _ at0 with | .inl e=>_ | .inr x=>_)=_;rw[h]
 have hbt:(⟨((s.data.toList.drop at0).take (e0-at0)).toArray⟩:ByteArray)=s.extract at0 e0:=(qZ s at0 e0).symm;cases hw:ew ((s.data.toList.drop at0).take (e0-at0))
 ·have hn0:B2=B2:=rfl;have hk2:=Lib.hid k2;go_wp2_with (go_at_call 126;refine(ol _ _ hz2).mono ?_;rw[HX.out];rintro e w3 ⟨rfl,hb3⟩;refine Hid.out ?_);refine Lib.hid ?_;have k3:w3.heap[w.heap.size]?=some (.cells #[.int .i64 0,.int .i64 0,.string ⟨#[]⟩,.int .i64 0] 73 (0,0)):=by
   rw[hb3.block _ (lt_of_block hk2.out)];exact hk2.out
  have B3:=B2.trans (hb3.mono B2.size);clear hb3 k2 hk2 B2 hn0;have c0:w3.cell? ⟨w.heap.size,0,none⟩=some (.int .i64 0):=by rw[cell_of_row _ _ _ _ _ _ k3];rfl
  have c1:w3.cell? ⟨w.heap.size,1,none⟩=some (.int .i64 0):=by rw[cell_of_row _ _ _ _ _ _ k3];rfl
  have c2:w3.cell? ⟨w.heap.size,2,none⟩=some (.string ⟨#[]⟩):=by rw[cell_of_row _ _ _ _ _ _ k3];rfl
  have c3:w3.cell? ⟨w.heap.size,3,none⟩=some (.int .i64 0):=by rw[cell_of_row _ _ _ _ _ _ k3];rfl
  have fz:∀ j,w3.frozen? ⟨w.heap.size,j,none⟩=false:=fun j=>frozen_of_row w3 _ j _ _ k3;have HK2:=Lib.hid k3;clear k3;cases hn:aX ((s.data.toList.drop at0).take (e0-at0))
  ·have HP:Hid (cU s.data.toList at0 (.returned (.tuple #[.agg #[.int .i64 0,.int .i64 0,.string ⟨#[]⟩,.int .i64 0],.int .i64 0,.int .i64 112]))):=by
    refine .inl ⟨112,rfl,HN.out 112 ?_,by omega⟩;unfold fs;rw[hw,hn];rfl
   clear hw hn hbt;go_wp2;refine bodyPost_ret (dr rfl _ _ w.heap.size _ _ _ _ _ _ rfl (pu _ _ _ _ HK2.out)) rfl ?_;exact⟨HP.out,ku _ _ _ _ B3 (by omega)⟩
  ·have HP:Hid (cU s.data.toList at0 (.returned (.tuple #[.agg #[.int .i64 2,.int .i64 0,.string (s.extract at0 e0),.int .i64 (at0:Nat)],.int .i64 (e0:Nat),.int .i64 0]))):=by
    refine .inr ⟨⟨2,0,(s.data.toList.drop at0).take (e0-at0),at0⟩,e0,by simp only[tka,hbt];rfl,h1,by rw[HL.out];exact h2,HY.out _ ?_⟩;unfold fs;rw[hw,hn];rfl
   clear hw hn hbt;go_wp2;refine bodyPost_ret (dr rfl _ _ w.heap.size _ _ _ _ _ _ rfl (pu _ _ _ _ HK2.out)) rfl ?_;exact⟨HP.out,ku _ _ _ _ B3 (by omega)⟩
 ·have HP:Hid (cU s.data.toList at0 (.returned (.tuple #[.agg #[.int .i64 3,.int .i64 0,.string (s.extract at0 e0),.int .i64 (at0:Nat)],.int .i64 (e0:Nat),.int .i64 0]))):=by
   refine .inr ⟨⟨3,0,(s.data.toList.drop at0).take (e0-at0),at0⟩,e0,by simp only[tka,hbt];rfl,h1,by rw[HL.out];exact h2,HY.out _ ?_⟩;unfold fs;rw[hw];rfl
  have c0:w2.cell? ⟨w.heap.size,0,none⟩=some (.int .i64 0):=by rw[cell_of_row _ _ _ _ _ _ k2];rfl
  have c1:w2.cell? ⟨w.heap.size,1,none⟩=some (.int .i64 0):=by rw[cell_of_row _ _ _ _ _ _ k2];rfl
  have c2:w2.cell? ⟨w.heap.size,2,none⟩=some (.string ⟨#[]⟩):=by rw[cell_of_row _ _ _ _ _ _ k2];rfl
  have c3:w2.cell? ⟨w.heap.size,3,none⟩=some (.int .i64 0):=by rw[cell_of_row _ _ _ _ _ _ k2];rfl
  have fz:∀ j,w2.frozen? ⟨w.heap.size,j,none⟩=false:=fun j=>frozen_of_row w2 _ j _ _ k2;have HK2:=Lib.hid k2;clear k2;clear hw hbt;go_wp2;refine bodyPost_ret (dr rfl _ _ w.heap.size _ _ _ _ _ _ rfl (pu _ _ _ _ HK2.out)) rfl ?_;exact⟨HP.out,ku _ _ _ _ B2 (by omega)⟩
theorem rY (s:ByteArray)(at0:Nat)(w:World)(hat:at0<s.size)(hs:s.size<=2000)(hb:blk (s[at0]).toNat=false)(hd:dig (s[at0]).toNat=false)(hsm:sml (s[at0]).toNat=false)(hgr:grt (s[at0]).toNat=false) :
  Calls Tryz.prog 63 #[.string s,.int .i64 (at0:Nat)] w fun e w'=>cU s.data.toList at0 e/\Below w.heap.size w w':=by
 have HL:Hid (s.data.toList.length=s.size):=bR s;have hb0:(s[at0]'hat).toNat<256:=UInt8.toNat_lt _;have hatI:(at0:Int)<(s.size:Int):=by omega
 have hatL:(at0:Int)<=(s.size:Int):=by omega
 have hal:at0<s.data.toList.length:=by rw[HL.out];exact hat
 have hl:ltr (s[at0]'hat).toNat=false:=by rw[jo,hsm,hgr];rfl
 have hda:=jx s.data.toList at0 hal;rw[bL s at0 hat hal] at hda;have hsr:=vF (s[at0]'hat) (s.data.toList.drop (at0+1)) at0 hb hl hd;rw[<-hda] at hsr;obtain⟨hx1,hx2⟩:=lf s at0 s.size hat (Nat.le_refl _);rw[List.take_of_length_le (by rw[List.length_drop,HL.out];exact Nat.le_refl _)] at hx1;have HSR:=Lib.hid hsr;have HX:=Lib.hid hx1;have hz1:0<(s.extract at0 s.size).size:=by omega
 have hz2:(s.extract at0 s.size).size<=2000:=by omega
 clear hda hsr hx1 hx2 hl;go_enter Tryz.func63,Tryz.ntmps63;go_wp2_with (first|(go_at_call 120;refine(fd _ _ hb0).mono ?_;rw[hd];rintro e w1 ⟨rfl,rfl⟩)|(go_at_call 123;refine(fe _ _ hb0).mono ?_;rw[hsm];rintro e w1 ⟨rfl,rfl⟩)|(go_at_call 124;refine(nr _ _ hb0).mono ?_;rw[hgr];rintro e w1 ⟨rfl,rfl⟩)|(go_at_call 127;refine(CW _ _ hz1 hz2).mono ?_;rw[HX.out];rintro e w2 ⟨rfl,hb2⟩;refine Hid.out ?_));refine Lib.hid ?_;obtain⟨k2,B2⟩:=nR hb2;clear hb2 hz1 hz2;have c0:w2.cell? ⟨w.heap.size,0,none⟩=some (.int .i64 0):=by rw[cell_of_row _ _ _ _ _ _ k2];rfl
 have c1:w2.cell? ⟨w.heap.size,1,none⟩=some (.int .i64 0):=by rw[cell_of_row _ _ _ _ _ _ k2];rfl
 have c2:w2.cell? ⟨w.heap.size,2,none⟩=some (.string ⟨#[]⟩):=by rw[cell_of_row _ _ _ _ _ _ k2];rfl
 have c3:w2.cell? ⟨w.heap.size,3,none⟩=some (.int .i64 0):=by rw[cell_of_row _ _ _ _ _ _ k2];rfl
 have fz:∀ j,w2.frozen? ⟨w.heap.size,j,none⟩=false:=fun j=>frozen_of_row w2 _ j _ _ k2;have HK2:=Lib.hid k2;clear k2;obtain⟨U,hU⟩:∃U:ByteArray,U=⟨(eU (s.data.toList.drop at0)).toArray⟩:=⟨_,rfl⟩
 have hUs:U.size=(eU (s.data.toList.drop at0)).length:=by rw[hU,Bg]
 rw[<-hU];rcases HSR.out with ⟨h1,h2⟩|⟨h1,h2,h3⟩
 ·have hU0:U=⟨#[]⟩:=by rw[hU,h1]
  have HP:Hid (cU s.data.toList at0 (.returned (.tuple #[.agg #[.int .i64 0,.int .i64 0,.string ⟨#[]⟩,.int .i64 0],.int .i64 0,.int .i64 110]))):=.inl ⟨110,rfl,h2,by omega⟩;clear hU hUs h1 h2;subst hU0;go_wp2;refine bodyPost_ret (dr rfl _ _ w.heap.size _ _ _ _ _ _ rfl (pu _ _ _ _ HK2.out)) rfl ?_;exact⟨HP.out,ku _ _ _ _ B2 (by omega)⟩
 ·have hln:0<(eU (s.data.toList.drop at0)).length:=List.length_pos_iff.2 h1;have hdl:(s.data.toList.drop at0).length=s.size-at0:=by rw[List.length_drop,HL.out]
  have h4:at0+U.size<=s.size:=by omega
  have hne:U.toList.isEmpty=false:=lj (by omega);have HP:Hid (cU s.data.toList at0 (.returned (.tuple #[.agg #[.int .i64 4,.int .i64 0,.string U,.int .i64 (at0:Nat)],.int .i64 ((at0:Int)+(U.size:Int)),.int .i64 0]))):=by
   refine .inr ⟨⟨4,0,eU (s.data.toList.drop at0),at0⟩,at0+U.size,?_,by omega,by rw[HL.out];exact h4,?_⟩
   ·simp only[tka,<-hU,Int.natCast_add];rfl
   ·rw[h3,<-hUs,List.drop_drop]
  have h4I:(at0:Int)+(U.size:Int)<=2000:=by omega
  clear hU hUs h1 h2 h3 hln hdl;go_wp2;refine bodyPost_ret (dr rfl _ _ w.heap.size _ _ _ _ _ _ rfl (pu _ _ _ _ HK2.out)) rfl ?_;exact⟨HP.out,ku _ _ _ _ B2 (by omega)⟩
theorem Bu (s:ByteArray)(at0:Nat)(w:World)(hat:at0<s.size)(hs:s.size<=2000)(hb:blk (s[at0]).toNat=false) :
  Calls Tryz.prog 63 #[.string s,.int .i64 (at0:Nat)] w fun e w'=>cU s.data.toList at0 e/\Below w.heap.size w w':=by
 cases hd:dig (s[at0]'hat).toNat
 ·cases hsm:sml (s[at0]'hat).toNat
  ·cases hgr:grt (s[at0]'hat).toNat
   ·exact rY s at0 w hat hs hb hd hsm hgr
   ·exact qB s at0 w hat hs hb hd hsm hgr
  ·exact qh s at0 w hat hs hb hd hsm
 ·exact um s at0 w hat hs hb hd
abbrev I44:Nat->Prop:=fun k=>k=4
theorem mU {w wr:World}{o:Nat->Nat}(h:aa I44 w (fun _=>0) wr o):Below w.heap.size w wr:=h.below (fun _ _ h=>by cases h)
structure RsQ (l:List UInt8)(w wr:World)(o:Nat->Nat)(v:Value)(q:Nat)(ts:List Tk):Prop where
 row:Row wr o 4 73 4 v ts.length (cB ts)
 len:ts.length<=q
 run:lP ts (bN 0 [] q q (l.drop q))=mH l
 stp:aa I44 w (fun _=>0) wr o
theorem Bp (s:ByteArray)(w:World)(hs:s.size<=maxLen) :
  Calls Tryz.prog 33 #[.string s] w fun e w'=>∃v er at0,e=.returned (.tuple #[v,.int .i64 er,.int .i64 at0])/\AX w w' v er at0 (ey s.data.toList)/\Below w.heap.size w w':=by
 unfold maxLen at hs;have HL:Hid (s.data.toList.length=s.size):=bR s;by_cases hbig:2000<s.size
 ·have fin:ey s.data.toList=.inl (113,0):=by
   unfold ey;rw[HL.out,if_pos hbig]
  have hI:(2000:Int)<(s.size:Int):=by omega
  go_enter Tryz.func33,Tryz.ntmps33;go_wp2;go_ret3;exact⟨_,_,_,rfl,Or.inl ⟨113,0,fin,rfl,rfl,rfl⟩,b0 _⟩
 ·have HF:Hid (ey s.data.toList=mH s.data.toList):=by
   show _=_;unfold ey;rw[HL.out,if_neg hbig]
  have hs2:s.size<=2000:=by omega
  have hI:¬(2000:Int)<(s.size:Int):=by omega
  obtain⟨ii,hii,hz0,hz1,hz2⟩:=aH vg;go_enter Tryz.func33,Tryz.ntmps33;go_wp2_with fail;go_loopw [5,6] (fun v5 v6 wr=>∃q ts o,v6=.int .i64 (q:Nat)/\q<=s.size/\RsQ s.data.toList w wr o v5 q ts) (fun _ v6 _=>s.size-(intOf v6).toNat)
  case atStart=>exact⟨0,[],fun _=>0,by go_num,by omega,Row.nil _ _ _ _ _,by simp,rfl,aa.refl _ _ _⟩
  case round =>
   obtain⟨q,ts,o,rfl,hq,J⟩:=hrel;have hB:=mU J.stp;have hlen:=J.len;by_cases hlt:q<s.size
   ·have hqI:(q:Int)<(s.size:Int):=by omega
    have hql:q<s.data.toList.length:=by rw[HL.out];exact hlt
    have hbq:(s[q]'hlt).toNat<256:=UInt8.toNat_lt _;have hda:=jx s.data.toList q hql;rw[bL s q hlt hql] at hda;cases hb:blk (s[q]'hlt).toNat
    ·have HJ:=Lib.hid J;clear J hda;go_wp2_with (first|(go_at_call 62;refine(BH _ _ hbq).mono ?_;rw[hb];rintro e w1 ⟨rfl,rfl⟩)|(go_at_call 63;refine(Bu s q _ hlt hs2 hb).mono ?_;rintro e w2 ⟨⟨er,rfl,h1,h2⟩|⟨x,nx,rfl,h1,h2,h3⟩,hb2⟩<;>refine Hid.out ?_))
     ·refine Lib.hid ?_;have her0:¬(er:Int)=0:=by omega
      have herb:((er:Int) != 0)=true:=by simpa using her0
      have fin:mH s.data.toList=.inl (er,q):=by
       rw[<-HJ.out.run,h1,xS]
      have HN:=Lib.hid fin;clear fin h1;have hbw:=hB.trans (hb2.mono hB.size);go_wp2;go_ret3;exact⟨_,_,_,rfl,Or.inl ⟨er,q,HF.out.trans HN.out,rfl,rfl,rfl⟩,hbw.trans ((b1 _ _).mono hbw.size)⟩
     ·refine Lib.hid ?_;obtain⟨xk,xn,xt,xa⟩:=x;rw[HL.out] at h2;have J:=HJ.out;have s2:aa (fun _=>False) w1 o w2 o:=aa.ofBelow o hb2;have R3':=(J.row.step s2 (by simp)).step ((dK (fun _=>False) w2 o (.cells #[.int .i64 (xk:Nat),.int .i64 xn,.string ⟨xt.toArray⟩,.int .i64 (xa:Nat)] 73)).alloc (.cells #[.int .i64 (xk:Nat),.int .i64 xn,.string ⟨xt.toArray⟩,.int .i64 (xa:Nat)] 73)) (by simp);have hps:ts.length<=2001:=by omega
      have HR:Hid (lP (ts++[⟨xk,xn,xt,xa⟩]) (bN 0 [] nx nx (s.data.toList.drop nx))=mH s.data.toList):=by
       show _=_;rw[vK,<-J.run,h3]
      clear J s2 h3;simp only[tka];go_wp2_with (first|(at_builtin;refine aB rfl (.tmp 34) (.tmp 36) 65 rfl 73 ii (.agg #[.int .i64 0,.int .i64 0,.string ⟨#[]⟩,.int .i64 0]) 4 40 Tryz.underlying65 hii hz0 hz1 hz2 rfl (by decide) o 4 _ ts.length (cB ts) rfl R3' ⟨w2.heap.size+1,0,none⟩ 1 1 [.int .i64 (xk:Nat),.int .i64 xn,.string ⟨xt.toArray⟩,.int .i64 (xa:Nat)] rfl rfl ?c1 ?c2 (by decide) ?c3 ?c4 ?_)|go_in)
      case c1=>exact kG (by simp) _ _ _ _ _
      case c2=>intro u hu;simp at hu;rcases hu with rfl|rfl|rfl|rfl<;>rfl
      case c3=>unfold maxLen;omega
      case c4=>omega
      intro g5 cap5 w5 o5 R5 s5';have J:=HJ.out;have s5:aa (fun k=>k=4) w1 o w5 o5:=(((aa.ofBelow (I:=fun k=>k=4) o hb2).alloc _).alloc _).trans s5';have RR:Row w5 o5 4 73 4 (.slice (some ⟨g5,0,none⟩) (ts.length+1) cap5) (ts++[Tk.mk xk xn xt xa]).length (cB (ts++[Tk.mk xk xn xt xa])):=by
       rw[ke,List.length_append];exact R5
      have JN:RsQ s.data.toList w w5 o5 (.slice (some ⟨g5,0,none⟩) (ts.length+1) cap5) nx (ts++[Tk.mk xk xn xt xa]):=⟨RR,by simp;omega,HR.out,J.stp.trans s5⟩
      have HN:=Lib.hid JN;clear R3' R5 s5' RR J s5 JN;go_wp2;go_roundw
      case rel=>(try ((repeat apply Exists.intro);refine⟨?_,rfl⟩));exact⟨nx,_,o5,by go_num,by omega,HN.out⟩
      case measure=>simp[intOf];omega
    ·have JN:RsQ s.data.toList w wr o u5 (q+1) ts:=by
      refine⟨J.row,by omega,?_,J.stp⟩;have h1:=J.run;rw[hda,cY (k:=0) (by exact hb),iE _ [] _ (q+1)] at h1;exact h1
     have HN:=Lib.hid JN;clear J JN hda;go_wp2_with (go_at_call 62;refine(BH _ _ hbq).mono ?_;rw[hb];rintro e w1 ⟨rfl,rfl⟩);go_roundw
     case rel=>(try ((repeat apply Exists.intro);refine⟨?_,rfl⟩));exact⟨q+1,ts,o,by go_num,by omega,HN.out⟩
     case measure=>simp[intOf];omega
   ·obtain rfl:q=s.size:=by omega
    have hps:ts.length<=2001:=by omega
    have HJ:=Lib.hid J;have R3':=J.row.step (dK (fun _=>False) wr o (.cells #[.int .i64 0,.int .i64 0,.string ⟨#[]⟩,.int .i64 (s.size:Nat)] 73)) (by simp);clear J;go_wp2_with (first|(at_builtin;refine aB rfl (.tmp 39) (.tmp 43) 65 rfl 73 ii (.agg #[.int .i64 0,.int .i64 0,.string ⟨#[]⟩,.int .i64 0]) 4 40 Tryz.underlying65 hii hz0 hz1 hz2 rfl (by decide) o 4 _ ts.length (cB ts) rfl R3' ⟨wr.heap.size,0,none⟩ 1 1 [.int .i64 0,.int .i64 0,.string ⟨#[]⟩,.int .i64 (s.size:Nat)] rfl rfl ?d1 ?d2 (by decide) ?d3 ?d4 ?_)|go_in)
    case d1=>exact kG (by simp) _ _ _ _ _
    case d2=>intro u hu;simp at hu;rcases hu with rfl|rfl|rfl|rfl<;>rfl
    case d3=>unfold maxLen;omega
    case d4=>omega
    intro g5 cap5 w5 o5 R5 s5';have J:=HJ.out;have s5:aa (fun k=>k=4) wr o w5 o5:=(dK _ wr o _).trans s5';have S5:=J.stp.trans s5;have RN:mH s.data.toList=.inr (ts++[⟨0,0,[],s.size⟩]):=by
     have:=J.run
     rw[List.drop_of_length_le (by rw[HL.out];exact Nat.le_refl _)] at this;rw[<-this];exact xp _ _
    have RR:Row w5 o5 4 73 4 (.slice (some ⟨g5,0,none⟩) (ts.length+1) cap5) (ts++[Tk.mk 0 0 [] s.size]).length (cB (ts++[Tk.mk 0 0 [] s.size])):=by
     rw[ke,List.length_append];exact R5
    have OR:=RR.fresh S5;have hbe:=mU S5;have HN:=Lib.hid RN;clear R3' R5 s5' RR J s5 RN S5;go_wp2;go_ret3;exact⟨_,_,_,rfl,Or.inr ⟨_,HF.out.trans HN.out,rfl,rfl,OR⟩,hbe⟩
set_option linter.unusedSimpArgs false
theorem AB (w:World)(k:Nat):w.drew.heap[k]?=w.heap[k]?:=rfl
theorem yV {wx:World}{bq er a:Nat}(hw:wx.heap[bq]?=some (.cells #[.int .i64 (er:Nat),.int .i64 (a:Nat)] 129)):wx.cell? ⟨bq,0,none⟩=some (.int .i64 (er:Nat))/\wx.cell? ⟨bq,1,none⟩=some (.int .i64 (a:Nat)):=by
 obtain⟨y0,y1,-⟩:=Blk.cells2 (o:=fun _=>0) (i:=0) ⟨hw,rfl⟩;exact⟨y0,y1⟩
section
variable {w w1:World}{B bq er a:Nat}{v0 v1 v2 v3 v4 ve va:Value}
theorem cf7 (R1:w1.heap[bq]?=some (.cells #[.int .i64 (er:Nat),.int .i64 (a:Nat)] 129))(hB:B+2<bq):((World.setCell (World.setCell (World.setCell (World.setCell (World.setCell (World.setCell (World.setCell w1 ⟨B,0,none⟩ (.int .i64 0)) ⟨B,1,none⟩ (.int .i64 0)) ⟨B,2,none⟩ (.string ⟨#[]⟩)) ⟨B,3,none⟩ (.slice none 0 0)) ⟨B,4,none⟩ (.int .i64 0)) ⟨B+1,0,none⟩ (.int .i64 (er:Nat))) ⟨B+2,0,none⟩ (.int .i64 (a:Nat)))).drew.cell? ⟨bq,0,none⟩=some (.int .i64 (er:Nat))/\((World.setCell (World.setCell (World.setCell (World.setCell (World.setCell (World.setCell (World.setCell w1 ⟨B,0,none⟩ (.int .i64 0)) ⟨B,1,none⟩ (.int .i64 0)) ⟨B,2,none⟩ (.string ⟨#[]⟩)) ⟨B,3,none⟩ (.slice none 0 0)) ⟨B,4,none⟩ (.int .i64 0)) ⟨B+1,0,none⟩ (.int .i64 (er:Nat))) ⟨B+2,0,none⟩ (.int .i64 (a:Nat)))).drew.cell? ⟨bq,1,none⟩=some (.int .i64 (a:Nat)):=yV (wx:=((World.setCell (World.setCell (World.setCell (World.setCell (World.setCell (World.setCell (World.setCell w1 ⟨B,0,none⟩ (.int .i64 0)) ⟨B,1,none⟩ (.int .i64 0)) ⟨B,2,none⟩ (.string ⟨#[]⟩)) ⟨B,3,none⟩ (.slice none 0 0)) ⟨B,4,none⟩ (.int .i64 0)) ⟨B+1,0,none⟩ (.int .i64 (er:Nat))) ⟨B+2,0,none⟩ (.int .i64 (a:Nat)))).drew) ((AB _ bq).trans ((heap_setCell_other (World.setCell (World.setCell (World.setCell (World.setCell (World.setCell (World.setCell w1 ⟨B,0,none⟩ (.int .i64 0)) ⟨B,1,none⟩ (.int .i64 0)) ⟨B,2,none⟩ (.string ⟨#[]⟩)) ⟨B,3,none⟩ (.slice none 0 0)) ⟨B,4,none⟩ (.int .i64 0)) ⟨B+1,0,none⟩ (.int .i64 (er:Nat))) ⟨B+2,0,none⟩ bq (.int .i64 (a:Nat)) (show bq≠B+2 by omega)).trans ((heap_setCell_other (World.setCell (World.setCell (World.setCell (World.setCell (World.setCell w1 ⟨B,0,none⟩ (.int .i64 0)) ⟨B,1,none⟩ (.int .i64 0)) ⟨B,2,none⟩ (.string ⟨#[]⟩)) ⟨B,3,none⟩ (.slice none 0 0)) ⟨B,4,none⟩ (.int .i64 0)) ⟨B+1,0,none⟩ bq (.int .i64 (er:Nat)) (show bq≠B+1 by omega)).trans ((eo w1 B bq (.int .i64 0) (.int .i64 0) (.string ⟨#[]⟩) (.slice none 0 0) (.int .i64 0) (by omega)).trans R1))))
end
def Ee (w:World)(res:Rs Ex)(e:Ending)(w':World):Prop :=
 match res with
 | ⟨none⟩=>False
 | ⟨some (.inl (er,a))⟩=>e=.returned (.tuple #[exV da none 0,.int .i64 (er:Nat),.int .i64 (a:Nat)])/\Below w.heap.size w w'
 | ⟨some (.inr (x,_))⟩=>∃ao cap,e=.returned (.tuple #[exV x ao cap,.int .i64 0,.int .i64 0])/\Sl w' (Nw w.heap.size) x.kids ao/\Below w.heap.size w w'
theorem QS.bad5 {w:World}{rb o q er a:Nat}{all:List Tk}(h:QS w rb all o q (.inl (er,a))):((er:Int)==0)=false/\w.cell? ⟨rb,4,none⟩=some (.int .i64 (er:Nat))/\w.cell? ⟨rb,5,none⟩=some (.int .i64 (a:Nat)):=by
 obtain⟨i,o',q',h1,h2,h3⟩:=h;obtain⟨_,_,_,_,_,_,_,_,_,_,_,c4,c5,hf0⟩:=h1.next (List.getElem?_eq_getElem h2);exact⟨by simp;omega,c4,c5⟩
theorem QS.new {w:World}{g cap0:Nat}{ts:List Tk}(hg:g<w.heap.size)(hc:∀ j u,(cB ts)[j]?=some u->w.cell? ⟨g,j,none⟩=some u)(hl:ts.length<=3000)(hc1:ts.length<=cap0)(hc2:cap0<=maxLen)(hw:WFT ts) :
  QS (w.alloc (.cells #[.slice (some ⟨g,0,none⟩) ts.length cap0,.int .i64 0,.int .i64 0,.int .i64 0,.int .i64 0,.int .i64 0] 70)) w.heap.size ts 0 0 (.inr ts) :=
 ⟨0,0,⟨g,cap0,heap_alloc_new w _,hg,fun j u hu=>(((Below.refl _ w).alloc (Nat.le_refl _) _).cell (p:=⟨g,j,none⟩) hg).trans (hc j u hu),hl,hc1,hc2⟩,rfl,hw,by omega,by omega⟩
theorem vH {w:World}{b0:Nat}{v:Value}{ts:List Tk}(hT:w.ownsRow b0 73 4 v ts.length (cB ts))(h0:0<ts.length):∃g cap,v=.slice (some ⟨g,0,none⟩) ts.length cap/\g<w.heap.size/\ts.length<=cap/\cap<=maxLen/\∀ j u,(cB ts)[j]?=some u->w.cell? ⟨g,j,none⟩=some u:=by
 have r0:Row w (fun _=>0) 0 73 4 v ts.length (cB ts):=⟨mG hT,fun _ _=>rfl⟩
 obtain⟨g,cap,rfl,-,hc1,hc2,hg,hcell,-⟩:=r0.pos h0;refine⟨g,cap,rfl,hg,hc1,hc2,fun j u hu=>?_⟩;rw[hcell j ?_]
 ·exact hu
 ·have hlen:=r0.len;rw[<-hlen];by_cases hj:j<(cB ts).length
  ·exact hj
  ·rw[List.getElem?_eq_none (by omega)] at hu;cases hu
theorem wR {n:Nat}{ts:List Tk}{X:Ex}{er a:Nat}(hn:Nou (cP n 1 0 0) (.inr ts))(Q:Qd (cP n 1 0 0) (.inr ts) X (.inl (er,a))):fh n ts=.bad er a:=by
 have h1:=Q.1;simp only[onw] at h1;unfold fh;cases hp:cP n 1 0 0 ts using Rs.on with
 | out=>exact absurd hp (hn ts rfl)
 | bad e2 a2 =>
  rw[hp] at h1;simp only[stp] at h1;injection h1 with h1
  injection h1 with h1 h2
  subst h1 h2;rfl
 | ok y t=>rw[hp] at h1;cases h1
theorem vv {n:Nat}{ts:List Tk}{X:Ex}{y:Tk}{r:List Tk}(hn:Nou (cP n 1 0 0) (.inr ts))(Q:Qd (cP n 1 0 0) (.inr ts) X (.inr (y::r))):fh n ts=if y.k=0 then .ok X (y::r) else .bad 120 y.a:=by
 have h1:=Q.1;simp only[onw] at h1;unfold fh;cases hp:cP n 1 0 0 ts using Rs.on with
 | out=>exact absurd hp (hn ts rfl)
 | bad e2 a2=>rw[hp] at h1;cases h1
 | ok z t =>
  rw[hp] at h1;simp only[stp] at h1;injection h1 with h1
  subst h1;rw[Q.2 ts z _ rfl hp];rfl
theorem Bv (s:ByteArray)(w:World)(hs:s.size<=maxLen) :
  Calls Tryz.prog 10 #[.string s] w (Ee w (dV s.data.toList)):=by
 obtain⟨W,hPW⟩:∃W,W=dV s.data.toList:=⟨_,rfl⟩
 rw[<-hPW];have HW:Hid (W=dV s.data.toList):=hPW;have hn:W≠.out:=by rw[hPW];exact rN _
 have B0:Below w.heap.size w (w.alloc exZ):=(Below.refl _ w).alloc (Nat.le_refl _) _;have Z0:(w.alloc exZ).heap[w.heap.size]?=some exZ:=heap_alloc_new w _;have hs0:w.heap.size<(w.alloc exZ).heap.size:=by simp
 have c1:=Bp s (w.alloc exZ) hs;clear hPW;go_enter Tryz.func10,Tryz.ntmps10;go_wp2_with fail;refine c1.mono ?_;rintro e w1 ⟨v,er,at0,rfl,hO,b1⟩;have B1:Below w.heap.size w w1:=B0.trans (b1.mono (by omega));have Z1:=(b1.block _ hs0).trans Z0;have hz1:w.heap.size<w1.heap.size:=lt_of_block Z1;clear c1 b1 Z0 B0;rcases hO with ⟨e,p,hR,rfl,rfl,rfl⟩|⟨ts,hR,rfl,rfl,hown⟩
 ·have he:=oW hR;have heI:((e:Int)==0)=false:=by rw[beq_eq_false_iff_ne];omega
  have heI2:((e:Int) != 0)=true:=by simpa using heI
  have FIN:Hid (W=.bad e p):=by show W=_;rw[HW.out];unfold dV;rw[hR]
  have B9:=((((B1.setCell (p:=⟨w.heap.size,0,none⟩) (Nat.le_refl _) (.int .i64 0)).setCell (p:=⟨w.heap.size,1,none⟩) (Nat.le_refl _) (.int .i64 0)).setCell (p:=⟨w.heap.size,2,none⟩) (Nat.le_refl _) (.string ⟨#[]⟩)).setCell (p:=⟨w.heap.size,3,none⟩) (Nat.le_refl _) (.slice none 0 0)).setCell (p:=⟨w.heap.size,4,none⟩) (Nat.le_refl _) (.int .i64 0);have ZE:=bH (.int .i64 0) (.int .i64 0) (.string ⟨#[]⟩) (.slice none 0 0) (.int .i64 0) Z1;have HU:Hid (∃wz,wz=(World.setCell (World.setCell (World.setCell (World.setCell (World.setCell w1 ⟨w.heap.size,0,none⟩ (.int .i64 0)) ⟨w.heap.size,1,none⟩ (.int .i64 0)) ⟨w.heap.size,2,none⟩ (.string ⟨#[]⟩)) ⟨w.heap.size,3,none⟩ (.slice none 0 0)) ⟨w.heap.size,4,none⟩ (.int .i64 0))/\wz.cell? ⟨w.heap.size,0,none⟩=some (.int .i64 0)/\wz.cell? ⟨w.heap.size,1,none⟩=some (.int .i64 0)/\wz.cell? ⟨w.heap.size,2,none⟩=some (.string ⟨#[]⟩)/\wz.cell? ⟨w.heap.size,3,none⟩=some (.slice none 0 0)/\wz.cell? ⟨w.heap.size,4,none⟩=some (.int .i64 0)/\Below w.heap.size w wz):=by
   obtain⟨u0,u1,u2,u3,u4,-⟩:=ai ZE;exact⟨_,rfl,u0,u1,u2,u3,u4,B9⟩
  obtain⟨z0,z1,z2,z3,z4,zf⟩:=ai Z1;clear ZE B9;clear HW hR B1 Z1 he;go_wp2;obtain⟨wz,hwz,u0,u1,u2,u3,u4,BZ⟩:=HU.out;clear HU;rw[<-hwz];clear hwz;exact bodyPost_ret (v:=.tuple #[exV da none 0,.int .i64 (e:Nat),.int .i64 (p:Nat)]) (by simp[results,Tryz.results10,go_sem,u0,u1,u2,u3,u4,exV,da,Fs.len]) rfl (by rw[FIN.out];exact⟨rfl,BZ⟩)
 ·have hso:=jt hR;have hPW:W=fh 30000 ts:=by rw[HW.out];unfold dV;rw[hR]
  have HW2:Hid (W=fh 30000 ts):=hPW;have hNou:Nou (cP 30000 1 0 0) (.inr ts):=fun t0 h0 e=>hn (by cases h0;rw[hPW];unfold fh;rw[e];rfl);have hwf:WFT ts:=sI _ _ _ _ _ _ hso.2.1;have TI:∀ x,x ∈ ts->et x:=fun x hx s h1 h2=>(CG hR x hx).is h1 h2;obtain⟨g,cap0,rfl,hg,hc1,hc2,hcell⟩:=vH hown hso.2.2.2.2.1;have hA:=QS.new hg hcell (by omega) hc1 hc2 hwf;have kA:=(au.refl w1.heap.size w1).alloc (.cells #[.slice (some ⟨g,0,none⟩) ts.length cap0,.int .i64 0,.int .i64 0,.int .i64 0,.int .i64 0,.int .i64 0] 70);have ZA:=(Below.heap_alloc w1 (.cells #[.slice (some ⟨g,0,none⟩) ts.length cap0,.int .i64 0,.int .i64 0,.int .i64 0,.int .i64 0,.int .i64 0] 70) _ hz1).trans Z1;have BA:=B1.alloc (by omega) (.cells #[.slice (some ⟨g,0,none⟩) ts.length cap0,.int .i64 0,.int .i64 0,.int .i64 0,.int .i64 0,.int .i64 0] 70);have c2:=(sW 30000 (by omega)).1 _ _ ts 1 0 0 _ TI (by omega) (by omega) hA hNou;have hsA:(w1.alloc (.cells #[.slice (some ⟨g,0,none⟩) ts.length cap0,.int .i64 0,.int .i64 0,.int .i64 0,.int .i64 0,.int .i64 0] 70)).heap.size=w1.heap.size+1:=by simp
  have hrb:=hA.lt;clear HW hR hso hown hPW hcell hA hwf TI hn hg hc1 hc2 kA;go_wp2_with fail;refine c2.mono ?_;rintro e w2 ⟨X,ao,cap,st,rfl,S2,h2,k2,Q2⟩;have b2:=k2.below (Nat.le_of_lt hz1) hrb;have Z2:=k2.blk ZA (by omega);have B2:=BA.trans b2;have hz2:w.heap.size<w2.heap.size:=lt_of_block Z2;have h3:=h2.alloc (bxE X ao cap);have Z3:=(Below.heap_alloc w2 (bxE X ao cap) _ hz2).trans Z2;have B3:=B2.alloc (by omega) (bxE X ao cap);have X3:(w2.alloc (bxE X ao cap)).heap[w2.heap.size]?=some (bxE X ao cap):=heap_alloc_new w2 _;have S3:=S2.allocN (bxE X ao cap);have hz3:w1.heap.size<w2.heap.size:=h2.lt;rw[am];go_upto_region 6 with fail;generalize w2.alloc (bxE X ao cap)=w3 at *;obtain⟨xb,hxb⟩:∃xb,xb=w2.heap.size:=⟨_,rfl⟩
  rw[<-hxb] at X3 hz3 ⊢;have hxw:w.heap.size<xb:=by omega
  have hwr:w.heap.size<w1.heap.size:=hz1;have S3:=S3.low (show w.heap.size+1<=_ from (by omega));clear c2 S2 h2 k2 b2 Z2 B2 BA ZA B1 Z1 hz2 hxb hsA hrb;generalize w1.heap.size=rb at *
  match st,h3,Q2 with
  | .inl (er,a),h3,Q2 =>
   have FIN:Hid (W=.bad er a):=by show W=_;rw[HW2.out];exact wR hNou Q2
   clear HW2 Q2 hNou;obtain⟨hb,d4,d5⟩:=h3.bad5;have hb2:((er:Int) != 0)=true:=by simpa using hb
   go_quiet (fail)
   have b4:Below w3.heap.size w3 (w3.drewN nq):=bdr (Below.refl _ _) nq;have h4:=h3.below b4;have Z4:=(b4.block _ (lt_of_block Z3)).trans Z3;have B4:=B3.trans (b4.mono B3.size);generalize w3.drewN nq=w4 at *;clear b4 h3 Z3 B3 X3 S3 hb d4 d5 hb2;obtain⟨hb,d4,d5⟩:=h4.bad5;have hb2:((er:Int) != 0)=true:=by simpa using hb
   have B9:=((((B4.setCell (p:=⟨w.heap.size,0,none⟩) (Nat.le_refl _) (.int .i64 0)).setCell (p:=⟨w.heap.size,1,none⟩) (Nat.le_refl _) (.int .i64 0)).setCell (p:=⟨w.heap.size,2,none⟩) (Nat.le_refl _) (.string ⟨#[]⟩)).setCell (p:=⟨w.heap.size,3,none⟩) (Nat.le_refl _) (.slice none 0 0)).setCell (p:=⟨w.heap.size,4,none⟩) (Nat.le_refl _) (.int .i64 0);have ZE:=bH (.int .i64 0) (.int .i64 0) (.string ⟨#[]⟩) (.slice none 0 0) (.int .i64 0) Z4;have HU:Hid (∃wz,wz=(World.setCell (World.setCell (World.setCell (World.setCell (World.setCell w4 ⟨w.heap.size,0,none⟩ (.int .i64 0)) ⟨w.heap.size,1,none⟩ (.int .i64 0)) ⟨w.heap.size,2,none⟩ (.string ⟨#[]⟩)) ⟨w.heap.size,3,none⟩ (.slice none 0 0)) ⟨w.heap.size,4,none⟩ (.int .i64 0))/\wz.cell? ⟨w.heap.size,0,none⟩=some (.int .i64 0)/\wz.cell? ⟨w.heap.size,1,none⟩=some (.int .i64 0)/\wz.cell? ⟨w.heap.size,2,none⟩=some (.string ⟨#[]⟩)/\wz.cell? ⟨w.heap.size,3,none⟩=some (.slice none 0 0)/\wz.cell? ⟨w.heap.size,4,none⟩=some (.int .i64 0)/\Below w.heap.size w wz):=by
    obtain⟨u0,u1,u2,u3,u4,-⟩:=ai ZE;exact⟨_,rfl,u0,u1,u2,u3,u4,B9⟩
   obtain⟨z0,z1,z2,z3,z4,zf⟩:=ai Z4;clear ZE B9;clear h4 B4 Z4;go_upto_region 9 with fail;go_region
   all_goals
    go_wp2;obtain⟨wz,hwz,u0,u1,u2,u3,u4,BZ⟩:=HU.out;clear HU;have BZd:=BZ.drew;rw[<-hwz];clear hwz;exact bodyPost_ret (v:=.tuple #[exV da none 0,.int .i64 (er:Nat),.int .i64 (a:Nat)]) (by simp[results,Tryz.results10,go_sem,u0,u1,u2,u3,u4,exV,da,Fs.len]) rfl (by rw[FIN.out];exact⟨rfl,BZd⟩)
  | .inr [],h3,Q2=>exact absurd rfl (h3.nn [] rfl)
  | .inr (y::r),h3,Q2 =>
   have FIN0:Hid (W=if y.k=0 then .ok X (y::r) else .bad 120 y.a):=by show W=_;rw[HW2.out];exact vv hNou Q2
   clear HW2 Q2 hNou;obtain⟨i3,g3,cap3,L3,hg3,hi3,hcL3,hcap3,hL3,hm3,d0,d1,-,-,d4,⟨t0,t1,t2,t3⟩,hf⟩:=h3.ok;have hiI:(i3:Int)<(L3:Int):=by omega
   by_cases hk:y.k=0
   ·have FIN:Hid (W=.ok X (y::r)):=by show W=_;rw[FIN0.out,if_pos hk]
    have bk:((y.k:Int)==0)=true:=by simp[hk]
    have bk2:((y.k:Int) != 0)=false:=by simp[hk]
    clear FIN0 hk
    go_quiet (fail)
    have b4:Below w3.heap.size w3 (w3.drewN nq):=bdr (Below.refl _ _) nq;have e4:=(b4.cell (p:=⟨rb,4,none⟩) h3.lt).trans d4;have Z4:=(b4.block _ (lt_of_block Z3)).trans Z3;have X4:=(b4.block _ (lt_of_block X3)).trans X3;have B4:=B3.trans (b4.mono B3.size);have S4:=S3.mono (fun i _ hl=>b4.block i hl) b4.size (fun _ h _=>h);generalize w3.drewN nq=w4 at *;clear b4 h3 Z3 B3 X3 S3 d0 d1 d4 t0 t1 t2 t3 hf hm3 bk bk2;have B9:=((((B4.setCell (p:=⟨w.heap.size,0,none⟩) (Nat.le_refl _) (.int .i64 X.k)).setCell (p:=⟨w.heap.size,1,none⟩) (Nat.le_refl _) (.int .i64 X.n)).setCell (p:=⟨w.heap.size,2,none⟩) (Nat.le_refl _) (stv X.nm)).setCell (p:=⟨w.heap.size,3,none⟩) (Nat.le_refl _) (.slice ao X.kids.len cap)).setCell (p:=⟨w.heap.size,4,none⟩) (Nat.le_refl _) (.int .i64 X.a);have ZE:=bH (.int .i64 X.k) (.int .i64 X.n) (stv X.nm) (.slice ao X.kids.len cap) (.int .i64 X.a) Z4;have SE:Sl _ (Nw w.heap.size) _ _:=(S4.set5 (b:=w.heap.size) (by omega) (.int .i64 X.k) (.int .i64 X.n) (stv X.nm) (.slice ao X.kids.len cap) (.int .i64 X.a)).low (by omega);obtain⟨z0,z1,z2,z3,z4,zf⟩:=ai Z4;obtain⟨x0,x1,x2,x3,x4,xf⟩:=ai X4;obtain⟨u0,u1,u2,u3,u4,-⟩:=ai ZE;clear ZE Z4 X4 B4 S4;go_wp2;exact bodyPost_ret (v:=.tuple #[exV X ao cap,.int .i64 0,.int .i64 0]) (by simp[results,Tryz.results10,go_sem,u0,u1,u2,u3,u4,exV]) rfl (by rw[FIN.out];exact⟨ao,cap,rfl,SE,B9⟩)
   ·have FIN:Hid (W=.bad 120 y.a):=by show W=_;rw[FIN0.out,if_neg hk]
    have bk:((y.k:Int)==0)=false:=by simp;omega
    have bk2:((y.k:Int) != 0)=true:=by simp;omega
    clear FIN0 hk
    go_quiet (fail)
    have b4:Below w3.heap.size w3 (w3.drewN nq):=bdr (Below.refl _ _) nq;have h4:=h3.below b4;have Z4:=(b4.block _ (lt_of_block Z3)).trans Z3;have B4:=B3.trans (b4.mono B3.size);generalize w3.drewN nq=w4 at *;clear b4 h3 Z3 B3 X3 S3 d0 d1 d4 t0 t1 t2 t3 hf hm3 bk bk2;have c5:Calls Tryz.prog 35 #[.pointer (some ⟨rb,0,none⟩),.int .i64 120] w4 fun r' w'=>r'=.returned (.tuple #[])/\QS w' rb ts 0 0 (.inl (120,y.a))/\au rb w4 w':=fJ 120 (by decide) h4;have hr4:=h4.lt;go_wp2_with fail;refine c5.mono ?_;rintro e w5 ⟨rfl,h5,k5⟩;have Z5:=k5.blk Z4 (by omega);have B5:=B4.trans (k5.below (Nat.le_of_lt hwr) hr4);clear c5 k5 Z4 B4 h4 hr4;obtain⟨hb,d4,d5⟩:=h5.bad5;have hb2:((120:Int) != 0)=true:=by decide
    have B9:=((((B5.setCell (p:=⟨w.heap.size,0,none⟩) (Nat.le_refl _) (.int .i64 0)).setCell (p:=⟨w.heap.size,1,none⟩) (Nat.le_refl _) (.int .i64 0)).setCell (p:=⟨w.heap.size,2,none⟩) (Nat.le_refl _) (.string ⟨#[]⟩)).setCell (p:=⟨w.heap.size,3,none⟩) (Nat.le_refl _) (.slice none 0 0)).setCell (p:=⟨w.heap.size,4,none⟩) (Nat.le_refl _) (.int .i64 0);have ZE:=bH (.int .i64 0) (.int .i64 0) (.string ⟨#[]⟩) (.slice none 0 0) (.int .i64 0) Z5;have HU:Hid (∃wz,wz=(World.setCell (World.setCell (World.setCell (World.setCell (World.setCell w5 ⟨w.heap.size,0,none⟩ (.int .i64 0)) ⟨w.heap.size,1,none⟩ (.int .i64 0)) ⟨w.heap.size,2,none⟩ (.string ⟨#[]⟩)) ⟨w.heap.size,3,none⟩ (.slice none 0 0)) ⟨w.heap.size,4,none⟩ (.int .i64 0))/\wz.cell? ⟨w.heap.size,0,none⟩=some (.int .i64 0)/\wz.cell? ⟨w.heap.size,1,none⟩=some (.int .i64 0)/\wz.cell? ⟨w.heap.size,2,none⟩=some (.string ⟨#[]⟩)/\wz.cell? ⟨w.heap.size,3,none⟩=some (.slice none 0 0)/\wz.cell? ⟨w.heap.size,4,none⟩=some (.int .i64 0)/\Below w.heap.size w wz):=by
     obtain⟨u0,u1,u2,u3,u4,-⟩:=ai ZE;exact⟨_,rfl,u0,u1,u2,u3,u4,B9⟩
    obtain⟨z0,z1,z2,z3,z4,zf⟩:=ai Z5;clear ZE B9;clear h5 B5 Z5;go_upto_region 9 with fail;go_region
    all_goals
     go_wp2;obtain⟨wz,hwz,u0,u1,u2,u3,u4,BZ⟩:=HU.out;clear HU;have BZd:=BZ.drew;rw[<-hwz];clear hwz;exact bodyPost_ret (v:=.tuple #[exV da none 0,.int .i64 (120:Nat),.int .i64 (y.a:Nat)]) (by simp[results,Tryz.results10,go_sem,u0,u1,u2,u3,u4,exV,da,Fs.len]) rfl (by rw[FIN.out];exact⟨rfl,BZd⟩)
end Go.Proofs.YtbjdkekhnajafaaGreatDoor

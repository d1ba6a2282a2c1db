import Derived.Test.YtbjdkekhnajafaaGreatDoorLexO
import Derived.Defers
import Derived.Recover
import Derived.Laws.Pointers
set_option maxRecDepth 100000
set_option maxHeartbeats 8000000
namespace Go.Proofs.YtbjdkekhnajafaaGreatDoor
open Go.ChangeShapes Go.WideShapes Go.ChangeAt Go.RowKit
set_option linter.unusedVariables false
theorem seg_ext (s:ByteArray)(at0 e:Nat)(h0:at0<e)(h1:e<=s.size):(s.extract at0 e).data.toList=(s.data.toList.drop at0).take (e-at0)/\(s.extract at0 e).size=e-at0:=by
 refine⟨ext_list s at0 e,?_⟩;rw[<-data_len,ext_list];exact seg_len _ _ _ h0 (by rw[data_len];exact h1)
theorem seg_digs (l:List UInt8)(at0 e:Nat)(h1:e<=l.length)(hin:∀ j (h:j<l.length),at0<=j->j<e->tks 2 [] (l[j]).toNat=true):Digs ((l.drop at0).take (e-at0)):=by
 intro c hc;obtain⟨j,hj,rfl⟩:=List.mem_iff_getElem.1 hc;have hj':j<e-at0:=by simp at hj;omega
 rw[List.getElem_take,List.getElem_drop];have hjl:at0+j<l.length:=by omega
 have:=hin (at0+j) hjl (by omega) (by omega)
 simpa [tks,dig] using this
theorem cls_dig {r:Nat}(h1:blk r=false)(h3:dig r=true):cls r=2:=by
 have h2:ltr r=false:=by
  simp[dig] at h3;simp[ltr,sml];omega
 simp[cls,h1,h2,h3]
theorem cls_ltr {r:Nat}(h1:blk r=false)(h2:ltr r=true):cls r=1:=by simp[cls,h1,h2]
theorem token_num (s:ByteArray)(at0:Nat)(w:World)(hat:at0<s.size)(hs:s.size<=2000)(hb:blk (s[at0]).toNat=false)(hd:dig (s[at0]).toNat=true) :
  Calls Tryz.prog 63 #[.string s,.int .i64 (at0:Nat)] w fun e w'=>TokPost s.data.toList at0 e/\Below w.heap.size w w':=by
 have HL:Hid (s.data.toList.length=s.size):=data_len s;have hb0:(s[at0]'hat).toNat<256:=UInt8.toNat_lt _;have hatI:(at0:Int)<(s.size:Int):=by omega
 have hal:at0<s.data.toList.length:=by rw[HL.out];exact hat
 have HC:Hid (cls (s.data.toList[at0]'hal).toNat=2):=by rw[data_get s at0 hat hal];exact cls_dig hb hd
 go_enter Tryz.func63,Tryz.ntmps63;go_wp2_with (first|(go_at_call 120;refine(dig_r _ _ hb0).mono ?_;rw[hd];rintro e w1 ⟨rfl,rfl⟩)|(go_at_call 121;refine(ends_2 s at0 _ hat hs hd).mono ?_;rintro e w1 ⟨e0,rfl,hE,rfl⟩;refine Hid.out ?_));refine Lib.hid ?_;obtain⟨h1,h2,h3,h4⟩:=hE;rw[HL.out] at h2;obtain⟨hx1,hx2⟩:=seg_ext s at0 e0 h1 h2;have hsr:=seg_read s.data.toList 2 at0 e0 (.inr rfl) h1 (by rw[HL.out];exact h2) HC.out h3 h4;have hdg:=seg_digs s.data.toList at0 e0 (by rw[HL.out];exact h2) h3;have HSR:=Lib.hid hsr;have hI1:(at0:Int)<=(e0:Int):=by omega
 have hI2:(e0:Int)<=(s.size:Int):=by omega
 rw[<-hx1] at hdg;have HX:=Lib.hid hx1;have hz1:0<(s.extract at0 e0).size:=by omega
 have hz2:(s.extract at0 e0).size<=2000:=by omega
 clear hsr h3 h4 hx1 hx2;go_wp2_with (go_at_call 122;refine(number_r _ _ hz1 hz2 hdg).mono ?_;rintro e w2 ⟨⟨v,b,rfl,ho⟩,rfl⟩;refine Hid.out ?_);refine Lib.hid ?_;rw[HX.out] at ho;clear hdg hz1 hz2;rcases ho with ⟨rfl,hn⟩|⟨rfl,rfl,hn⟩
 ·have HP:Hid (TokPost s.data.toList at0 (.returned (.tuple #[.agg #[.int .i64 1,.int .i64 v,.string ⟨#[]⟩,.int .i64 (at0:Nat)],.int .i64 (e0:Nat),.int .i64 0]))):=by
   refine .inr ⟨⟨1,v,[],at0⟩,e0,rfl,h1,by rw[HL.out];exact h2,?_⟩;rw[HSR.out];unfold shutP;rw[if_neg (by omega)];show (match numT _ at0 with | .inl e=>_ | .inr x=>_)=_;rw[hn at0]
  clear hn;go_wp2;refine bodyPost_ret (tok3_end rfl _ _ w.heap.size _ _ _ _ _ _ rfl (heap_alloc_new _ _)) rfl ?_;exact⟨HP.out,b1 _ _⟩
 ·have HP:Hid (TokPost s.data.toList at0 (.returned (.tuple #[.agg #[.int .i64 0,.int .i64 0,.string ⟨#[]⟩,.int .i64 0],.int .i64 0,.int .i64 111]))):=by
   refine .inl ⟨111,rfl,?_,by omega⟩;rw[HSR.out];unfold shutP;rw[if_neg (by omega)];show (match numT _ at0 with | .inl e=>_ | .inr x=>_)=_;rw[hn at0]
  clear hn;go_wp2;refine bodyPost_ret (tok3_end rfl _ _ w.heap.size _ _ _ _ _ _ rfl (heap_alloc_new _ _)) rfl ?_;exact⟨HP.out,b1 _ _⟩
theorem token_wordS (s:ByteArray)(at0:Nat)(w:World)(hat:at0<s.size)(hs:s.size<=2000)(hb:blk (s[at0]).toNat=false)(hd:dig (s[at0]).toNat=false)(hsm:sml (s[at0]).toNat=true) :
  Calls Tryz.prog 63 #[.string s,.int .i64 (at0:Nat)] w fun e w'=>TokPost s.data.toList at0 e/\Below w.heap.size w w':=by
 have HL:Hid (s.data.toList.length=s.size):=data_len s;have hb0:(s[at0]'hat).toNat<256:=UInt8.toNat_lt _;have hatI:(at0:Int)<(s.size:Int):=by omega
 have hal:at0<s.data.toList.length:=by rw[HL.out];exact hat
 have hl:ltr (s[at0]'hat).toNat=true:=by simp[ltr,hsm]
 have HC:Hid (cls (s.data.toList[at0]'hal).toNat=1):=by rw[data_get s at0 hat hal];exact cls_ltr hb hl
 go_enter Tryz.func63,Tryz.ntmps63;go_wp2_with (first|(go_at_call 120;refine(dig_r _ _ hb0).mono ?_;rw[hd];rintro e w1 ⟨rfl,rfl⟩)|(go_at_call 123;refine(sml_r _ _ hb0).mono ?_;rw[hsm];rintro e w1 ⟨rfl,rfl⟩)|(go_at_call 121;refine(ends_1 s at0 _ hat hs hd hl).mono ?_;rintro e w1 ⟨e0,rfl,hE,rfl⟩;refine Hid.out ?_));refine Lib.hid ?_;obtain⟨h1,h2,h3,h4⟩:=hE;rw[HL.out] at h2;obtain⟨hx1,hx2⟩:=seg_ext s at0 e0 h1 h2;have hsr:=seg_read s.data.toList 1 at0 e0 (.inl rfl) h1 (by rw[HL.out];exact h2) HC.out h3 h4;have HSR:=Lib.hid hsr;have hI1:(at0:Int)<=(e0:Int):=by omega
 have hI2:(e0:Int)<=(s.size:Int):=by omega
 have HX:=Lib.hid hx1;have hz2:(s.extract at0 e0).size<=maxLen:=by unfold maxLen;omega
 clear hsr h3 h4 hx1 hx2;go_wp2_with (go_at_call 125;refine(word_r _ _ hz2).mono ?_;rw[HX.out];rintro e w2 ⟨rfl,hb2⟩;refine Hid.out ?_);refine Lib.hid ?_;obtain⟨k2,B2⟩:=one_box hb2;clear hb2;have HY:Hid (∀ x,wrdT ((s.data.toList.drop at0).take (e0-at0)) at0=.inr x->lexL 0 [] at0 at0 (s.data.toList.drop at0)=consR x (lexL 0 [] e0 e0 (s.data.toList.drop e0))):=fun x h=>by
  rw[HSR.out];unfold shutP;rw[if_neg (by omega)];show (match wrdT _ at0 with | .inl e=>_ | .inr x=>_)=_;rw[h]
 have HN:Hid (∀ e,wrdT ((s.data.toList.drop at0).take (e0-at0)) at0=.inl e->lexL 0 [] at0 at0 (s.data.toList.drop at0)=.inl (e,at0)):=fun x h=>by
  rw[HSR.out];unfold shutP;rw[if_neg (by omega)];show (match wrdT _ at0 with | .inl e=>_ | .inr x=>_)=_;rw[h]
 have hbt:(⟨((s.data.toList.drop at0).take (e0-at0)).toArray⟩:ByteArray)=s.extract at0 e0:=(ext_eq s at0 e0).symm;cases hw:wordB ((s.data.toList.drop at0).take (e0-at0))
 ·have hn0:B2=B2:=rfl;have hk2:=Lib.hid k2;go_wp2_with (go_at_call 126;refine(name_r _ _ hz2).mono ?_;rw[HX.out];rintro e w3 ⟨rfl,hb3⟩;refine Hid.out ?_);refine Lib.hid ?_;have k3:w3.heap[w.heap.size]?=some (.cells #[.int .i64 0,.int .i64 0,.string ⟨#[]⟩,.int .i64 0] 73 (0,0)):=by
   rw[hb3.block _ (lt_of_block hk2.out)];exact hk2.out
  have B3:=B2.trans (hb3.mono B2.size);clear hb3 k2 hk2 B2 hn0;have c0:w3.cell? ⟨w.heap.size,0,none⟩=some (.int .i64 0):=by rw[cell_of_row _ _ _ _ _ _ k3];rfl
  have c1:w3.cell? ⟨w.heap.size,1,none⟩=some (.int .i64 0):=by rw[cell_of_row _ _ _ _ _ _ k3];rfl
  have c2:w3.cell? ⟨w.heap.size,2,none⟩=some (.string ⟨#[]⟩):=by rw[cell_of_row _ _ _ _ _ _ k3];rfl
  have c3:w3.cell? ⟨w.heap.size,3,none⟩=some (.int .i64 0):=by rw[cell_of_row _ _ _ _ _ _ k3];rfl
  have fz:∀ j,w3.frozen? ⟨w.heap.size,j,none⟩=false:=fun j=>frozen_of_row w3 _ j _ _ k3;have HK2:=Lib.hid k3;clear k3;cases hn:nameB ((s.data.toList.drop at0).take (e0-at0))
  ·have HP:Hid (TokPost s.data.toList at0 (.returned (.tuple #[.agg #[.int .i64 0,.int .i64 0,.string ⟨#[]⟩,.int .i64 0],.int .i64 0,.int .i64 112]))):=by
    refine .inl ⟨112,rfl,HN.out 112 ?_,by omega⟩;unfold wrdT;rw[hw,hn];rfl
   clear hw hn hbt;go_wp2;refine bodyPost_ret (tok3_end rfl _ _ w.heap.size _ _ _ _ _ _ rfl (set4 _ _ _ _ HK2.out)) rfl ?_;exact⟨HP.out,bset4 _ _ _ _ B3 (by omega)⟩
  ·have HP:Hid (TokPost s.data.toList at0 (.returned (.tuple #[.agg #[.int .i64 2,.int .i64 0,.string (s.extract at0 e0),.int .i64 (at0:Nat)],.int .i64 (e0:Nat),.int .i64 0]))):=by
    refine .inr ⟨⟨2,0,(s.data.toList.drop at0).take (e0-at0),at0⟩,e0,by simp only[tka,hbt];rfl,h1,by rw[HL.out];exact h2,HY.out _ ?_⟩;unfold wrdT;rw[hw,hn];rfl
   clear hw hn hbt;go_wp2;refine bodyPost_ret (tok3_end rfl _ _ w.heap.size _ _ _ _ _ _ rfl (set4 _ _ _ _ HK2.out)) rfl ?_;exact⟨HP.out,bset4 _ _ _ _ B3 (by omega)⟩
 ·have HP:Hid (TokPost s.data.toList at0 (.returned (.tuple #[.agg #[.int .i64 3,.int .i64 0,.string (s.extract at0 e0),.int .i64 (at0:Nat)],.int .i64 (e0:Nat),.int .i64 0]))):=by
   refine .inr ⟨⟨3,0,(s.data.toList.drop at0).take (e0-at0),at0⟩,e0,by simp only[tka,hbt];rfl,h1,by rw[HL.out];exact h2,HY.out _ ?_⟩;unfold wrdT;rw[hw];rfl
  have c0:w2.cell? ⟨w.heap.size,0,none⟩=some (.int .i64 0):=by rw[cell_of_row _ _ _ _ _ _ k2];rfl
  have c1:w2.cell? ⟨w.heap.size,1,none⟩=some (.int .i64 0):=by rw[cell_of_row _ _ _ _ _ _ k2];rfl
  have c2:w2.cell? ⟨w.heap.size,2,none⟩=some (.string ⟨#[]⟩):=by rw[cell_of_row _ _ _ _ _ _ k2];rfl
  have c3:w2.cell? ⟨w.heap.size,3,none⟩=some (.int .i64 0):=by rw[cell_of_row _ _ _ _ _ _ k2];rfl
  have fz:∀ j,w2.frozen? ⟨w.heap.size,j,none⟩=false:=fun j=>frozen_of_row w2 _ j _ _ k2;have HK2:=Lib.hid k2;clear k2;clear hw hbt;go_wp2;refine bodyPost_ret (tok3_end rfl _ _ w.heap.size _ _ _ _ _ _ rfl (set4 _ _ _ _ HK2.out)) rfl ?_;exact⟨HP.out,bset4 _ _ _ _ B2 (by omega)⟩
theorem token_wordG (s:ByteArray)(at0:Nat)(w:World)(hat:at0<s.size)(hs:s.size<=2000)(hb:blk (s[at0]).toNat=false)(hd:dig (s[at0]).toNat=false)(hsm:sml (s[at0]).toNat=false)(hgr:grt (s[at0]).toNat=true) :
  Calls Tryz.prog 63 #[.string s,.int .i64 (at0:Nat)] w fun e w'=>TokPost s.data.toList at0 e/\Below w.heap.size w w':=by
 have HL:Hid (s.data.toList.length=s.size):=data_len s;have hb0:(s[at0]'hat).toNat<256:=UInt8.toNat_lt _;have hatI:(at0:Int)<(s.size:Int):=by omega
 have hal:at0<s.data.toList.length:=by rw[HL.out];exact hat
 have hl:ltr (s[at0]'hat).toNat=true:=by rw[ltr_grt,hsm,hgr];rfl
 have HC:Hid (cls (s.data.toList[at0]'hal).toNat=1):=by rw[data_get s at0 hat hal];exact cls_ltr hb hl
 go_enter Tryz.func63,Tryz.ntmps63;go_wp2_with (first|(go_at_call 120;refine(dig_r _ _ hb0).mono ?_;rw[hd];rintro e w1 ⟨rfl,rfl⟩)|(go_at_call 123;refine(sml_r _ _ hb0).mono ?_;rw[hsm];rintro e w1 ⟨rfl,rfl⟩)|(go_at_call 124;refine(grt_r _ _ hb0).mono ?_;rw[hgr];rintro e w1 ⟨rfl,rfl⟩)|(go_at_call 121;refine(ends_1 s at0 _ hat hs hd hl).mono ?_;rintro e w1 ⟨e0,rfl,hE,rfl⟩;refine Hid.out ?_));refine Lib.hid ?_;obtain⟨h1,h2,h3,h4⟩:=hE;rw[HL.out] at h2;obtain⟨hx1,hx2⟩:=seg_ext s at0 e0 h1 h2;have hsr:=seg_read s.data.toList 1 at0 e0 (.inl rfl) h1 (by rw[HL.out];exact h2) HC.out h3 h4;have HSR:=Lib.hid hsr;have hI1:(at0:Int)<=(e0:Int):=by omega
 have hI2:(e0:Int)<=(s.size:Int):=by omega
 have HX:=Lib.hid hx1;have hz2:(s.extract at0 e0).size<=maxLen:=by unfold maxLen;omega
 clear hsr h3 h4 hx1 hx2;go_wp2_with (go_at_call 125;refine(word_r _ _ hz2).mono ?_;rw[HX.out];rintro e w2 ⟨rfl,hb2⟩;refine Hid.out ?_);refine Lib.hid ?_;obtain⟨k2,B2⟩:=one_box hb2;clear hb2;have HY:Hid (∀ x,wrdT ((s.data.toList.drop at0).take (e0-at0)) at0=.inr x->lexL 0 [] at0 at0 (s.data.toList.drop at0)=consR x (lexL 0 [] e0 e0 (s.data.toList.drop e0))):=fun x h=>by
  rw[HSR.out];unfold shutP;rw[if_neg (by omega)];show (match wrdT _ at0 with | .inl e=>_ | .inr x=>_)=_;rw[h]
 have HN:Hid (∀ e,wrdT ((s.data.toList.drop at0).take (e0-at0)) at0=.inl e->lexL 0 [] at0 at0 (s.data.toList.drop at0)=.inl (e,at0)):=fun x h=>by
  rw[HSR.out];unfold shutP;rw[if_neg (by omega)];show (match wrdT _ at0 with | .inl e=>_ | .inr x=>_)=_;rw[h]
 have hbt:(⟨((s.data.toList.drop at0).take (e0-at0)).toArray⟩:ByteArray)=s.extract at0 e0:=(ext_eq s at0 e0).symm;cases hw:wordB ((s.data.toList.drop at0).take (e0-at0))
 ·have hn0:B2=B2:=rfl;have hk2:=Lib.hid k2;go_wp2_with (go_at_call 126;refine(name_r _ _ hz2).mono ?_;rw[HX.out];rintro e w3 ⟨rfl,hb3⟩;refine Hid.out ?_);refine Lib.hid ?_;have k3:w3.heap[w.heap.size]?=some (.cells #[.int .i64 0,.int .i64 0,.string ⟨#[]⟩,.int .i64 0] 73 (0,0)):=by
   rw[hb3.block _ (lt_of_block hk2.out)];exact hk2.out
  have B3:=B2.trans (hb3.mono B2.size);clear hb3 k2 hk2 B2 hn0;have c0:w3.cell? ⟨w.heap.size,0,none⟩=some (.int .i64 0):=by rw[cell_of_row _ _ _ _ _ _ k3];rfl
  have c1:w3.cell? ⟨w.heap.size,1,none⟩=some (.int .i64 0):=by rw[cell_of_row _ _ _ _ _ _ k3];rfl
  have c2:w3.cell? ⟨w.heap.size,2,none⟩=some (.string ⟨#[]⟩):=by rw[cell_of_row _ _ _ _ _ _ k3];rfl
  have c3:w3.cell? ⟨w.heap.size,3,none⟩=some (.int .i64 0):=by rw[cell_of_row _ _ _ _ _ _ k3];rfl
  have fz:∀ j,w3.frozen? ⟨w.heap.size,j,none⟩=false:=fun j=>frozen_of_row w3 _ j _ _ k3;have HK2:=Lib.hid k3;clear k3;cases hn:nameB ((s.data.toList.drop at0).take (e0-at0))
  ·have HP:Hid (TokPost s.data.toList at0 (.returned (.tuple #[.agg #[.int .i64 0,.int .i64 0,.string ⟨#[]⟩,.int .i64 0],.int .i64 0,.int .i64 112]))):=by
    refine .inl ⟨112,rfl,HN.out 112 ?_,by omega⟩;unfold wrdT;rw[hw,hn];rfl
   clear hw hn hbt;go_wp2;refine bodyPost_ret (tok3_end rfl _ _ w.heap.size _ _ _ _ _ _ rfl (set4 _ _ _ _ HK2.out)) rfl ?_;exact⟨HP.out,bset4 _ _ _ _ B3 (by omega)⟩
  ·have HP:Hid (TokPost s.data.toList at0 (.returned (.tuple #[.agg #[.int .i64 2,.int .i64 0,.string (s.extract at0 e0),.int .i64 (at0:Nat)],.int .i64 (e0:Nat),.int .i64 0]))):=by
    refine .inr ⟨⟨2,0,(s.data.toList.drop at0).take (e0-at0),at0⟩,e0,by simp only[tka,hbt];rfl,h1,by rw[HL.out];exact h2,HY.out _ ?_⟩;unfold wrdT;rw[hw,hn];rfl
   clear hw hn hbt;go_wp2;refine bodyPost_ret (tok3_end rfl _ _ w.heap.size _ _ _ _ _ _ rfl (set4 _ _ _ _ HK2.out)) rfl ?_;exact⟨HP.out,bset4 _ _ _ _ B3 (by omega)⟩
 ·have HP:Hid (TokPost s.data.toList at0 (.returned (.tuple #[.agg #[.int .i64 3,.int .i64 0,.string (s.extract at0 e0),.int .i64 (at0:Nat)],.int .i64 (e0:Nat),.int .i64 0]))):=by
   refine .inr ⟨⟨3,0,(s.data.toList.drop at0).take (e0-at0),at0⟩,e0,by simp only[tka,hbt];rfl,h1,by rw[HL.out];exact h2,HY.out _ ?_⟩;unfold wrdT;rw[hw];rfl
  have c0:w2.cell? ⟨w.heap.size,0,none⟩=some (.int .i64 0):=by rw[cell_of_row _ _ _ _ _ _ k2];rfl
  have c1:w2.cell? ⟨w.heap.size,1,none⟩=some (.int .i64 0):=by rw[cell_of_row _ _ _ _ _ _ k2];rfl
  have c2:w2.cell? ⟨w.heap.size,2,none⟩=some (.string ⟨#[]⟩):=by rw[cell_of_row _ _ _ _ _ _ k2];rfl
  have c3:w2.cell? ⟨w.heap.size,3,none⟩=some (.int .i64 0):=by rw[cell_of_row _ _ _ _ _ _ k2];rfl
  have fz:∀ j,w2.frozen? ⟨w.heap.size,j,none⟩=false:=fun j=>frozen_of_row w2 _ j _ _ k2;have HK2:=Lib.hid k2;clear k2;clear hw hbt;go_wp2;refine bodyPost_ret (tok3_end rfl _ _ w.heap.size _ _ _ _ _ _ rfl (set4 _ _ _ _ HK2.out)) rfl ?_;exact⟨HP.out,bset4 _ _ _ _ B2 (by omega)⟩
theorem token_sign (s:ByteArray)(at0:Nat)(w:World)(hat:at0<s.size)(hs:s.size<=2000)(hb:blk (s[at0]).toNat=false)(hd:dig (s[at0]).toNat=false)(hsm:sml (s[at0]).toNat=false)(hgr:grt (s[at0]).toNat=false) :
  Calls Tryz.prog 63 #[.string s,.int .i64 (at0:Nat)] w fun e w'=>TokPost s.data.toList at0 e/\Below w.heap.size w w':=by
 have HL:Hid (s.data.toList.length=s.size):=data_len s;have hb0:(s[at0]'hat).toNat<256:=UInt8.toNat_lt _;have hatI:(at0:Int)<(s.size:Int):=by omega
 have hatL:(at0:Int)<=(s.size:Int):=by omega
 have hal:at0<s.data.toList.length:=by rw[HL.out];exact hat
 have hl:ltr (s[at0]'hat).toNat=false:=by rw[ltr_grt,hsm,hgr];rfl
 have hda:=drop_at s.data.toList at0 hal;rw[data_get s at0 hat hal] at hda;have hsr:=sign_read (s[at0]'hat) (s.data.toList.drop (at0+1)) at0 hb hl hd;rw[<-hda] at hsr;obtain⟨hx1,hx2⟩:=seg_ext s at0 s.size hat (Nat.le_refl _);rw[List.take_of_length_le (by rw[List.length_drop,HL.out];exact Nat.le_refl _)] at hx1;have HSR:=Lib.hid hsr;have HX:=Lib.hid hx1;have hz1:0<(s.extract at0 s.size).size:=by omega
 have hz2:(s.extract at0 s.size).size<=2000:=by omega
 clear hda hsr hx1 hx2 hl;go_enter Tryz.func63,Tryz.ntmps63;go_wp2_with (first|(go_at_call 120;refine(dig_r _ _ hb0).mono ?_;rw[hd];rintro e w1 ⟨rfl,rfl⟩)|(go_at_call 123;refine(sml_r _ _ hb0).mono ?_;rw[hsm];rintro e w1 ⟨rfl,rfl⟩)|(go_at_call 124;refine(grt_r _ _ hb0).mono ?_;rw[hgr];rintro e w1 ⟨rfl,rfl⟩)|(go_at_call 127;refine(sign_r _ _ hz1 hz2).mono ?_;rw[HX.out];rintro e w2 ⟨rfl,hb2⟩;refine Hid.out ?_));refine Lib.hid ?_;obtain⟨k2,B2⟩:=one_box hb2;clear hb2 hz1 hz2;have c0:w2.cell? ⟨w.heap.size,0,none⟩=some (.int .i64 0):=by rw[cell_of_row _ _ _ _ _ _ k2];rfl
 have c1:w2.cell? ⟨w.heap.size,1,none⟩=some (.int .i64 0):=by rw[cell_of_row _ _ _ _ _ _ k2];rfl
 have c2:w2.cell? ⟨w.heap.size,2,none⟩=some (.string ⟨#[]⟩):=by rw[cell_of_row _ _ _ _ _ _ k2];rfl
 have c3:w2.cell? ⟨w.heap.size,3,none⟩=some (.int .i64 0):=by rw[cell_of_row _ _ _ _ _ _ k2];rfl
 have fz:∀ j,w2.frozen? ⟨w.heap.size,j,none⟩=false:=fun j=>frozen_of_row w2 _ j _ _ k2;have HK2:=Lib.hid k2;clear k2;obtain⟨U,hU⟩:∃U:ByteArray,U=⟨(sgnU (s.data.toList.drop at0)).toArray⟩:=⟨_,rfl⟩
 have hUs:U.size=(sgnU (s.data.toList.drop at0)).length:=by rw[hU,mk_size]
 rw[<-hU];rcases HSR.out with ⟨h1,h2⟩|⟨h1,h2,h3⟩
 ·have hU0:U=⟨#[]⟩:=by rw[hU,h1]
  have HP:Hid (TokPost s.data.toList at0 (.returned (.tuple #[.agg #[.int .i64 0,.int .i64 0,.string ⟨#[]⟩,.int .i64 0],.int .i64 0,.int .i64 110]))):=.inl ⟨110,rfl,h2,by omega⟩;clear hU hUs h1 h2;subst hU0;go_wp2;refine bodyPost_ret (tok3_end rfl _ _ w.heap.size _ _ _ _ _ _ rfl (set4 _ _ _ _ HK2.out)) rfl ?_;exact⟨HP.out,bset4 _ _ _ _ B2 (by omega)⟩
 ·have hln:0<(sgnU (s.data.toList.drop at0)).length:=List.length_pos_iff.2 h1;have hdl:(s.data.toList.drop at0).length=s.size-at0:=by rw[List.length_drop,HL.out]
  have h4:at0+U.size<=s.size:=by omega
  have hne:U.toList.isEmpty=false:=str_full (by omega);have HP:Hid (TokPost s.data.toList at0 (.returned (.tuple #[.agg #[.int .i64 4,.int .i64 0,.string U,.int .i64 (at0:Nat)],.int .i64 ((at0:Int)+(U.size:Int)),.int .i64 0]))):=by
   refine .inr ⟨⟨4,0,sgnU (s.data.toList.drop at0),at0⟩,at0+U.size,?_,by omega,by rw[HL.out];exact h4,?_⟩
   ·simp only[tka,<-hU,Int.natCast_add];rfl
   ·rw[h3,<-hUs,List.drop_drop]
  have h4I:(at0:Int)+(U.size:Int)<=2000:=by omega
  clear hU hUs h1 h2 h3 hln hdl;go_wp2;refine bodyPost_ret (tok3_end rfl _ _ w.heap.size _ _ _ _ _ _ rfl (set4 _ _ _ _ HK2.out)) rfl ?_;exact⟨HP.out,bset4 _ _ _ _ B2 (by omega)⟩
theorem token_q (s:ByteArray)(at0:Nat)(w:World)(hat:at0<s.size)(hs:s.size<=2000)(hb:blk (s[at0]).toNat=false) :
  Calls Tryz.prog 63 #[.string s,.int .i64 (at0:Nat)] w fun e w'=>TokPost s.data.toList at0 e/\Below w.heap.size w w':=by
 cases hd:dig (s[at0]'hat).toNat
 ·cases hsm:sml (s[at0]'hat).toNat
  ·cases hgr:grt (s[at0]'hat).toNat
   ·exact token_sign s at0 w hat hs hb hd hsm hgr
   ·exact token_wordG s at0 w hat hs hb hd hsm hgr
  ·exact token_wordS s at0 w hat hs hb hd hsm
 ·exact token_num s at0 w hat hs hb hd
abbrev I44:Nat->Prop:=fun k=>k=4
theorem I44_below {w wr:World}{o:Nat->Nat}(h:Step I44 w (fun _=>0) wr o):Below w.heap.size w wr:=h.below (fun _ _ h=>by cases h)
structure RsQ (l:List UInt8)(w wr:World)(o:Nat->Nat)(v:Value)(q:Nat)(ts:List Tk):Prop where
 row:Row wr o 4 73 4 v ts.length (tcells ts)
 len:ts.length<=q
 run:preR ts (lexL 0 [] q q (l.drop q))=lexA l
 stp:Step I44 w (fun _=>0) wr o
theorem rscan_c (s:ByteArray)(w:World)(hs:s.size<=maxLen) :
  Calls Tryz.prog 33 #[.string s] w fun e w'=>∃v er at0,e=.returned (.tuple #[v,.int .i64 er,.int .i64 at0])/\ScanOut w w' v er at0 (scanA s.data.toList)/\Below w.heap.size w w':=by
 unfold maxLen at hs;have HL:Hid (s.data.toList.length=s.size):=data_len s;by_cases hbig:2000<s.size
 ·have fin:scanA s.data.toList=.inl (113,0):=by
   unfold scanA;rw[HL.out,if_pos hbig]
  have hI:(2000:Int)<(s.size:Int):=by omega
  go_enter Tryz.func33,Tryz.ntmps33;go_wp2;go_ret3;exact⟨_,_,_,rfl,Or.inl ⟨113,0,fin,rfl,rfl,rfl⟩,b0 _⟩
 ·have HF:Hid (scanA s.data.toList=lexA s.data.toList):=by
   show _=_;unfold scanA;rw[HL.out,if_neg hbig]
  have hs2:s.size<=2000:=by omega
  have hI:¬(2000:Int)<(s.size:Int):=by omega
  obtain⟨ii,hii,hz0,hz1,hz2⟩:=info_parts infoToken;go_enter Tryz.func33,Tryz.ntmps33;go_wp2_with fail;go_loopw [5,6] (fun v5 v6 wr=>∃q ts o,v6=.int .i64 (q:Nat)/\q<=s.size/\RsQ s.data.toList w wr o v5 q ts) (fun _ v6 _=>s.size-(intOf v6).toNat)
  case atStart=>exact⟨0,[],fun _=>0,by go_num,by omega,Row.nil _ _ _ _ _,by simp,rfl,Step.refl _ _ _⟩
  case round =>
   obtain⟨q,ts,o,rfl,hq,J⟩:=hrel;have hB:=I44_below J.stp;have hlen:=J.len;by_cases hlt:q<s.size
   ·have hqI:(q:Int)<(s.size:Int):=by omega
    have hql:q<s.data.toList.length:=by rw[HL.out];exact hlt
    have hbq:(s[q]'hlt).toNat<256:=UInt8.toNat_lt _;have hda:=drop_at s.data.toList q hql;rw[data_get s q hlt hql] at hda;cases hb:blk (s[q]'hlt).toNat
    ·have HJ:=Lib.hid J;clear J hda;go_wp2_with (first|(go_at_call 62;refine(blk_r _ _ hbq).mono ?_;rw[hb];rintro e w1 ⟨rfl,rfl⟩)|(go_at_call 63;refine(token_q s q _ hlt hs2 hb).mono ?_;rintro e w2 ⟨⟨er,rfl,h1,h2⟩|⟨x,nx,rfl,h1,h2,h3⟩,hb2⟩<;>refine Hid.out ?_))
     ·refine Lib.hid ?_;have her0:¬(er:Int)=0:=by omega
      have herb:((er:Int) != 0)=true:=by simpa using her0
      have fin:lexA s.data.toList=.inl (er,q):=by
       rw[<-HJ.out.run,h1,preR_inl]
      have HN:=Lib.hid fin;clear fin h1;have hbw:=hB.trans (hb2.mono hB.size);go_wp2;go_ret3;exact⟨_,_,_,rfl,Or.inl ⟨er,q,HF.out.trans HN.out,rfl,rfl,rfl⟩,hbw.trans ((b1 _ _).mono hbw.size)⟩
     ·refine Lib.hid ?_;obtain⟨xk,xn,xt,xa⟩:=x;rw[HL.out] at h2;have J:=HJ.out;have s2:Step (fun _=>False) w1 o w2 o:=Step.ofBelow o hb2;have R3':=(J.row.step s2 (by simp)).step ((allocStep (fun _=>False) w2 o (.cells #[.int .i64 (xk:Nat),.int .i64 xn,.string ⟨xt.toArray⟩,.int .i64 (xa:Nat)] 73)).alloc (.cells #[.int .i64 (xk:Nat),.int .i64 xn,.string ⟨xt.toArray⟩,.int .i64 (xa:Nat)] 73)) (by simp);have hps:ts.length<=2001:=by omega
      have HR:Hid (preR (ts++[⟨xk,xn,xt,xa⟩]) (lexL 0 [] nx nx (s.data.toList.drop nx))=lexA s.data.toList):=by
       show _=_;rw[preR_more,<-J.run,h3]
      clear J s2 h3;simp only[tka];go_wp2_with (first|(at_builtin;refine wpList_append_lab rfl (.tmp 34) (.tmp 36) 65 rfl 73 ii (.agg #[.int .i64 0,.int .i64 0,.string ⟨#[]⟩,.int .i64 0]) 4 40 Tryz.underlying65 hii hz0 hz1 hz2 rfl (by decide) o 4 _ ts.length (tcells ts) rfl R3' ⟨w2.heap.size+1,0,none⟩ 1 1 [.int .i64 (xk:Nat),.int .i64 xn,.string ⟨xt.toArray⟩,.int .i64 (xa:Nat)] rfl rfl ?c1 ?c2 (by decide) ?c3 ?c4 ?_)|go_in)
      case c1=>exact new_four_at (by simp) _ _ _ _ _
      case c2=>intro u hu;simp at hu;rcases hu with rfl|rfl|rfl|rfl<;>rfl
      case c3=>unfold maxLen;omega
      case c4=>omega
      intro g5 cap5 w5 o5 R5 s5';have J:=HJ.out;have s5:Step (fun k=>k=4) w1 o w5 o5:=(((Step.ofBelow (I:=fun k=>k=4) o hb2).alloc _).alloc _).trans s5';have RR:Row w5 o5 4 73 4 (.slice (some ⟨g5,0,none⟩) (ts.length+1) cap5) (ts++[Tk.mk xk xn xt xa]).length (tcells (ts++[Tk.mk xk xn xt xa])):=by
       rw[tcells_more,List.length_append];exact R5
      have JN:RsQ s.data.toList w w5 o5 (.slice (some ⟨g5,0,none⟩) (ts.length+1) cap5) nx (ts++[Tk.mk xk xn xt xa]):=⟨RR,by simp;omega,HR.out,J.stp.trans s5⟩
      have HN:=Lib.hid JN;clear R3' R5 s5' RR J s5 JN;go_wp2;go_roundw
      case rel=>(try ((repeat apply Exists.intro);refine⟨?_,rfl⟩));exact⟨nx,_,o5,by go_num,by omega,HN.out⟩
      case measure=>simp[intOf];omega
    ·have JN:RsQ s.data.toList w wr o u5 (q+1) ts:=by
      refine⟨J.row,by omega,?_,J.stp⟩;have h1:=J.run;rw[hda,lexL_yes (k:=0) (by exact hb),lexL_blank _ [] _ (q+1)] at h1;exact h1
     have HN:=Lib.hid JN;clear J JN hda;go_wp2_with (go_at_call 62;refine(blk_r _ _ hbq).mono ?_;rw[hb];rintro e w1 ⟨rfl,rfl⟩);go_roundw
     case rel=>(try ((repeat apply Exists.intro);refine⟨?_,rfl⟩));exact⟨q+1,ts,o,by go_num,by omega,HN.out⟩
     case measure=>simp[intOf];omega
   ·obtain rfl:q=s.size:=by omega
    have hps:ts.length<=2001:=by omega
    have HJ:=Lib.hid J;have R3':=J.row.step (allocStep (fun _=>False) wr o (.cells #[.int .i64 0,.int .i64 0,.string ⟨#[]⟩,.int .i64 (s.size:Nat)] 73)) (by simp);clear J;go_wp2_with (first|(at_builtin;refine wpList_append_lab rfl (.tmp 39) (.tmp 43) 65 rfl 73 ii (.agg #[.int .i64 0,.int .i64 0,.string ⟨#[]⟩,.int .i64 0]) 4 40 Tryz.underlying65 hii hz0 hz1 hz2 rfl (by decide) o 4 _ ts.length (tcells ts) rfl R3' ⟨wr.heap.size,0,none⟩ 1 1 [.int .i64 0,.int .i64 0,.string ⟨#[]⟩,.int .i64 (s.size:Nat)] rfl rfl ?d1 ?d2 (by decide) ?d3 ?d4 ?_)|go_in)
    case d1=>exact new_four_at (by simp) _ _ _ _ _
    case d2=>intro u hu;simp at hu;rcases hu with rfl|rfl|rfl|rfl<;>rfl
    case d3=>unfold maxLen;omega
    case d4=>omega
    intro g5 cap5 w5 o5 R5 s5';have J:=HJ.out;have s5:Step (fun k=>k=4) wr o w5 o5:=(allocStep _ wr o _).trans s5';have S5:=J.stp.trans s5;have RN:lexA s.data.toList=.inr (ts++[⟨0,0,[],s.size⟩]):=by
     have:=J.run
     rw[List.drop_of_length_le (by rw[HL.out];exact Nat.le_refl _)] at this;rw[<-this];exact preR_inr _ _
    have RR:Row w5 o5 4 73 4 (.slice (some ⟨g5,0,none⟩) (ts.length+1) cap5) (ts++[Tk.mk 0 0 [] s.size]).length (tcells (ts++[Tk.mk 0 0 [] s.size])):=by
     rw[tcells_more,List.length_append];exact R5
    have OR:=RR.fresh S5;have hbe:=I44_below S5;have HN:=Lib.hid RN;clear R3' R5 s5' RR J s5 RN S5;go_wp2;go_ret3;exact⟨_,_,_,rfl,Or.inr ⟨_,HF.out.trans HN.out,rfl,rfl,OR⟩,hbe⟩
set_option linter.unusedSimpArgs false
theorem drew_at (w:World)(k:Nat):w.drew.heap[k]?=w.heap[k]?:=rfl
theorem cf_cells {wx:World}{bq er a:Nat}(hw:wx.heap[bq]?=some (.cells #[.int .i64 (er:Nat),.int .i64 (a:Nat)] 129)):wx.cell? ⟨bq,0,none⟩=some (.int .i64 (er:Nat))/\wx.cell? ⟨bq,1,none⟩=some (.int .i64 (a:Nat)):=by
 obtain⟨y0,y1,-⟩:=Blk.cells2 (o:=fun _=>0) (i:=0) ⟨hw,rfl⟩;exact⟨y0,y1⟩
section
variable {w w1:World}{B bq er a:Nat}{v0 v1 v2 v3 v4 ve va:Value}
theorem cf7 (R1:w1.heap[bq]?=some (.cells #[.int .i64 (er:Nat),.int .i64 (a:Nat)] 129))(hB:B+2<bq):((World.setCell (World.setCell (World.setCell (World.setCell (World.setCell (World.setCell (World.setCell w1 ⟨B,0,none⟩ (.int .i64 0)) ⟨B,1,none⟩ (.int .i64 0)) ⟨B,2,none⟩ (.string ⟨#[]⟩)) ⟨B,3,none⟩ (.slice none 0 0)) ⟨B,4,none⟩ (.int .i64 0)) ⟨B+1,0,none⟩ (.int .i64 (er:Nat))) ⟨B+2,0,none⟩ (.int .i64 (a:Nat)))).drew.cell? ⟨bq,0,none⟩=some (.int .i64 (er:Nat))/\((World.setCell (World.setCell (World.setCell (World.setCell (World.setCell (World.setCell (World.setCell w1 ⟨B,0,none⟩ (.int .i64 0)) ⟨B,1,none⟩ (.int .i64 0)) ⟨B,2,none⟩ (.string ⟨#[]⟩)) ⟨B,3,none⟩ (.slice none 0 0)) ⟨B,4,none⟩ (.int .i64 0)) ⟨B+1,0,none⟩ (.int .i64 (er:Nat))) ⟨B+2,0,none⟩ (.int .i64 (a:Nat)))).drew.cell? ⟨bq,1,none⟩=some (.int .i64 (a:Nat)):=cf_cells (wx:=((World.setCell (World.setCell (World.setCell (World.setCell (World.setCell (World.setCell (World.setCell w1 ⟨B,0,none⟩ (.int .i64 0)) ⟨B,1,none⟩ (.int .i64 0)) ⟨B,2,none⟩ (.string ⟨#[]⟩)) ⟨B,3,none⟩ (.slice none 0 0)) ⟨B,4,none⟩ (.int .i64 0)) ⟨B+1,0,none⟩ (.int .i64 (er:Nat))) ⟨B+2,0,none⟩ (.int .i64 (a:Nat)))).drew) ((drew_at _ bq).trans ((heap_setCell_other (World.setCell (World.setCell (World.setCell (World.setCell (World.setCell (World.setCell w1 ⟨B,0,none⟩ (.int .i64 0)) ⟨B,1,none⟩ (.int .i64 0)) ⟨B,2,none⟩ (.string ⟨#[]⟩)) ⟨B,3,none⟩ (.slice none 0 0)) ⟨B,4,none⟩ (.int .i64 0)) ⟨B+1,0,none⟩ (.int .i64 (er:Nat))) ⟨B+2,0,none⟩ bq (.int .i64 (a:Nat)) (show bq≠B+2 by omega)).trans ((heap_setCell_other (World.setCell (World.setCell (World.setCell (World.setCell (World.setCell w1 ⟨B,0,none⟩ (.int .i64 0)) ⟨B,1,none⟩ (.int .i64 0)) ⟨B,2,none⟩ (.string ⟨#[]⟩)) ⟨B,3,none⟩ (.slice none 0 0)) ⟨B,4,none⟩ (.int .i64 0)) ⟨B+1,0,none⟩ bq (.int .i64 (er:Nat)) (show bq≠B+1 by omega)).trans ((heap_set5 w1 B bq (.int .i64 0) (.int .i64 0) (.string ⟨#[]⟩) (.slice none 0 0) (.int .i64 0) (by omega)).trans R1))))
end
def PostR (w:World)(res:Rs Ex)(e:Ending)(w':World):Prop :=
 match res with
 | ⟨none⟩=>False
 | ⟨some (.inl (er,a))⟩=>e=.returned (.tuple #[exV noEx none 0,.int .i64 (er:Nat),.int .i64 (a:Nat)])/\Below w.heap.size w w'
 | ⟨some (.inr (x,_))⟩=>∃ao cap,e=.returned (.tuple #[exV x ao cap,.int .i64 0,.int .i64 0])/\Sl w' (Nw w.heap.size) x.kids ao/\Below w.heap.size w w'
end Go.Proofs.YtbjdkekhnajafaaGreatDoor

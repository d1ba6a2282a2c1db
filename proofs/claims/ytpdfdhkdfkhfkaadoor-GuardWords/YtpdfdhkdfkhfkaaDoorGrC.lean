import Derived.Test.YtpdfdhkdfkhfkaaDoorGbS
set_option maxRecDepth 100000
set_option maxHeartbeats 8000000
namespace Go.Proofs.YtpdfdhkdfkhfkaaDoor
open Go.ChangeShapes Go.WideShapes Go.ChangeAt Go.RowKit
set_option linter.unusedVariables false
set_option linter.unusedSimpArgs false
def moreI (o:Nat):Int:=if 20<=o/\o<=23 then 1 else if o=25 then -1 else 0
abbrev sV (l:List Nat)(r:Nat)(k d:Bool):Value:=.agg #[.string (bs l),.int .i64 (r:Nat),.bool k,.bool d]
def wrdV (p q:List Nat)(m:Int)(f:Bool):Value:=.tuple #[.string (bs p),.string (bs q),.int .i64 m,.bool f]
def PostWd (w:World)(p q:List Nat)(m:Int)(f:Bool)(e:Ending)(w':World):Prop:=e=.returned (wrdV p q m f)/\Below w.heap.size w w'
theorem bdG {w w1:World}(h:Below w.heap.size w w1){w2:World}(k:Below w1.heap.size w1 w2):Below w.heap.size w w2:=h.trans (k.mono h.size)
theorem txt_of {w:World}{o:Nat->Nat}{n:Nat}{v:Value}(h:Row w o 1 5 1 v n (List.replicate n (.int .u8 3))) :
  ∃ao cap,v=.slice ao n cap/\∀ w',Below w.heap.size w w'->(convert 103 9 (.slice ao n cap)).run Tryd.prog w'=.ok (.string (bs (List.replicate n 3))) w':=by
 by_cases hn:0<n
 ·obtain⟨g,cap,rfl,-,-,-,hlt,hc,-⟩:=h.pos hn;refine⟨_,cap,rfl,fun w' B=>?_⟩;have hlen:((List.replicate n 3).map UInt8.ofNat).length=n:=by simp
  have:=run_convert_bytes_back (P:=Tryd.prog) w' 103 9 5 ⟨g,0,none⟩ cap ((List.replicate n 3).map UInt8.ofNat) Tryd.underlying103 Tryd.underlying5 Tryd.underlying9
   (fun j hj=>by
    rw[Addr.add_mid,Nat.zero_add,B.cell (p:=⟨g,j,none⟩) hlt,hc j (by rw[hlen] at hj;omega)];have hj':j<n:=by rw[hlen] at hj;exact hj
    simp[List.getElem?_replicate,hj'])
  rw[hlen] at this;exact this
 ·obtain rfl:n=0:=by omega
  obtain⟨ao,cap,rfl⟩:=h.form;refine⟨ao,cap,rfl,fun w' B=>?_⟩;cases ao with
  | none=>exact run_convert_bytes_nil w' 103 5 Tryd.underlying103 Tryd.underlying5 _ _ 9 Tryd.underlying9
  | some a=>exact run_convert_bytes_back w' 103 9 5 a cap [] Tryd.underlying103 Tryd.underlying5 Tryd.underlying9 (fun j hj=>by simp at hj)
theorem rounds_c (c:Cd)(s:St)(kn dn:Bool)(o a b:Nat)(w:World)(ho:o<28)(ha:a<=268435456)(hr:s.2<=4)(h:o=0\/o=13\/o=17\/o=19\/(20<=o/\o<=25))(h23:o=23->a<=1024) :
  Calls Tryd.prog 49 #[sV s.1 s.2 kn dn,.int .i64 (o:Nat),.int .i64 (a:Nat)] w (PostWd w (effE c o a b).1 (effE c o a b).2 (moreI o) (fitE o a s.2)):=by
 obtain⟨l,r⟩:=s;simp only at hr ⊢;unfold sV;obtain⟨sb,hsb⟩:∃sb,sb=bs l:=⟨_,rfl⟩
 rw[<-hsb];clear hsb;have CC:=fun wx=>code_c 3 wx (by omega);have e3:((3:Nat):Int)=3:=rfl;rw[e3] at CC;obtain⟨w1,hw1⟩:∃w1,w1=w.alloc (.cells #[.string sb,.int .i64 (r:Nat),.bool kn,.bool dn] 51):=⟨_,rfl⟩
 have B1:Below w.heap.size w w1:=by rw[hw1];exact bG _ _
 obtain⟨g,hg⟩:∃g,g=w.heap.size:=⟨_,rfl⟩
 have hlt1:g<w1.heap.size:=by rw[hw1,hg];simp
 have hc1:w1.cell? ⟨g,1,none⟩=some (.int .i64 (r:Nat)):=by rw[hw1,hg,cell_of_row _ _ _ _ _ _ (h1G w _)];rfl
 have HB:Hid (∀ w2 m,Below w1.heap.size w1 w2->w2.cell? ⟨g,1,none⟩=some (.int .i64 (r:Nat))/\Below w.heap.size w w2/\Below w.heap.size w w2.drew/\Below w.heap.size w (w2.drewN m)):=fun w2 m B =>
  ⟨(B.cell (p:=⟨g,1,none⟩) hlt1).trans hc1,bdG B1 B,(bdG B1 B).drew,bd_drewN (bdG B1 B) m⟩
 have HG:=Lib.hid hg;clear hg hc1 B1;obtain rfl|rfl|rfl|rfl|h:=h
 case inr.inr.inr.inr =>
  obtain⟨h1,h2⟩:=h;by_cases hq:o=23
  ·subst hq;have ha2:=h23 rfl;obtain⟨i0,hi,hz0,hz1,hz2⟩:=info_parts infoU8;have hf:fitE 23 a r=decide ((r:Int)<4):=by
    unfold fitE;simp;omega
   have hP:Hid (∀ w',Below w.heap.size w w'->∀ t,t=bs (List.replicate a 3)->PostWd w (effE (b:=b) c 23 a).1 (effE c 23 a b).2 (moreI 23) (fitE 23 a r) (.returned (.tuple #[.string t,.string ⟨#[]⟩,.int .i64 1,.bool (decide ((r:Int)<4))])) w'):=fun w' B t ht=>by
    rw[ht,hf];exact⟨rfl,B⟩
   clear hf h23 h1 h2 ho;go_enter Tryd.func49,Tryd.ntmps49;go_upto_region 1 with fail;rw[<-hw1,<-HG.out];clear hw1;go_upto_region 11 with (first|(go_at_call 47;refine(CC _).mono ?_;rintro e w2 ⟨rfl,B2⟩))
   obtain⟨u3,hu3⟩:∃u3,u3=bs [3]:=⟨_,rfl⟩
   rw[<-hu3];clear hu3;obtain⟨-,hlt2⟩:True/\g<w2.heap.size:=⟨trivial,by have:=B2.size;omega⟩
   go_loopw [11,12] (fun v11 v12 wr=>∃(k:Nat) (oo:Nat->Nat),v12=.int .i64 (k:Nat)/\k<=a/\Row wr oo 1 5 1 v11 k (List.replicate k (.int .u8 3))/\Step (fun k=>k=1) w2 (fun _=>0) wr oo) (fun _ v _=>a-(intOf v).toNat)
   case atStart=>exact⟨0,fun _=>0,by go_num,by omega,Row.nil _ _ _ _ _,Step.refl _ _ _⟩
   case round =>
    obtain⟨k,oo,rfl,hk,R,S⟩:=hrel;have BW:=S.below (fun _ _=>by decide);by_cases hlt:k<a
    ·have hkI:(k:Int)<(a:Int):=by omega
     go_wp2_with (first|(at_builtin;refine wpList_append_lab rfl _ _ 103 rfl 5 i0 (.int .u8 0) 1 1 Tryd.underlying103 hi hz0 hz1 hz2 rfl (by decide) oo 1 _ k _ rfl (R.step (Step.ofBelow (I:=fun _=>False) oo (b1 _ _)) (fun h=>h)) ⟨wr.heap.size,0,none⟩ 1 1 [.int .u8 3] rfl rfl ?c1 ?c2 (by decide) ?c4 ?c5 ?_)|go_in)
     case c1=>exact one_new _ _
     case c2=>exact one_cell _ _
     case c4=>unfold maxLen;omega
     case c5=>omega
     intro g2 cap2 w3 o3 R3 S3;have R4:Row w3 o3 1 5 1 (.slice (some ⟨g2,0,none⟩) (k+1) cap2) (k+1) (List.replicate (k+1) (.int .u8 3)):=by
      rw[List.replicate_succ'];exact R3
     have S4:=(S.trans (Step.ofBelow (I:=fun k=>k=1) oo (b1 wr (.cells #[.int .u8 3] 5)))).trans S3;clear R3 S3 R S BW;go_wp2;go_roundw
     case rel=>(try ((repeat apply Exists.intro);refine⟨?_,rfl⟩));exact⟨k+1,o3,by go_num,by omega,R4,S4⟩
     case measure=>simp[intOf];omega
    ·obtain rfl:k=a:=by omega
     have hkI:¬(k:Int)<(k:Int):=by omega
     obtain⟨ao,cap,rfl,hcv⟩:=txt_of R;have hcd:=hcv wr.drew ((Below.refl _ wr).drew);have hc0:=hcv wr (Below.refl _ wr);obtain⟨c1,b1',b2',b3'⟩:=HB.out wr 0 (bdG B2 BW);obtain⟨t,ht⟩:∃t,t=bs (List.replicate k 3):=⟨_,rfl⟩
     rw[<-ht] at hcd hc0;have HT:=Lib.hid ht;have HBd:=Lib.hid b2';clear ht R S BW b1' b3' HB hcv CC B2;go_wp2_with fail;go_region;go_wp2;exact bodyPost_ret (v:=.tuple #[.string t,.string ⟨#[]⟩,.int .i64 1,.bool (decide ((r:Int)<4))]) (by simp[results,Tryd.results49,go_sem]) rfl (hP.out _ HBd.out t HT.out)
  ·-- other words
   have hc:o=20\/o=21\/o=22\/o=24\/o=25:=by omega
   clear h1 h2 ho hq;obtain rfl|rfl|rfl|rfl|rfl:=hc
   ·have hf:fitE 20 a r=decide ((r:Int)<4):=by
     unfold fitE;simp;omega
    have hP:Hid (∀ w',Below w.heap.size w w'->∀ t,t=bs [3]->PostWd w (effE (b:=b) c 20 a).1 (effE c 20 a b).2 (moreI 20) (fitE 20 a r) (.returned (.tuple #[.string ⟨#[]⟩,.string ⟨#[]⟩,.int .i64 1,.bool (decide ((r:Int)<4))])) w'):=fun w' B t ht=>by
     rw[hf];exact⟨rfl,B⟩
    clear hf h23;go_enter Tryd.func49,Tryd.ntmps49;go_upto_region 1 with fail;rw[<-hw1,<-HG.out];clear hw1;go_upto_region 5 with (first|(go_at_call 47;refine(CC _).mono ?_;rintro e w2 ⟨rfl,B2⟩))
    obtain⟨u3,hu3⟩:∃u3,u3=bs [3]:=⟨_,rfl⟩
    rw[<-hu3];obtain⟨c1,b1',b2',b3'⟩:=HB.out w2 0 B2;have HBd:=Lib.hid b2';have HU:=Lib.hid hu3;clear hu3 b1' b2' b3' HB CC B2;go_region;go_wp2;exact bodyPost_ret (v:=.tuple #[.string ⟨#[]⟩,.string ⟨#[]⟩,.int .i64 1,.bool (decide ((r:Int)<4))]) (by simp[results,Tryd.results49,go_sem]) rfl (hP.out _ HBd.out u3 HU.out)
   ·have hf:fitE 21 a r=decide ((r:Int)<4):=by
     unfold fitE;simp;omega
    have hP:Hid (∀ w',Below w.heap.size w w'->∀ t,t=bs [3]->PostWd w (effE (b:=b) c 21 a).1 (effE c 21 a b).2 (moreI 21) (fitE 21 a r) (.returned (.tuple #[.string ⟨#[]⟩,.string ⟨#[]⟩,.int .i64 1,.bool (decide ((r:Int)<4))])) w'):=fun w' B t ht=>by
     rw[hf];exact⟨rfl,B⟩
    clear hf h23;go_enter Tryd.func49,Tryd.ntmps49;go_upto_region 1 with fail;rw[<-hw1,<-HG.out];clear hw1;go_upto_region 5 with (first|(go_at_call 47;refine(CC _).mono ?_;rintro e w2 ⟨rfl,B2⟩))
    obtain⟨u3,hu3⟩:∃u3,u3=bs [3]:=⟨_,rfl⟩
    rw[<-hu3];obtain⟨c1,b1',b2',b3'⟩:=HB.out w2 0 B2;have HBd:=Lib.hid b2';have HU:=Lib.hid hu3;clear hu3 b1' b2' b3' HB CC B2;go_region;go_wp2;exact bodyPost_ret (v:=.tuple #[.string ⟨#[]⟩,.string ⟨#[]⟩,.int .i64 1,.bool (decide ((r:Int)<4))]) (by simp[results,Tryd.results49,go_sem]) rfl (hP.out _ HBd.out u3 HU.out)
   ·have hf:fitE 22 a r=decide ((r:Int)<4):=by
     unfold fitE;simp;omega
    have hP:Hid (∀ w',Below w.heap.size w w'->∀ t,t=bs [3]->PostWd w (effE (b:=b) c 22 a).1 (effE c 22 a b).2 (moreI 22) (fitE 22 a r) (.returned (.tuple #[.string t,.string ⟨#[]⟩,.int .i64 1,.bool (decide ((r:Int)<4))])) w'):=fun w' B t ht=>by
     rw[hf];rw[ht];exact⟨rfl,B⟩
    clear hf h23;go_enter Tryd.func49,Tryd.ntmps49;go_upto_region 1 with fail;rw[<-hw1,<-HG.out];clear hw1;go_upto_region 7 with (first|(go_at_call 47;refine(CC _).mono ?_;rintro e w2 ⟨rfl,B2⟩))
    obtain⟨u3,hu3⟩:∃u3,u3=bs [3]:=⟨_,rfl⟩
    rw[<-hu3];obtain⟨c1,b1',b2',b3'⟩:=HB.out w2 0 B2;have HBd:=Lib.hid b2';have HU:=Lib.hid hu3;clear hu3 b1' b2' b3' HB CC B2;go_region;go_wp2;exact bodyPost_ret (v:=.tuple #[.string u3,.string ⟨#[]⟩,.int .i64 1,.bool (decide ((r:Int)<4))]) (by simp[results,Tryd.results49,go_sem]) rfl (hP.out _ HBd.out u3 HU.out)
   ·have hf:fitE 24 a r=decide (0<(r:Int)):=by
     unfold fitE;simp
    have hP:Hid (∀ w',Below w.heap.size w w'->∀ t,t=bs [3]->PostWd w (effE (b:=b) c 24 a).1 (effE c 24 a b).2 (moreI 24) (fitE 24 a r) (.returned (.tuple #[.string ⟨#[]⟩,.string ⟨#[]⟩,.int .i64 0,.bool (decide (0<(r:Int)))])) w'):=fun w' B t ht=>by
     rw[hf];exact⟨rfl,B⟩
    clear hf h23;go_enter Tryd.func49,Tryd.ntmps49;go_upto_region 1 with fail;rw[<-hw1,<-HG.out];clear hw1;go_upto_region 16 with (first|(go_at_call 47;refine(CC _).mono ?_;rintro e w2 ⟨rfl,B2⟩))
    obtain⟨u3,hu3⟩:∃u3,u3=bs [3]:=⟨_,rfl⟩
    rw[<-hu3];obtain⟨c1,b1',b2',b3'⟩:=HB.out w2 0 B2;have HBd:=Lib.hid b2';have HU:=Lib.hid hu3;clear hu3 b1' b2' b3' HB CC B2;go_region;go_wp2;exact bodyPost_ret (v:=.tuple #[.string ⟨#[]⟩,.string ⟨#[]⟩,.int .i64 0,.bool (decide (0<(r:Int)))]) (by simp[results,Tryd.results49,go_sem]) rfl (hP.out _ HBd.out u3 HU.out)
   ·have hf:fitE 25 a r=decide (0<(r:Int)):=by
     unfold fitE;simp
    have hP:Hid (∀ w',Below w.heap.size w w'->∀ t,t=bs [3]->PostWd w (effE (b:=b) c 25 a).1 (effE c 25 a b).2 (moreI 25) (fitE 25 a r) (.returned (.tuple #[.string ⟨#[]⟩,.string ⟨#[]⟩,.int .i64 (-1),.bool (decide (0<(r:Int)))])) w'):=fun w' B t ht=>by
     rw[hf];exact⟨rfl,B⟩
    clear hf h23;go_enter Tryd.func49,Tryd.ntmps49;go_upto_region 1 with fail;rw[<-hw1,<-HG.out];clear hw1;go_upto_region 18 with (first|(go_at_call 47;refine(CC _).mono ?_;rintro e w2 ⟨rfl,B2⟩))
    obtain⟨u3,hu3⟩:∃u3,u3=bs [3]:=⟨_,rfl⟩
    rw[<-hu3];obtain⟨c1,b1',b2',b3'⟩:=HB.out w2 0 B2;have HBd:=Lib.hid b2';have HU:=Lib.hid hu3;clear hu3 b1' b2' b3' HB CC B2;go_region;go_wp2;exact bodyPost_ret (v:=.tuple #[.string ⟨#[]⟩,.string ⟨#[]⟩,.int .i64 (-1),.bool (decide (0<(r:Int)))]) (by simp[results,Tryd.results49,go_sem]) rfl (hP.out _ HBd.out u3 HU.out)
 ·have hf:fitE 0 a r=true:=rfl;have hP:Hid (∀ w',Below w.heap.size w w'->∀ t,t=bs [3]->PostWd w (effE (b:=b) c 0 a).1 (effE c 0 a b).2 (moreI 0) (fitE 0 a r) (.returned (.tuple #[.string ⟨#[]⟩,.string ⟨#[]⟩,.int .i64 0,.bool true])) w'):=fun w' B t ht=>by
   rw[hf];exact⟨rfl,B⟩
  clear hf h23;go_enter Tryd.func49,Tryd.ntmps49;go_upto_region 1 with fail;rw[<-hw1,<-HG.out];clear hw1;go_wp2_with (first|(go_at_call 47;refine(CC _).mono ?_;rintro e w2 ⟨rfl,B2⟩;obtain⟨c1,b1',b2',b3'⟩:=HB.out w2 0 B2;have HBd:=Lib.hid b1';clear b1' b2' b3'));exact bodyPost_ret (v:=.tuple #[.string ⟨#[]⟩,.string ⟨#[]⟩,.int .i64 0,.bool true]) (by simp[results,Tryd.results49,go_sem]) rfl (hP.out _ HBd.out _ rfl)
 ·have hf:fitE 13 a r=true:=rfl;have hP:Hid (∀ w',Below w.heap.size w w'->∀ t,t=bs [3]->PostWd w (effE (b:=b) c 13 a).1 (effE c 13 a b).2 (moreI 13) (fitE 13 a r) (.returned (.tuple #[.string ⟨#[]⟩,.string ⟨#[]⟩,.int .i64 0,.bool true])) w'):=fun w' B t ht=>by
   rw[hf];exact⟨rfl,B⟩
  clear hf h23;go_enter Tryd.func49,Tryd.ntmps49;go_upto_region 1 with fail;rw[<-hw1,<-HG.out];clear hw1;go_wp2_with (first|(go_at_call 47;refine(CC _).mono ?_;rintro e w2 ⟨rfl,B2⟩;obtain⟨c1,b1',b2',b3'⟩:=HB.out w2 0 B2;have HBd:=Lib.hid b1';clear b1' b2' b3'));exact bodyPost_ret (v:=.tuple #[.string ⟨#[]⟩,.string ⟨#[]⟩,.int .i64 0,.bool true]) (by simp[results,Tryd.results49,go_sem]) rfl (hP.out _ HBd.out _ rfl)
 ·have hf:fitE 17 a r=true:=rfl;have hP:Hid (∀ w',Below w.heap.size w w'->∀ t,t=bs [3]->PostWd w (effE (b:=b) c 17 a).1 (effE c 17 a b).2 (moreI 17) (fitE 17 a r) (.returned (.tuple #[.string ⟨#[]⟩,.string ⟨#[]⟩,.int .i64 0,.bool true])) w'):=fun w' B t ht=>by
   rw[hf];exact⟨rfl,B⟩
  clear hf h23;go_enter Tryd.func49,Tryd.ntmps49;go_upto_region 1 with fail;rw[<-hw1,<-HG.out];clear hw1;go_wp2_with (first|(go_at_call 47;refine(CC _).mono ?_;rintro e w2 ⟨rfl,B2⟩;obtain⟨c1,b1',b2',b3'⟩:=HB.out w2 0 B2;have HBd:=Lib.hid b1';clear b1' b2' b3'));exact bodyPost_ret (v:=.tuple #[.string ⟨#[]⟩,.string ⟨#[]⟩,.int .i64 0,.bool true]) (by simp[results,Tryd.results49,go_sem]) rfl (hP.out _ HBd.out _ rfl)
 ·have hf:fitE 19 a r=true:=rfl;have hP:Hid (∀ w',Below w.heap.size w w'->∀ t,t=bs [3]->PostWd w (effE (b:=b) c 19 a).1 (effE c 19 a b).2 (moreI 19) (fitE 19 a r) (.returned (.tuple #[.string ⟨#[]⟩,.string ⟨#[]⟩,.int .i64 0,.bool true])) w'):=fun w' B t ht=>by
   rw[hf];exact⟨rfl,B⟩
  clear hf h23;go_enter Tryd.func49,Tryd.ntmps49;go_upto_region 1 with fail;rw[<-hw1,<-HG.out];clear hw1;go_wp2_with (first|(go_at_call 47;refine(CC _).mono ?_;rintro e w2 ⟨rfl,B2⟩;obtain⟨c1,b1',b2',b3'⟩:=HB.out w2 0 B2;have HBd:=Lib.hid b1';clear b1' b2' b3'));exact bodyPost_ret (v:=.tuple #[.string ⟨#[]⟩,.string ⟨#[]⟩,.int .i64 0,.bool true]) (by simp[results,Tryd.results49,go_sem]) rfl (hP.out _ HBd.out _ rfl)
end Go.Proofs.YtpdfdhkdfkhfkaaDoor

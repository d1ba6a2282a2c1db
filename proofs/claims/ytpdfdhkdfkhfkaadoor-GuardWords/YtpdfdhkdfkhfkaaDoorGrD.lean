import Derived.Test.YtpdfdhkdfkhfkaaDoorGrC
set_option maxRecDepth 100000
set_option maxHeartbeats 8000000
namespace Go.Proofs.YtpdfdhkdfkhfkaaDoor
open Go.ChangeShapes Go.WideShapes Go.ChangeAt Go.RowKit
set_option linter.unusedVariables false
set_option linter.unusedSimpArgs false
theorem call_eff {a:Nat}(h:1<=a/\a<=10):(callE a).1=(if a<=3 then [3,3] else [3])/\(callE a).2=[giveN a]:=by
 obtain⟨h1,h2⟩:=h
 match a,h1,h2 with
 | 1,_,_ | 2,_,_ | 3,_,_ | 4,_,_ | 5,_,_ | 6,_,_ | 7,_,_ | 8,_,_ | 9,_,_ | 10,_,_=>exact⟨rfl,rfl⟩
theorem giveN_lt (a:Nat):giveN a<256:=by
 unfold giveN
 repeat' split
 all_goals omega
theorem word_2 (w:World)(p:Pl)(c:Cd)(s:St)(kn dn:Bool)(a b:Nat)(ha:a<268435456)(hb:b<268435456)(hr:s.2<=4) :
  Calls Tryd.prog 32 #[cdV p c,sV s.1 s.2 kn dn,.int .i64 (2:Nat),.int .i64 (a:Nat),.int .i64 (b:Nat)] w (PostWd w (effE c 2 a b).1 (effE c 2 a b).2 (moreI 2) (fitE 2 a s.2)):=by
 obtain⟨l,r⟩:=s;simp only at hr ⊢;unfold sV;obtain⟨sb,hsb⟩:∃sb,sb=bs l:=⟨_,rfl⟩
 rw[<-hsb];have CC:=fun k hk wx=>code_c k wx hk;have C1:=CC 1 (by omega);have C2:=CC 2 (by omega);have C3:=CC 3 (by omega);rw[show ((1:Nat):Int)=1 from rfl] at C1;rw[show ((2:Nat):Int)=2 from rfl] at C2;rw[show ((3:Nat):Int)=3 from rfl] at C3;obtain⟨w1,hw1⟩:∃w1,w1=(w.alloc (.cells (cdA p c) 26)).alloc (.cells #[.string sb,.int .i64 (r:Nat),.bool kn,.bool dn] 51):=⟨_,rfl⟩
 have B1:Below w.heap.size w w1:=by rw[hw1];exact bG2 _ (bG _ _)
 obtain⟨g,hg⟩:∃g,g=w.heap.size:=⟨_,rfl⟩
 have hlt1:g+1<w1.heap.size:=by rw[hw1,hg];simp
 have hs1:w1.heap[g+1]?=some (.cells #[.string sb,.int .i64 (r:Nat),.bool kn,.bool dn] 51 (0,0)):=by rw[hw1,hg];exact hA2 _ _ _
 have hc1:w1.heap[g]?=some (.cells (cdA p c) 26 (0,0)):=by rw[hw1,hg];exact h2G _ _ _
 have HB:Hid (∀ w2 m,Below w1.heap.size w1 w2->((w2.cell? ⟨g+1,0,none⟩=some (.string sb)/\w2.cell? ⟨g+1,1,none⟩=some (.int .i64 (r:Nat))/\w2.cell? ⟨g+1,2,none⟩=some (.bool kn)/\w2.cell? ⟨g+1,3,none⟩=some (.bool dn))/\bx4 p c w2 g)/\Below w.heap.size w w2/\Below w.heap.size w w2.drew/\Below w.heap.size w (w2.drewN m)):=fun w2 m B =>
  ⟨⟨box4_cells ((B.block _ hlt1).trans hs1),box4_cells ((B.block _ (by omega)).trans hc1)⟩,bdG B1 B,(bdG B1 B).drew,bd_drewN (bdG B1 B) m⟩
 have HW:Hid (∀ w2,Below w1.heap.size w1 w2->Below w.heap.size w w2):=fun w2 B=>bdG B1 B;have HG:=Lib.hid hg;have HSB:=Lib.hid hsb;have n1:(bs [1]).size=1:=bs_size _;have n2:(bs [2]).size=1:=bs_size _;have n3:(bs [3]).size=1:=bs_size _;clear hg hs1 hc1 B1 hsb;have hP:Hid (∀ u1 u2 u3:ByteArray,u1=bs [1]->u2=bs [2]->u3=bs [3]->∀ w',Below w.heap.size w w'->PostWd w (effE c 2 a b).1 (effE c 2 a b).2 (moreI 2) (fitE 2 a r) (.returned (.tuple #[.string (⟨#[]⟩),.string (u3),.int .i64 0,.bool true])) w'):=fun u1 u2 u3 h1 h2 h3 w' B=>by
  subst h1 h2 h3;refine⟨?_,B⟩;exact congrArg Ending.returned (by first|rfl|(simp only[bs_app];rfl))
 go_enter Tryd.func32,Tryd.ntmps32;go_upto_region 1 with fail;rw[<-hw1,<-HG.out];clear hw1;go_upto_region 4 with (first|(go_at_call 47;refine(C1 _).mono ?_;rintro e w2 ⟨rfl,B2⟩;have C1:=True.intro)|(go_at_call 47;refine(C2 _).mono ?_;rintro e w3 ⟨rfl,B3⟩;have C2:=True.intro)|(go_at_call 47;refine(C3 _).mono ?_;rintro e w4 ⟨rfl,B4⟩;have C3:=True.intro))
 have B5:=bdG (bdG B2 B3) B4;clear C1 C2 C3 B2 B3 B4;obtain⟨u1,hu1⟩:∃u1,u1=bs [1]:=⟨_,rfl⟩
 obtain⟨u2,hu2⟩:∃u2,u2=bs [2]:=⟨_,rfl⟩
 obtain⟨u3,hu3⟩:∃u3,u3=bs [3]:=⟨_,rfl⟩
 rw[<-hu1,<-hu2,<-hu3];rw[<-hu1] at n1;rw[<-hu2] at n2;rw[<-hu3] at n3;have U1:=Lib.hid hu1;have U2:=Lib.hid hu2;have U3:=Lib.hid hu3;clear hu1 hu2 hu3;have z11:¬maxLen<u1.size+u1.size:=by unfold maxLen;omega
 have z12:¬maxLen<u1.size+u2.size:=by unfold maxLen;omega
 have z33:¬maxLen<u3.size+u3.size:=by unfold maxLen;omega
 have z121:¬maxLen<(u1++u2).size+u1.size:=by rw[ByteArray.size_append];unfold maxLen;omega
 have HBd:=Lib.hid (HW.out _ B5);clear HB B5;go_wp2;exact bodyPost_ret (v:=.tuple #[.string (⟨#[]⟩),.string (u3),.int .i64 0,.bool true]) (by simp[results,Tryd.results32,go_sem]) rfl (hP.out _ _ _ U1.out U2.out U3.out _ HBd.out)
theorem word_4 (w:World)(p:Pl)(c:Cd)(s:St)(kn dn:Bool)(a b:Nat)(ha:a<268435456)(hb:b<268435456)(hr:s.2<=4) :
  Calls Tryd.prog 32 #[cdV p c,sV s.1 s.2 kn dn,.int .i64 (4:Nat),.int .i64 (a:Nat),.int .i64 (b:Nat)] w (PostWd w (effE c 4 a b).1 (effE c 4 a b).2 (moreI 4) (fitE 4 a s.2)):=by
 obtain⟨l,r⟩:=s;simp only at hr ⊢;unfold sV;obtain⟨sb,hsb⟩:∃sb,sb=bs l:=⟨_,rfl⟩
 rw[<-hsb];have CC:=fun k hk wx=>code_c k wx hk;have C1:=CC 1 (by omega);have C2:=CC 2 (by omega);have C3:=CC 3 (by omega);rw[show ((1:Nat):Int)=1 from rfl] at C1;rw[show ((2:Nat):Int)=2 from rfl] at C2;rw[show ((3:Nat):Int)=3 from rfl] at C3;obtain⟨w1,hw1⟩:∃w1,w1=(w.alloc (.cells (cdA p c) 26)).alloc (.cells #[.string sb,.int .i64 (r:Nat),.bool kn,.bool dn] 51):=⟨_,rfl⟩
 have B1:Below w.heap.size w w1:=by rw[hw1];exact bG2 _ (bG _ _)
 obtain⟨g,hg⟩:∃g,g=w.heap.size:=⟨_,rfl⟩
 have hlt1:g+1<w1.heap.size:=by rw[hw1,hg];simp
 have hs1:w1.heap[g+1]?=some (.cells #[.string sb,.int .i64 (r:Nat),.bool kn,.bool dn] 51 (0,0)):=by rw[hw1,hg];exact hA2 _ _ _
 have hc1:w1.heap[g]?=some (.cells (cdA p c) 26 (0,0)):=by rw[hw1,hg];exact h2G _ _ _
 have HB:Hid (∀ w2 m,Below w1.heap.size w1 w2->((w2.cell? ⟨g+1,0,none⟩=some (.string sb)/\w2.cell? ⟨g+1,1,none⟩=some (.int .i64 (r:Nat))/\w2.cell? ⟨g+1,2,none⟩=some (.bool kn)/\w2.cell? ⟨g+1,3,none⟩=some (.bool dn))/\bx4 p c w2 g)/\Below w.heap.size w w2/\Below w.heap.size w w2.drew/\Below w.heap.size w (w2.drewN m)):=fun w2 m B =>
  ⟨⟨box4_cells ((B.block _ hlt1).trans hs1),box4_cells ((B.block _ (by omega)).trans hc1)⟩,bdG B1 B,(bdG B1 B).drew,bd_drewN (bdG B1 B) m⟩
 have HW:Hid (∀ w2,Below w1.heap.size w1 w2->Below w.heap.size w w2):=fun w2 B=>bdG B1 B;have HG:=Lib.hid hg;have HSB:=Lib.hid hsb;have n1:(bs [1]).size=1:=bs_size _;have n2:(bs [2]).size=1:=bs_size _;have n3:(bs [3]).size=1:=bs_size _;clear hg hs1 hc1 B1 hsb;have hP:Hid (∀ u1 u2 u3:ByteArray,u1=bs [1]->u2=bs [2]->u3=bs [3]->∀ w',Below w.heap.size w w'->PostWd w (effE c 4 a b).1 (effE c 4 a b).2 (moreI 4) (fitE 4 a r) (.returned (.tuple #[.string (u1),.string (u1),.int .i64 0,.bool true])) w'):=fun u1 u2 u3 h1 h2 h3 w' B=>by
  subst h1 h2 h3;refine⟨?_,B⟩;exact congrArg Ending.returned (by first|rfl|(simp only[bs_app];rfl))
 go_enter Tryd.func32,Tryd.ntmps32;go_upto_region 1 with fail;rw[<-hw1,<-HG.out];clear hw1;go_upto_region 4 with (first|(go_at_call 47;refine(C1 _).mono ?_;rintro e w2 ⟨rfl,B2⟩;have C1:=True.intro)|(go_at_call 47;refine(C2 _).mono ?_;rintro e w3 ⟨rfl,B3⟩;have C2:=True.intro)|(go_at_call 47;refine(C3 _).mono ?_;rintro e w4 ⟨rfl,B4⟩;have C3:=True.intro))
 have B5:=bdG (bdG B2 B3) B4;clear C1 C2 C3 B2 B3 B4;obtain⟨u1,hu1⟩:∃u1,u1=bs [1]:=⟨_,rfl⟩
 obtain⟨u2,hu2⟩:∃u2,u2=bs [2]:=⟨_,rfl⟩
 obtain⟨u3,hu3⟩:∃u3,u3=bs [3]:=⟨_,rfl⟩
 rw[<-hu1,<-hu2,<-hu3];rw[<-hu1] at n1;rw[<-hu2] at n2;rw[<-hu3] at n3;have U1:=Lib.hid hu1;have U2:=Lib.hid hu2;have U3:=Lib.hid hu3;clear hu1 hu2 hu3;have z11:¬maxLen<u1.size+u1.size:=by unfold maxLen;omega
 have z12:¬maxLen<u1.size+u2.size:=by unfold maxLen;omega
 have z33:¬maxLen<u3.size+u3.size:=by unfold maxLen;omega
 have z121:¬maxLen<(u1++u2).size+u1.size:=by rw[ByteArray.size_append];unfold maxLen;omega
 have HBd:=Lib.hid (HW.out _ B5);clear HB B5;go_wp2;exact bodyPost_ret (v:=.tuple #[.string (u1),.string (u1),.int .i64 0,.bool true]) (by simp[results,Tryd.results32,go_sem]) rfl (hP.out _ _ _ U1.out U2.out U3.out _ HBd.out)
theorem word_5 (w:World)(p:Pl)(c:Cd)(s:St)(kn dn:Bool)(a b:Nat)(ha:a<268435456)(hb:b<268435456)(hr:s.2<=4) :
  Calls Tryd.prog 32 #[cdV p c,sV s.1 s.2 kn dn,.int .i64 (5:Nat),.int .i64 (a:Nat),.int .i64 (b:Nat)] w (PostWd w (effE c 5 a b).1 (effE c 5 a b).2 (moreI 5) (fitE 5 a s.2)):=by
 obtain⟨l,r⟩:=s;simp only at hr ⊢;unfold sV;obtain⟨sb,hsb⟩:∃sb,sb=bs l:=⟨_,rfl⟩
 rw[<-hsb];have CC:=fun k hk wx=>code_c k wx hk;have C1:=CC 1 (by omega);have C2:=CC 2 (by omega);have C3:=CC 3 (by omega);rw[show ((1:Nat):Int)=1 from rfl] at C1;rw[show ((2:Nat):Int)=2 from rfl] at C2;rw[show ((3:Nat):Int)=3 from rfl] at C3;obtain⟨w1,hw1⟩:∃w1,w1=(w.alloc (.cells (cdA p c) 26)).alloc (.cells #[.string sb,.int .i64 (r:Nat),.bool kn,.bool dn] 51):=⟨_,rfl⟩
 have B1:Below w.heap.size w w1:=by rw[hw1];exact bG2 _ (bG _ _)
 obtain⟨g,hg⟩:∃g,g=w.heap.size:=⟨_,rfl⟩
 have hlt1:g+1<w1.heap.size:=by rw[hw1,hg];simp
 have hs1:w1.heap[g+1]?=some (.cells #[.string sb,.int .i64 (r:Nat),.bool kn,.bool dn] 51 (0,0)):=by rw[hw1,hg];exact hA2 _ _ _
 have hc1:w1.heap[g]?=some (.cells (cdA p c) 26 (0,0)):=by rw[hw1,hg];exact h2G _ _ _
 have HB:Hid (∀ w2 m,Below w1.heap.size w1 w2->((w2.cell? ⟨g+1,0,none⟩=some (.string sb)/\w2.cell? ⟨g+1,1,none⟩=some (.int .i64 (r:Nat))/\w2.cell? ⟨g+1,2,none⟩=some (.bool kn)/\w2.cell? ⟨g+1,3,none⟩=some (.bool dn))/\bx4 p c w2 g)/\Below w.heap.size w w2/\Below w.heap.size w w2.drew/\Below w.heap.size w (w2.drewN m)):=fun w2 m B =>
  ⟨⟨box4_cells ((B.block _ hlt1).trans hs1),box4_cells ((B.block _ (by omega)).trans hc1)⟩,bdG B1 B,(bdG B1 B).drew,bd_drewN (bdG B1 B) m⟩
 have HW:Hid (∀ w2,Below w1.heap.size w1 w2->Below w.heap.size w w2):=fun w2 B=>bdG B1 B;have HG:=Lib.hid hg;have HSB:=Lib.hid hsb;have n1:(bs [1]).size=1:=bs_size _;have n2:(bs [2]).size=1:=bs_size _;have n3:(bs [3]).size=1:=bs_size _;clear hg hs1 hc1 B1 hsb;have hP:Hid (∀ u1 u2 u3:ByteArray,u1=bs [1]->u2=bs [2]->u3=bs [3]->∀ w',Below w.heap.size w w'->PostWd w (effE c 5 a b).1 (effE c 5 a b).2 (moreI 5) (fitE 5 a r) (.returned (.tuple #[.string (u2),.string (u2),.int .i64 0,.bool true])) w'):=fun u1 u2 u3 h1 h2 h3 w' B=>by
  subst h1 h2 h3;refine⟨?_,B⟩;exact congrArg Ending.returned (by first|rfl|(simp only[bs_app];rfl))
 go_enter Tryd.func32,Tryd.ntmps32;go_upto_region 1 with fail;rw[<-hw1,<-HG.out];clear hw1;go_upto_region 4 with (first|(go_at_call 47;refine(C1 _).mono ?_;rintro e w2 ⟨rfl,B2⟩;have C1:=True.intro)|(go_at_call 47;refine(C2 _).mono ?_;rintro e w3 ⟨rfl,B3⟩;have C2:=True.intro)|(go_at_call 47;refine(C3 _).mono ?_;rintro e w4 ⟨rfl,B4⟩;have C3:=True.intro))
 have B5:=bdG (bdG B2 B3) B4;clear C1 C2 C3 B2 B3 B4;obtain⟨u1,hu1⟩:∃u1,u1=bs [1]:=⟨_,rfl⟩
 obtain⟨u2,hu2⟩:∃u2,u2=bs [2]:=⟨_,rfl⟩
 obtain⟨u3,hu3⟩:∃u3,u3=bs [3]:=⟨_,rfl⟩
 rw[<-hu1,<-hu2,<-hu3];rw[<-hu1] at n1;rw[<-hu2] at n2;rw[<-hu3] at n3;have U1:=Lib.hid hu1;have U2:=Lib.hid hu2;have U3:=Lib.hid hu3;clear hu1 hu2 hu3;have z11:¬maxLen<u1.size+u1.size:=by unfold maxLen;omega
 have z12:¬maxLen<u1.size+u2.size:=by unfold maxLen;omega
 have z33:¬maxLen<u3.size+u3.size:=by unfold maxLen;omega
 have z121:¬maxLen<(u1++u2).size+u1.size:=by rw[ByteArray.size_append];unfold maxLen;omega
 have HBd:=Lib.hid (HW.out _ B5);clear HB B5;go_wp2;exact bodyPost_ret (v:=.tuple #[.string (u2),.string (u2),.int .i64 0,.bool true]) (by simp[results,Tryd.results32,go_sem]) rfl (hP.out _ _ _ U1.out U2.out U3.out _ HBd.out)
theorem word_6 (w:World)(p:Pl)(c:Cd)(s:St)(kn dn:Bool)(a b:Nat)(ha:a<268435456)(hb:b<268435456)(hr:s.2<=4) :
  Calls Tryd.prog 32 #[cdV p c,sV s.1 s.2 kn dn,.int .i64 (6:Nat),.int .i64 (a:Nat),.int .i64 (b:Nat)] w (PostWd w (effE c 6 a b).1 (effE c 6 a b).2 (moreI 6) (fitE 6 a s.2)):=by
 obtain⟨l,r⟩:=s;simp only at hr ⊢;unfold sV;obtain⟨sb,hsb⟩:∃sb,sb=bs l:=⟨_,rfl⟩
 rw[<-hsb];have CC:=fun k hk wx=>code_c k wx hk;have C1:=CC 1 (by omega);have C2:=CC 2 (by omega);have C3:=CC 3 (by omega);rw[show ((1:Nat):Int)=1 from rfl] at C1;rw[show ((2:Nat):Int)=2 from rfl] at C2;rw[show ((3:Nat):Int)=3 from rfl] at C3;obtain⟨w1,hw1⟩:∃w1,w1=(w.alloc (.cells (cdA p c) 26)).alloc (.cells #[.string sb,.int .i64 (r:Nat),.bool kn,.bool dn] 51):=⟨_,rfl⟩
 have B1:Below w.heap.size w w1:=by rw[hw1];exact bG2 _ (bG _ _)
 obtain⟨g,hg⟩:∃g,g=w.heap.size:=⟨_,rfl⟩
 have hlt1:g+1<w1.heap.size:=by rw[hw1,hg];simp
 have hs1:w1.heap[g+1]?=some (.cells #[.string sb,.int .i64 (r:Nat),.bool kn,.bool dn] 51 (0,0)):=by rw[hw1,hg];exact hA2 _ _ _
 have hc1:w1.heap[g]?=some (.cells (cdA p c) 26 (0,0)):=by rw[hw1,hg];exact h2G _ _ _
 have HB:Hid (∀ w2 m,Below w1.heap.size w1 w2->((w2.cell? ⟨g+1,0,none⟩=some (.string sb)/\w2.cell? ⟨g+1,1,none⟩=some (.int .i64 (r:Nat))/\w2.cell? ⟨g+1,2,none⟩=some (.bool kn)/\w2.cell? ⟨g+1,3,none⟩=some (.bool dn))/\bx4 p c w2 g)/\Below w.heap.size w w2/\Below w.heap.size w w2.drew/\Below w.heap.size w (w2.drewN m)):=fun w2 m B =>
  ⟨⟨box4_cells ((B.block _ hlt1).trans hs1),box4_cells ((B.block _ (by omega)).trans hc1)⟩,bdG B1 B,(bdG B1 B).drew,bd_drewN (bdG B1 B) m⟩
 have HW:Hid (∀ w2,Below w1.heap.size w1 w2->Below w.heap.size w w2):=fun w2 B=>bdG B1 B;have HG:=Lib.hid hg;have HSB:=Lib.hid hsb;have n1:(bs [1]).size=1:=bs_size _;have n2:(bs [2]).size=1:=bs_size _;have n3:(bs [3]).size=1:=bs_size _;clear hg hs1 hc1 B1 hsb;have hP:Hid (∀ u1 u2 u3:ByteArray,u1=bs [1]->u2=bs [2]->u3=bs [3]->∀ w',Below w.heap.size w w'->PostWd w (effE c 6 a b).1 (effE c 6 a b).2 (moreI 6) (fitE 6 a r) (.returned (.tuple #[.string (u1++u1),.string (u1),.int .i64 0,.bool true])) w'):=fun u1 u2 u3 h1 h2 h3 w' B=>by
  subst h1 h2 h3;refine⟨?_,B⟩;exact congrArg Ending.returned (by first|rfl|(simp only[bs_app];rfl))
 go_enter Tryd.func32,Tryd.ntmps32;go_upto_region 1 with fail;rw[<-hw1,<-HG.out];clear hw1;go_upto_region 4 with (first|(go_at_call 47;refine(C1 _).mono ?_;rintro e w2 ⟨rfl,B2⟩;have C1:=True.intro)|(go_at_call 47;refine(C2 _).mono ?_;rintro e w3 ⟨rfl,B3⟩;have C2:=True.intro)|(go_at_call 47;refine(C3 _).mono ?_;rintro e w4 ⟨rfl,B4⟩;have C3:=True.intro))
 have B5:=bdG (bdG B2 B3) B4;clear C1 C2 C3 B2 B3 B4;obtain⟨u1,hu1⟩:∃u1,u1=bs [1]:=⟨_,rfl⟩
 obtain⟨u2,hu2⟩:∃u2,u2=bs [2]:=⟨_,rfl⟩
 obtain⟨u3,hu3⟩:∃u3,u3=bs [3]:=⟨_,rfl⟩
 rw[<-hu1,<-hu2,<-hu3];rw[<-hu1] at n1;rw[<-hu2] at n2;rw[<-hu3] at n3;have U1:=Lib.hid hu1;have U2:=Lib.hid hu2;have U3:=Lib.hid hu3;clear hu1 hu2 hu3;have z11:¬maxLen<u1.size+u1.size:=by unfold maxLen;omega
 have z12:¬maxLen<u1.size+u2.size:=by unfold maxLen;omega
 have z33:¬maxLen<u3.size+u3.size:=by unfold maxLen;omega
 have z121:¬maxLen<(u1++u2).size+u1.size:=by rw[ByteArray.size_append];unfold maxLen;omega
 have HBd:=Lib.hid (HW.out _ B5);clear HB B5;go_wp2;exact bodyPost_ret (v:=.tuple #[.string (u1++u1),.string (u1),.int .i64 0,.bool true]) (by simp[results,Tryd.results32,go_sem]) rfl (hP.out _ _ _ U1.out U2.out U3.out _ HBd.out)
theorem word_7 (w:World)(p:Pl)(c:Cd)(s:St)(kn dn:Bool)(a b:Nat)(ha:a<268435456)(hb:b<268435456)(hr:s.2<=4) :
  Calls Tryd.prog 32 #[cdV p c,sV s.1 s.2 kn dn,.int .i64 (7:Nat),.int .i64 (a:Nat),.int .i64 (b:Nat)] w (PostWd w (effE c 7 a b).1 (effE c 7 a b).2 (moreI 7) (fitE 7 a s.2)):=by
 obtain⟨l,r⟩:=s;simp only at hr ⊢;unfold sV;obtain⟨sb,hsb⟩:∃sb,sb=bs l:=⟨_,rfl⟩
 rw[<-hsb];have CC:=fun k hk wx=>code_c k wx hk;have C1:=CC 1 (by omega);have C2:=CC 2 (by omega);have C3:=CC 3 (by omega);rw[show ((1:Nat):Int)=1 from rfl] at C1;rw[show ((2:Nat):Int)=2 from rfl] at C2;rw[show ((3:Nat):Int)=3 from rfl] at C3;obtain⟨w1,hw1⟩:∃w1,w1=(w.alloc (.cells (cdA p c) 26)).alloc (.cells #[.string sb,.int .i64 (r:Nat),.bool kn,.bool dn] 51):=⟨_,rfl⟩
 have B1:Below w.heap.size w w1:=by rw[hw1];exact bG2 _ (bG _ _)
 obtain⟨g,hg⟩:∃g,g=w.heap.size:=⟨_,rfl⟩
 have hlt1:g+1<w1.heap.size:=by rw[hw1,hg];simp
 have hs1:w1.heap[g+1]?=some (.cells #[.string sb,.int .i64 (r:Nat),.bool kn,.bool dn] 51 (0,0)):=by rw[hw1,hg];exact hA2 _ _ _
 have hc1:w1.heap[g]?=some (.cells (cdA p c) 26 (0,0)):=by rw[hw1,hg];exact h2G _ _ _
 have HB:Hid (∀ w2 m,Below w1.heap.size w1 w2->((w2.cell? ⟨g+1,0,none⟩=some (.string sb)/\w2.cell? ⟨g+1,1,none⟩=some (.int .i64 (r:Nat))/\w2.cell? ⟨g+1,2,none⟩=some (.bool kn)/\w2.cell? ⟨g+1,3,none⟩=some (.bool dn))/\bx4 p c w2 g)/\Below w.heap.size w w2/\Below w.heap.size w w2.drew/\Below w.heap.size w (w2.drewN m)):=fun w2 m B =>
  ⟨⟨box4_cells ((B.block _ hlt1).trans hs1),box4_cells ((B.block _ (by omega)).trans hc1)⟩,bdG B1 B,(bdG B1 B).drew,bd_drewN (bdG B1 B) m⟩
 have HW:Hid (∀ w2,Below w1.heap.size w1 w2->Below w.heap.size w w2):=fun w2 B=>bdG B1 B;have HG:=Lib.hid hg;have HSB:=Lib.hid hsb;have n1:(bs [1]).size=1:=bs_size _;have n2:(bs [2]).size=1:=bs_size _;have n3:(bs [3]).size=1:=bs_size _;clear hg hs1 hc1 B1 hsb;have hP:Hid (∀ u1 u2 u3:ByteArray,u1=bs [1]->u2=bs [2]->u3=bs [3]->∀ w',Below w.heap.size w w'->PostWd w (effE c 7 a b).1 (effE c 7 a b).2 (moreI 7) (fitE 7 a r) (.returned (.tuple #[.string (u1++u1),.string (u1),.int .i64 0,.bool true])) w'):=fun u1 u2 u3 h1 h2 h3 w' B=>by
  subst h1 h2 h3;refine⟨?_,B⟩;exact congrArg Ending.returned (by first|rfl|(simp only[bs_app];rfl))
 go_enter Tryd.func32,Tryd.ntmps32;go_upto_region 1 with fail;rw[<-hw1,<-HG.out];clear hw1;go_upto_region 4 with (first|(go_at_call 47;refine(C1 _).mono ?_;rintro e w2 ⟨rfl,B2⟩;have C1:=True.intro)|(go_at_call 47;refine(C2 _).mono ?_;rintro e w3 ⟨rfl,B3⟩;have C2:=True.intro)|(go_at_call 47;refine(C3 _).mono ?_;rintro e w4 ⟨rfl,B4⟩;have C3:=True.intro))
 have B5:=bdG (bdG B2 B3) B4;clear C1 C2 C3 B2 B3 B4;obtain⟨u1,hu1⟩:∃u1,u1=bs [1]:=⟨_,rfl⟩
 obtain⟨u2,hu2⟩:∃u2,u2=bs [2]:=⟨_,rfl⟩
 obtain⟨u3,hu3⟩:∃u3,u3=bs [3]:=⟨_,rfl⟩
 rw[<-hu1,<-hu2,<-hu3];rw[<-hu1] at n1;rw[<-hu2] at n2;rw[<-hu3] at n3;have U1:=Lib.hid hu1;have U2:=Lib.hid hu2;have U3:=Lib.hid hu3;clear hu1 hu2 hu3;have z11:¬maxLen<u1.size+u1.size:=by unfold maxLen;omega
 have z12:¬maxLen<u1.size+u2.size:=by unfold maxLen;omega
 have z33:¬maxLen<u3.size+u3.size:=by unfold maxLen;omega
 have z121:¬maxLen<(u1++u2).size+u1.size:=by rw[ByteArray.size_append];unfold maxLen;omega
 have HBd:=Lib.hid (HW.out _ B5);clear HB B5;go_wp2;exact bodyPost_ret (v:=.tuple #[.string (u1++u1),.string (u1),.int .i64 0,.bool true]) (by simp[results,Tryd.results32,go_sem]) rfl (hP.out _ _ _ U1.out U2.out U3.out _ HBd.out)
theorem word_8 (w:World)(p:Pl)(c:Cd)(s:St)(kn dn:Bool)(a b:Nat)(ha:a<268435456)(hb:b<268435456)(hr:s.2<=4) :
  Calls Tryd.prog 32 #[cdV p c,sV s.1 s.2 kn dn,.int .i64 (8:Nat),.int .i64 (a:Nat),.int .i64 (b:Nat)] w (PostWd w (effE c 8 a b).1 (effE c 8 a b).2 (moreI 8) (fitE 8 a s.2)):=by
 obtain⟨l,r⟩:=s;simp only at hr ⊢;unfold sV;obtain⟨sb,hsb⟩:∃sb,sb=bs l:=⟨_,rfl⟩
 rw[<-hsb];have CC:=fun k hk wx=>code_c k wx hk;have C1:=CC 1 (by omega);have C2:=CC 2 (by omega);have C3:=CC 3 (by omega);rw[show ((1:Nat):Int)=1 from rfl] at C1;rw[show ((2:Nat):Int)=2 from rfl] at C2;rw[show ((3:Nat):Int)=3 from rfl] at C3;obtain⟨w1,hw1⟩:∃w1,w1=(w.alloc (.cells (cdA p c) 26)).alloc (.cells #[.string sb,.int .i64 (r:Nat),.bool kn,.bool dn] 51):=⟨_,rfl⟩
 have B1:Below w.heap.size w w1:=by rw[hw1];exact bG2 _ (bG _ _)
 obtain⟨g,hg⟩:∃g,g=w.heap.size:=⟨_,rfl⟩
 have hlt1:g+1<w1.heap.size:=by rw[hw1,hg];simp
 have hs1:w1.heap[g+1]?=some (.cells #[.string sb,.int .i64 (r:Nat),.bool kn,.bool dn] 51 (0,0)):=by rw[hw1,hg];exact hA2 _ _ _
 have hc1:w1.heap[g]?=some (.cells (cdA p c) 26 (0,0)):=by rw[hw1,hg];exact h2G _ _ _
 have HB:Hid (∀ w2 m,Below w1.heap.size w1 w2->((w2.cell? ⟨g+1,0,none⟩=some (.string sb)/\w2.cell? ⟨g+1,1,none⟩=some (.int .i64 (r:Nat))/\w2.cell? ⟨g+1,2,none⟩=some (.bool kn)/\w2.cell? ⟨g+1,3,none⟩=some (.bool dn))/\bx4 p c w2 g)/\Below w.heap.size w w2/\Below w.heap.size w w2.drew/\Below w.heap.size w (w2.drewN m)):=fun w2 m B =>
  ⟨⟨box4_cells ((B.block _ hlt1).trans hs1),box4_cells ((B.block _ (by omega)).trans hc1)⟩,bdG B1 B,(bdG B1 B).drew,bd_drewN (bdG B1 B) m⟩
 have HW:Hid (∀ w2,Below w1.heap.size w1 w2->Below w.heap.size w w2):=fun w2 B=>bdG B1 B;have HG:=Lib.hid hg;have HSB:=Lib.hid hsb;have n1:(bs [1]).size=1:=bs_size _;have n2:(bs [2]).size=1:=bs_size _;have n3:(bs [3]).size=1:=bs_size _;clear hg hs1 hc1 B1 hsb;have hP:Hid (∀ u1 u2 u3:ByteArray,u1=bs [1]->u2=bs [2]->u3=bs [3]->∀ w',Below w.heap.size w w'->PostWd w (effE c 8 a b).1 (effE c 8 a b).2 (moreI 8) (fitE 8 a r) (.returned (.tuple #[.string (u1++u1),.string (u1),.int .i64 0,.bool true])) w'):=fun u1 u2 u3 h1 h2 h3 w' B=>by
  subst h1 h2 h3;refine⟨?_,B⟩;exact congrArg Ending.returned (by first|rfl|(simp only[bs_app];rfl))
 go_enter Tryd.func32,Tryd.ntmps32;go_upto_region 1 with fail;rw[<-hw1,<-HG.out];clear hw1;go_upto_region 4 with (first|(go_at_call 47;refine(C1 _).mono ?_;rintro e w2 ⟨rfl,B2⟩;have C1:=True.intro)|(go_at_call 47;refine(C2 _).mono ?_;rintro e w3 ⟨rfl,B3⟩;have C2:=True.intro)|(go_at_call 47;refine(C3 _).mono ?_;rintro e w4 ⟨rfl,B4⟩;have C3:=True.intro))
 have B5:=bdG (bdG B2 B3) B4;clear C1 C2 C3 B2 B3 B4;obtain⟨u1,hu1⟩:∃u1,u1=bs [1]:=⟨_,rfl⟩
 obtain⟨u2,hu2⟩:∃u2,u2=bs [2]:=⟨_,rfl⟩
 obtain⟨u3,hu3⟩:∃u3,u3=bs [3]:=⟨_,rfl⟩
 rw[<-hu1,<-hu2,<-hu3];rw[<-hu1] at n1;rw[<-hu2] at n2;rw[<-hu3] at n3;have U1:=Lib.hid hu1;have U2:=Lib.hid hu2;have U3:=Lib.hid hu3;clear hu1 hu2 hu3;have z11:¬maxLen<u1.size+u1.size:=by unfold maxLen;omega
 have z12:¬maxLen<u1.size+u2.size:=by unfold maxLen;omega
 have z33:¬maxLen<u3.size+u3.size:=by unfold maxLen;omega
 have z121:¬maxLen<(u1++u2).size+u1.size:=by rw[ByteArray.size_append];unfold maxLen;omega
 have HBd:=Lib.hid (HW.out _ B5);clear HB B5;go_wp2;exact bodyPost_ret (v:=.tuple #[.string (u1++u1),.string (u1),.int .i64 0,.bool true]) (by simp[results,Tryd.results32,go_sem]) rfl (hP.out _ _ _ U1.out U2.out U3.out _ HBd.out)
theorem word_9 (w:World)(p:Pl)(c:Cd)(s:St)(kn dn:Bool)(a b:Nat)(ha:a<268435456)(hb:b<268435456)(hr:s.2<=4) :
  Calls Tryd.prog 32 #[cdV p c,sV s.1 s.2 kn dn,.int .i64 (9:Nat),.int .i64 (a:Nat),.int .i64 (b:Nat)] w (PostWd w (effE c 9 a b).1 (effE c 9 a b).2 (moreI 9) (fitE 9 a s.2)):=by
 obtain⟨l,r⟩:=s;simp only at hr ⊢;unfold sV;obtain⟨sb,hsb⟩:∃sb,sb=bs l:=⟨_,rfl⟩
 rw[<-hsb];have CC:=fun k hk wx=>code_c k wx hk;have C1:=CC 1 (by omega);have C2:=CC 2 (by omega);have C3:=CC 3 (by omega);rw[show ((1:Nat):Int)=1 from rfl] at C1;rw[show ((2:Nat):Int)=2 from rfl] at C2;rw[show ((3:Nat):Int)=3 from rfl] at C3;obtain⟨w1,hw1⟩:∃w1,w1=(w.alloc (.cells (cdA p c) 26)).alloc (.cells #[.string sb,.int .i64 (r:Nat),.bool kn,.bool dn] 51):=⟨_,rfl⟩
 have B1:Below w.heap.size w w1:=by rw[hw1];exact bG2 _ (bG _ _)
 obtain⟨g,hg⟩:∃g,g=w.heap.size:=⟨_,rfl⟩
 have hlt1:g+1<w1.heap.size:=by rw[hw1,hg];simp
 have hs1:w1.heap[g+1]?=some (.cells #[.string sb,.int .i64 (r:Nat),.bool kn,.bool dn] 51 (0,0)):=by rw[hw1,hg];exact hA2 _ _ _
 have hc1:w1.heap[g]?=some (.cells (cdA p c) 26 (0,0)):=by rw[hw1,hg];exact h2G _ _ _
 have HB:Hid (∀ w2 m,Below w1.heap.size w1 w2->((w2.cell? ⟨g+1,0,none⟩=some (.string sb)/\w2.cell? ⟨g+1,1,none⟩=some (.int .i64 (r:Nat))/\w2.cell? ⟨g+1,2,none⟩=some (.bool kn)/\w2.cell? ⟨g+1,3,none⟩=some (.bool dn))/\bx4 p c w2 g)/\Below w.heap.size w w2/\Below w.heap.size w w2.drew/\Below w.heap.size w (w2.drewN m)):=fun w2 m B =>
  ⟨⟨box4_cells ((B.block _ hlt1).trans hs1),box4_cells ((B.block _ (by omega)).trans hc1)⟩,bdG B1 B,(bdG B1 B).drew,bd_drewN (bdG B1 B) m⟩
 have HW:Hid (∀ w2,Below w1.heap.size w1 w2->Below w.heap.size w w2):=fun w2 B=>bdG B1 B;have HG:=Lib.hid hg;have HSB:=Lib.hid hsb;have n1:(bs [1]).size=1:=bs_size _;have n2:(bs [2]).size=1:=bs_size _;have n3:(bs [3]).size=1:=bs_size _;clear hg hs1 hc1 B1 hsb;have hP:Hid (∀ u1 u2 u3:ByteArray,u1=bs [1]->u2=bs [2]->u3=bs [3]->∀ w',Below w.heap.size w w'->PostWd w (effE c 9 a b).1 (effE c 9 a b).2 (moreI 9) (fitE 9 a r) (.returned (.tuple #[.string (u1++u1),.string (u1),.int .i64 0,.bool true])) w'):=fun u1 u2 u3 h1 h2 h3 w' B=>by
  subst h1 h2 h3;refine⟨?_,B⟩;exact congrArg Ending.returned (by first|rfl|(simp only[bs_app];rfl))
 go_enter Tryd.func32,Tryd.ntmps32;go_upto_region 1 with fail;rw[<-hw1,<-HG.out];clear hw1;go_upto_region 4 with (first|(go_at_call 47;refine(C1 _).mono ?_;rintro e w2 ⟨rfl,B2⟩;have C1:=True.intro)|(go_at_call 47;refine(C2 _).mono ?_;rintro e w3 ⟨rfl,B3⟩;have C2:=True.intro)|(go_at_call 47;refine(C3 _).mono ?_;rintro e w4 ⟨rfl,B4⟩;have C3:=True.intro))
 have B5:=bdG (bdG B2 B3) B4;clear C1 C2 C3 B2 B3 B4;obtain⟨u1,hu1⟩:∃u1,u1=bs [1]:=⟨_,rfl⟩
 obtain⟨u2,hu2⟩:∃u2,u2=bs [2]:=⟨_,rfl⟩
 obtain⟨u3,hu3⟩:∃u3,u3=bs [3]:=⟨_,rfl⟩
 rw[<-hu1,<-hu2,<-hu3];rw[<-hu1] at n1;rw[<-hu2] at n2;rw[<-hu3] at n3;have U1:=Lib.hid hu1;have U2:=Lib.hid hu2;have U3:=Lib.hid hu3;clear hu1 hu2 hu3;have z11:¬maxLen<u1.size+u1.size:=by unfold maxLen;omega
 have z12:¬maxLen<u1.size+u2.size:=by unfold maxLen;omega
 have z33:¬maxLen<u3.size+u3.size:=by unfold maxLen;omega
 have z121:¬maxLen<(u1++u2).size+u1.size:=by rw[ByteArray.size_append];unfold maxLen;omega
 have HBd:=Lib.hid (HW.out _ B5);clear HB B5;go_wp2;exact bodyPost_ret (v:=.tuple #[.string (u1++u1),.string (u1),.int .i64 0,.bool true]) (by simp[results,Tryd.results32,go_sem]) rfl (hP.out _ _ _ U1.out U2.out U3.out _ HBd.out)
theorem word_10 (w:World)(p:Pl)(c:Cd)(s:St)(kn dn:Bool)(a b:Nat)(ha:a<268435456)(hb:b<268435456)(hr:s.2<=4) :
  Calls Tryd.prog 32 #[cdV p c,sV s.1 s.2 kn dn,.int .i64 (10:Nat),.int .i64 (a:Nat),.int .i64 (b:Nat)] w (PostWd w (effE c 10 a b).1 (effE c 10 a b).2 (moreI 10) (fitE 10 a s.2)):=by
 obtain⟨l,r⟩:=s;simp only at hr ⊢;unfold sV;obtain⟨sb,hsb⟩:∃sb,sb=bs l:=⟨_,rfl⟩
 rw[<-hsb];have CC:=fun k hk wx=>code_c k wx hk;have C1:=CC 1 (by omega);have C2:=CC 2 (by omega);have C3:=CC 3 (by omega);rw[show ((1:Nat):Int)=1 from rfl] at C1;rw[show ((2:Nat):Int)=2 from rfl] at C2;rw[show ((3:Nat):Int)=3 from rfl] at C3;obtain⟨w1,hw1⟩:∃w1,w1=(w.alloc (.cells (cdA p c) 26)).alloc (.cells #[.string sb,.int .i64 (r:Nat),.bool kn,.bool dn] 51):=⟨_,rfl⟩
 have B1:Below w.heap.size w w1:=by rw[hw1];exact bG2 _ (bG _ _)
 obtain⟨g,hg⟩:∃g,g=w.heap.size:=⟨_,rfl⟩
 have hlt1:g+1<w1.heap.size:=by rw[hw1,hg];simp
 have hs1:w1.heap[g+1]?=some (.cells #[.string sb,.int .i64 (r:Nat),.bool kn,.bool dn] 51 (0,0)):=by rw[hw1,hg];exact hA2 _ _ _
 have hc1:w1.heap[g]?=some (.cells (cdA p c) 26 (0,0)):=by rw[hw1,hg];exact h2G _ _ _
 have HB:Hid (∀ w2 m,Below w1.heap.size w1 w2->((w2.cell? ⟨g+1,0,none⟩=some (.string sb)/\w2.cell? ⟨g+1,1,none⟩=some (.int .i64 (r:Nat))/\w2.cell? ⟨g+1,2,none⟩=some (.bool kn)/\w2.cell? ⟨g+1,3,none⟩=some (.bool dn))/\bx4 p c w2 g)/\Below w.heap.size w w2/\Below w.heap.size w w2.drew/\Below w.heap.size w (w2.drewN m)):=fun w2 m B =>
  ⟨⟨box4_cells ((B.block _ hlt1).trans hs1),box4_cells ((B.block _ (by omega)).trans hc1)⟩,bdG B1 B,(bdG B1 B).drew,bd_drewN (bdG B1 B) m⟩
 have HW:Hid (∀ w2,Below w1.heap.size w1 w2->Below w.heap.size w w2):=fun w2 B=>bdG B1 B;have HG:=Lib.hid hg;have HSB:=Lib.hid hsb;have n1:(bs [1]).size=1:=bs_size _;have n2:(bs [2]).size=1:=bs_size _;have n3:(bs [3]).size=1:=bs_size _;clear hg hs1 hc1 B1 hsb;have hP:Hid (∀ u1 u2 u3:ByteArray,u1=bs [1]->u2=bs [2]->u3=bs [3]->∀ w',Below w.heap.size w w'->PostWd w (effE c 10 a b).1 (effE c 10 a b).2 (moreI 10) (fitE 10 a r) (.returned (.tuple #[.string (u1++u1),.string (u1),.int .i64 0,.bool true])) w'):=fun u1 u2 u3 h1 h2 h3 w' B=>by
  subst h1 h2 h3;refine⟨?_,B⟩;exact congrArg Ending.returned (by first|rfl|(simp only[bs_app];rfl))
 go_enter Tryd.func32,Tryd.ntmps32;go_upto_region 1 with fail;rw[<-hw1,<-HG.out];clear hw1;go_upto_region 4 with (first|(go_at_call 47;refine(C1 _).mono ?_;rintro e w2 ⟨rfl,B2⟩;have C1:=True.intro)|(go_at_call 47;refine(C2 _).mono ?_;rintro e w3 ⟨rfl,B3⟩;have C2:=True.intro)|(go_at_call 47;refine(C3 _).mono ?_;rintro e w4 ⟨rfl,B4⟩;have C3:=True.intro))
 have B5:=bdG (bdG B2 B3) B4;clear C1 C2 C3 B2 B3 B4;obtain⟨u1,hu1⟩:∃u1,u1=bs [1]:=⟨_,rfl⟩
 obtain⟨u2,hu2⟩:∃u2,u2=bs [2]:=⟨_,rfl⟩
 obtain⟨u3,hu3⟩:∃u3,u3=bs [3]:=⟨_,rfl⟩
 rw[<-hu1,<-hu2,<-hu3];rw[<-hu1] at n1;rw[<-hu2] at n2;rw[<-hu3] at n3;have U1:=Lib.hid hu1;have U2:=Lib.hid hu2;have U3:=Lib.hid hu3;clear hu1 hu2 hu3;have z11:¬maxLen<u1.size+u1.size:=by unfold maxLen;omega
 have z12:¬maxLen<u1.size+u2.size:=by unfold maxLen;omega
 have z33:¬maxLen<u3.size+u3.size:=by unfold maxLen;omega
 have z121:¬maxLen<(u1++u2).size+u1.size:=by rw[ByteArray.size_append];unfold maxLen;omega
 have HBd:=Lib.hid (HW.out _ B5);clear HB B5;go_wp2;exact bodyPost_ret (v:=.tuple #[.string (u1++u1),.string (u1),.int .i64 0,.bool true]) (by simp[results,Tryd.results32,go_sem]) rfl (hP.out _ _ _ U1.out U2.out U3.out _ HBd.out)
theorem word_12 (w:World)(p:Pl)(c:Cd)(s:St)(kn dn:Bool)(a b:Nat)(ha:a<268435456)(hb:b<268435456)(hr:s.2<=4) :
  Calls Tryd.prog 32 #[cdV p c,sV s.1 s.2 kn dn,.int .i64 (12:Nat),.int .i64 (a:Nat),.int .i64 (b:Nat)] w (PostWd w (effE c 12 a b).1 (effE c 12 a b).2 (moreI 12) (fitE 12 a s.2)):=by
 obtain⟨l,r⟩:=s;simp only at hr ⊢;unfold sV;obtain⟨sb,hsb⟩:∃sb,sb=bs l:=⟨_,rfl⟩
 rw[<-hsb];have CC:=fun k hk wx=>code_c k wx hk;have C1:=CC 1 (by omega);have C2:=CC 2 (by omega);have C3:=CC 3 (by omega);rw[show ((1:Nat):Int)=1 from rfl] at C1;rw[show ((2:Nat):Int)=2 from rfl] at C2;rw[show ((3:Nat):Int)=3 from rfl] at C3;obtain⟨w1,hw1⟩:∃w1,w1=(w.alloc (.cells (cdA p c) 26)).alloc (.cells #[.string sb,.int .i64 (r:Nat),.bool kn,.bool dn] 51):=⟨_,rfl⟩
 have B1:Below w.heap.size w w1:=by rw[hw1];exact bG2 _ (bG _ _)
 obtain⟨g,hg⟩:∃g,g=w.heap.size:=⟨_,rfl⟩
 have hlt1:g+1<w1.heap.size:=by rw[hw1,hg];simp
 have hs1:w1.heap[g+1]?=some (.cells #[.string sb,.int .i64 (r:Nat),.bool kn,.bool dn] 51 (0,0)):=by rw[hw1,hg];exact hA2 _ _ _
 have hc1:w1.heap[g]?=some (.cells (cdA p c) 26 (0,0)):=by rw[hw1,hg];exact h2G _ _ _
 have HB:Hid (∀ w2 m,Below w1.heap.size w1 w2->((w2.cell? ⟨g+1,0,none⟩=some (.string sb)/\w2.cell? ⟨g+1,1,none⟩=some (.int .i64 (r:Nat))/\w2.cell? ⟨g+1,2,none⟩=some (.bool kn)/\w2.cell? ⟨g+1,3,none⟩=some (.bool dn))/\bx4 p c w2 g)/\Below w.heap.size w w2/\Below w.heap.size w w2.drew/\Below w.heap.size w (w2.drewN m)):=fun w2 m B =>
  ⟨⟨box4_cells ((B.block _ hlt1).trans hs1),box4_cells ((B.block _ (by omega)).trans hc1)⟩,bdG B1 B,(bdG B1 B).drew,bd_drewN (bdG B1 B) m⟩
 have HW:Hid (∀ w2,Below w1.heap.size w1 w2->Below w.heap.size w w2):=fun w2 B=>bdG B1 B;have HG:=Lib.hid hg;have HSB:=Lib.hid hsb;have n1:(bs [1]).size=1:=bs_size _;have n2:(bs [2]).size=1:=bs_size _;have n3:(bs [3]).size=1:=bs_size _;clear hg hs1 hc1 B1 hsb;have hP:Hid (∀ u1 u2 u3:ByteArray,u1=bs [1]->u2=bs [2]->u3=bs [3]->∀ w',Below w.heap.size w w'->PostWd w (effE c 12 a b).1 (effE c 12 a b).2 (moreI 12) (fitE 12 a r) (.returned (.tuple #[.string (u1++u1),.string (u2),.int .i64 0,.bool true])) w'):=fun u1 u2 u3 h1 h2 h3 w' B=>by
  subst h1 h2 h3;refine⟨?_,B⟩;exact congrArg Ending.returned (by first|rfl|(simp only[bs_app];rfl))
 go_enter Tryd.func32,Tryd.ntmps32;go_upto_region 1 with fail;rw[<-hw1,<-HG.out];clear hw1;go_upto_region 4 with (first|(go_at_call 47;refine(C1 _).mono ?_;rintro e w2 ⟨rfl,B2⟩;have C1:=True.intro)|(go_at_call 47;refine(C2 _).mono ?_;rintro e w3 ⟨rfl,B3⟩;have C2:=True.intro)|(go_at_call 47;refine(C3 _).mono ?_;rintro e w4 ⟨rfl,B4⟩;have C3:=True.intro))
 have B5:=bdG (bdG B2 B3) B4;clear C1 C2 C3 B2 B3 B4;obtain⟨u1,hu1⟩:∃u1,u1=bs [1]:=⟨_,rfl⟩
 obtain⟨u2,hu2⟩:∃u2,u2=bs [2]:=⟨_,rfl⟩
 obtain⟨u3,hu3⟩:∃u3,u3=bs [3]:=⟨_,rfl⟩
 rw[<-hu1,<-hu2,<-hu3];rw[<-hu1] at n1;rw[<-hu2] at n2;rw[<-hu3] at n3;have U1:=Lib.hid hu1;have U2:=Lib.hid hu2;have U3:=Lib.hid hu3;clear hu1 hu2 hu3;have z11:¬maxLen<u1.size+u1.size:=by unfold maxLen;omega
 have z12:¬maxLen<u1.size+u2.size:=by unfold maxLen;omega
 have z33:¬maxLen<u3.size+u3.size:=by unfold maxLen;omega
 have z121:¬maxLen<(u1++u2).size+u1.size:=by rw[ByteArray.size_append];unfold maxLen;omega
 have HBd:=Lib.hid (HW.out _ B5);clear HB B5;go_wp2;exact bodyPost_ret (v:=.tuple #[.string (u1++u1),.string (u2),.int .i64 0,.bool true]) (by simp[results,Tryd.results32,go_sem]) rfl (hP.out _ _ _ U1.out U2.out U3.out _ HBd.out)
theorem word_14 (w:World)(p:Pl)(c:Cd)(s:St)(kn dn:Bool)(a b:Nat)(ha:a<268435456)(hb:b<268435456)(hr:s.2<=4) :
  Calls Tryd.prog 32 #[cdV p c,sV s.1 s.2 kn dn,.int .i64 (14:Nat),.int .i64 (a:Nat),.int .i64 (b:Nat)] w (PostWd w (effE c 14 a b).1 (effE c 14 a b).2 (moreI 14) (fitE 14 a s.2)):=by
 obtain⟨l,r⟩:=s;simp only at hr ⊢;unfold sV;obtain⟨sb,hsb⟩:∃sb,sb=bs l:=⟨_,rfl⟩
 rw[<-hsb];have CC:=fun k hk wx=>code_c k wx hk;have C1:=CC 1 (by omega);have C2:=CC 2 (by omega);have C3:=CC 3 (by omega);rw[show ((1:Nat):Int)=1 from rfl] at C1;rw[show ((2:Nat):Int)=2 from rfl] at C2;rw[show ((3:Nat):Int)=3 from rfl] at C3;obtain⟨w1,hw1⟩:∃w1,w1=(w.alloc (.cells (cdA p c) 26)).alloc (.cells #[.string sb,.int .i64 (r:Nat),.bool kn,.bool dn] 51):=⟨_,rfl⟩
 have B1:Below w.heap.size w w1:=by rw[hw1];exact bG2 _ (bG _ _)
 obtain⟨g,hg⟩:∃g,g=w.heap.size:=⟨_,rfl⟩
 have hlt1:g+1<w1.heap.size:=by rw[hw1,hg];simp
 have hs1:w1.heap[g+1]?=some (.cells #[.string sb,.int .i64 (r:Nat),.bool kn,.bool dn] 51 (0,0)):=by rw[hw1,hg];exact hA2 _ _ _
 have hc1:w1.heap[g]?=some (.cells (cdA p c) 26 (0,0)):=by rw[hw1,hg];exact h2G _ _ _
 have HB:Hid (∀ w2 m,Below w1.heap.size w1 w2->((w2.cell? ⟨g+1,0,none⟩=some (.string sb)/\w2.cell? ⟨g+1,1,none⟩=some (.int .i64 (r:Nat))/\w2.cell? ⟨g+1,2,none⟩=some (.bool kn)/\w2.cell? ⟨g+1,3,none⟩=some (.bool dn))/\bx4 p c w2 g)/\Below w.heap.size w w2/\Below w.heap.size w w2.drew/\Below w.heap.size w (w2.drewN m)):=fun w2 m B =>
  ⟨⟨box4_cells ((B.block _ hlt1).trans hs1),box4_cells ((B.block _ (by omega)).trans hc1)⟩,bdG B1 B,(bdG B1 B).drew,bd_drewN (bdG B1 B) m⟩
 have HW:Hid (∀ w2,Below w1.heap.size w1 w2->Below w.heap.size w w2):=fun w2 B=>bdG B1 B;have HG:=Lib.hid hg;have HSB:=Lib.hid hsb;have n1:(bs [1]).size=1:=bs_size _;have n2:(bs [2]).size=1:=bs_size _;have n3:(bs [3]).size=1:=bs_size _;clear hg hs1 hc1 B1 hsb;have hP:Hid (∀ u1 u2 u3:ByteArray,u1=bs [1]->u2=bs [2]->u3=bs [3]->∀ w',Below w.heap.size w w'->PostWd w (effE c 14 a b).1 (effE c 14 a b).2 (moreI 14) (fitE 14 a r) (.returned (.tuple #[.string (u2),.string (⟨#[]⟩),.int .i64 0,.bool true])) w'):=fun u1 u2 u3 h1 h2 h3 w' B=>by
  subst h1 h2 h3;refine⟨?_,B⟩;exact congrArg Ending.returned (by first|rfl|(simp only[bs_app];rfl))
 go_enter Tryd.func32,Tryd.ntmps32;go_upto_region 1 with fail;rw[<-hw1,<-HG.out];clear hw1;go_upto_region 4 with (first|(go_at_call 47;refine(C1 _).mono ?_;rintro e w2 ⟨rfl,B2⟩;have C1:=True.intro)|(go_at_call 47;refine(C2 _).mono ?_;rintro e w3 ⟨rfl,B3⟩;have C2:=True.intro)|(go_at_call 47;refine(C3 _).mono ?_;rintro e w4 ⟨rfl,B4⟩;have C3:=True.intro))
 have B5:=bdG (bdG B2 B3) B4;clear C1 C2 C3 B2 B3 B4;obtain⟨u1,hu1⟩:∃u1,u1=bs [1]:=⟨_,rfl⟩
 obtain⟨u2,hu2⟩:∃u2,u2=bs [2]:=⟨_,rfl⟩
 obtain⟨u3,hu3⟩:∃u3,u3=bs [3]:=⟨_,rfl⟩
 rw[<-hu1,<-hu2,<-hu3];rw[<-hu1] at n1;rw[<-hu2] at n2;rw[<-hu3] at n3;have U1:=Lib.hid hu1;have U2:=Lib.hid hu2;have U3:=Lib.hid hu3;clear hu1 hu2 hu3;have z11:¬maxLen<u1.size+u1.size:=by unfold maxLen;omega
 have z12:¬maxLen<u1.size+u2.size:=by unfold maxLen;omega
 have z33:¬maxLen<u3.size+u3.size:=by unfold maxLen;omega
 have z121:¬maxLen<(u1++u2).size+u1.size:=by rw[ByteArray.size_append];unfold maxLen;omega
 have HBd:=Lib.hid (HW.out _ B5);clear HB B5;go_wp2;exact bodyPost_ret (v:=.tuple #[.string (u2),.string (⟨#[]⟩),.int .i64 0,.bool true]) (by simp[results,Tryd.results32,go_sem]) rfl (hP.out _ _ _ U1.out U2.out U3.out _ HBd.out)
theorem word_15 (w:World)(p:Pl)(c:Cd)(s:St)(kn dn:Bool)(a b:Nat)(ha:a<268435456)(hb:b<268435456)(hr:s.2<=4) :
  Calls Tryd.prog 32 #[cdV p c,sV s.1 s.2 kn dn,.int .i64 (15:Nat),.int .i64 (a:Nat),.int .i64 (b:Nat)] w (PostWd w (effE c 15 a b).1 (effE c 15 a b).2 (moreI 15) (fitE 15 a s.2)):=by
 obtain⟨l,r⟩:=s;simp only at hr ⊢;unfold sV;obtain⟨sb,hsb⟩:∃sb,sb=bs l:=⟨_,rfl⟩
 rw[<-hsb];have CC:=fun k hk wx=>code_c k wx hk;have C1:=CC 1 (by omega);have C2:=CC 2 (by omega);have C3:=CC 3 (by omega);rw[show ((1:Nat):Int)=1 from rfl] at C1;rw[show ((2:Nat):Int)=2 from rfl] at C2;rw[show ((3:Nat):Int)=3 from rfl] at C3;obtain⟨w1,hw1⟩:∃w1,w1=(w.alloc (.cells (cdA p c) 26)).alloc (.cells #[.string sb,.int .i64 (r:Nat),.bool kn,.bool dn] 51):=⟨_,rfl⟩
 have B1:Below w.heap.size w w1:=by rw[hw1];exact bG2 _ (bG _ _)
 obtain⟨g,hg⟩:∃g,g=w.heap.size:=⟨_,rfl⟩
 have hlt1:g+1<w1.heap.size:=by rw[hw1,hg];simp
 have hs1:w1.heap[g+1]?=some (.cells #[.string sb,.int .i64 (r:Nat),.bool kn,.bool dn] 51 (0,0)):=by rw[hw1,hg];exact hA2 _ _ _
 have hc1:w1.heap[g]?=some (.cells (cdA p c) 26 (0,0)):=by rw[hw1,hg];exact h2G _ _ _
 have HB:Hid (∀ w2 m,Below w1.heap.size w1 w2->((w2.cell? ⟨g+1,0,none⟩=some (.string sb)/\w2.cell? ⟨g+1,1,none⟩=some (.int .i64 (r:Nat))/\w2.cell? ⟨g+1,2,none⟩=some (.bool kn)/\w2.cell? ⟨g+1,3,none⟩=some (.bool dn))/\bx4 p c w2 g)/\Below w.heap.size w w2/\Below w.heap.size w w2.drew/\Below w.heap.size w (w2.drewN m)):=fun w2 m B =>
  ⟨⟨box4_cells ((B.block _ hlt1).trans hs1),box4_cells ((B.block _ (by omega)).trans hc1)⟩,bdG B1 B,(bdG B1 B).drew,bd_drewN (bdG B1 B) m⟩
 have HW:Hid (∀ w2,Below w1.heap.size w1 w2->Below w.heap.size w w2):=fun w2 B=>bdG B1 B;have HG:=Lib.hid hg;have HSB:=Lib.hid hsb;have n1:(bs [1]).size=1:=bs_size _;have n2:(bs [2]).size=1:=bs_size _;have n3:(bs [3]).size=1:=bs_size _;clear hg hs1 hc1 B1 hsb;have hP:Hid (∀ u1 u2 u3:ByteArray,u1=bs [1]->u2=bs [2]->u3=bs [3]->∀ w',Below w.heap.size w w'->PostWd w (effE c 15 a b).1 (effE c 15 a b).2 (moreI 15) (fitE 15 a r) (.returned (.tuple #[.string (u2),.string (⟨#[]⟩),.int .i64 0,.bool true])) w'):=fun u1 u2 u3 h1 h2 h3 w' B=>by
  subst h1 h2 h3;refine⟨?_,B⟩;exact congrArg Ending.returned (by first|rfl|(simp only[bs_app];rfl))
 go_enter Tryd.func32,Tryd.ntmps32;go_upto_region 1 with fail;rw[<-hw1,<-HG.out];clear hw1;go_upto_region 4 with (first|(go_at_call 47;refine(C1 _).mono ?_;rintro e w2 ⟨rfl,B2⟩;have C1:=True.intro)|(go_at_call 47;refine(C2 _).mono ?_;rintro e w3 ⟨rfl,B3⟩;have C2:=True.intro)|(go_at_call 47;refine(C3 _).mono ?_;rintro e w4 ⟨rfl,B4⟩;have C3:=True.intro))
 have B5:=bdG (bdG B2 B3) B4;clear C1 C2 C3 B2 B3 B4;obtain⟨u1,hu1⟩:∃u1,u1=bs [1]:=⟨_,rfl⟩
 obtain⟨u2,hu2⟩:∃u2,u2=bs [2]:=⟨_,rfl⟩
 obtain⟨u3,hu3⟩:∃u3,u3=bs [3]:=⟨_,rfl⟩
 rw[<-hu1,<-hu2,<-hu3];rw[<-hu1] at n1;rw[<-hu2] at n2;rw[<-hu3] at n3;have U1:=Lib.hid hu1;have U2:=Lib.hid hu2;have U3:=Lib.hid hu3;clear hu1 hu2 hu3;have z11:¬maxLen<u1.size+u1.size:=by unfold maxLen;omega
 have z12:¬maxLen<u1.size+u2.size:=by unfold maxLen;omega
 have z33:¬maxLen<u3.size+u3.size:=by unfold maxLen;omega
 have z121:¬maxLen<(u1++u2).size+u1.size:=by rw[ByteArray.size_append];unfold maxLen;omega
 have HBd:=Lib.hid (HW.out _ B5);clear HB B5;go_wp2;exact bodyPost_ret (v:=.tuple #[.string (u2),.string (⟨#[]⟩),.int .i64 0,.bool true]) (by simp[results,Tryd.results32,go_sem]) rfl (hP.out _ _ _ U1.out U2.out U3.out _ HBd.out)
theorem word_27 (w:World)(p:Pl)(c:Cd)(s:St)(kn dn:Bool)(a b:Nat)(ha:a<268435456)(hb:b<268435456)(hr:s.2<=4) :
  Calls Tryd.prog 32 #[cdV p c,sV s.1 s.2 kn dn,.int .i64 (27:Nat),.int .i64 (a:Nat),.int .i64 (b:Nat)] w (PostWd w (effE c 27 a b).1 (effE c 27 a b).2 (moreI 27) (fitE 27 a s.2)):=by
 obtain⟨l,r⟩:=s;simp only at hr ⊢;unfold sV;obtain⟨sb,hsb⟩:∃sb,sb=bs l:=⟨_,rfl⟩
 rw[<-hsb];have CC:=fun k hk wx=>code_c k wx hk;have C1:=CC 1 (by omega);have C2:=CC 2 (by omega);have C3:=CC 3 (by omega);rw[show ((1:Nat):Int)=1 from rfl] at C1;rw[show ((2:Nat):Int)=2 from rfl] at C2;rw[show ((3:Nat):Int)=3 from rfl] at C3;obtain⟨w1,hw1⟩:∃w1,w1=(w.alloc (.cells (cdA p c) 26)).alloc (.cells #[.string sb,.int .i64 (r:Nat),.bool kn,.bool dn] 51):=⟨_,rfl⟩
 have B1:Below w.heap.size w w1:=by rw[hw1];exact bG2 _ (bG _ _)
 obtain⟨g,hg⟩:∃g,g=w.heap.size:=⟨_,rfl⟩
 have hlt1:g+1<w1.heap.size:=by rw[hw1,hg];simp
 have hs1:w1.heap[g+1]?=some (.cells #[.string sb,.int .i64 (r:Nat),.bool kn,.bool dn] 51 (0,0)):=by rw[hw1,hg];exact hA2 _ _ _
 have hc1:w1.heap[g]?=some (.cells (cdA p c) 26 (0,0)):=by rw[hw1,hg];exact h2G _ _ _
 have HB:Hid (∀ w2 m,Below w1.heap.size w1 w2->((w2.cell? ⟨g+1,0,none⟩=some (.string sb)/\w2.cell? ⟨g+1,1,none⟩=some (.int .i64 (r:Nat))/\w2.cell? ⟨g+1,2,none⟩=some (.bool kn)/\w2.cell? ⟨g+1,3,none⟩=some (.bool dn))/\bx4 p c w2 g)/\Below w.heap.size w w2/\Below w.heap.size w w2.drew/\Below w.heap.size w (w2.drewN m)):=fun w2 m B =>
  ⟨⟨box4_cells ((B.block _ hlt1).trans hs1),box4_cells ((B.block _ (by omega)).trans hc1)⟩,bdG B1 B,(bdG B1 B).drew,bd_drewN (bdG B1 B) m⟩
 have HW:Hid (∀ w2,Below w1.heap.size w1 w2->Below w.heap.size w w2):=fun w2 B=>bdG B1 B;have HG:=Lib.hid hg;have HSB:=Lib.hid hsb;have n1:(bs [1]).size=1:=bs_size _;have n2:(bs [2]).size=1:=bs_size _;have n3:(bs [3]).size=1:=bs_size _;clear hg hs1 hc1 B1 hsb;have hP:Hid (∀ u1 u2 u3:ByteArray,u1=bs [1]->u2=bs [2]->u3=bs [3]->∀ w',Below w.heap.size w w'->PostWd w (effE c 27 a b).1 (effE c 27 a b).2 (moreI 27) (fitE 27 a r) (.returned (.tuple #[.string (u2),.string (⟨#[]⟩),.int .i64 0,.bool true])) w'):=fun u1 u2 u3 h1 h2 h3 w' B=>by
  subst h1 h2 h3;refine⟨?_,B⟩;exact congrArg Ending.returned (by first|rfl|(simp only[bs_app];rfl))
 go_enter Tryd.func32,Tryd.ntmps32;go_upto_region 1 with fail;rw[<-hw1,<-HG.out];clear hw1;go_upto_region 4 with (first|(go_at_call 47;refine(C1 _).mono ?_;rintro e w2 ⟨rfl,B2⟩;have C1:=True.intro)|(go_at_call 47;refine(C2 _).mono ?_;rintro e w3 ⟨rfl,B3⟩;have C2:=True.intro)|(go_at_call 47;refine(C3 _).mono ?_;rintro e w4 ⟨rfl,B4⟩;have C3:=True.intro))
 have B5:=bdG (bdG B2 B3) B4;clear C1 C2 C3 B2 B3 B4;obtain⟨u1,hu1⟩:∃u1,u1=bs [1]:=⟨_,rfl⟩
 obtain⟨u2,hu2⟩:∃u2,u2=bs [2]:=⟨_,rfl⟩
 obtain⟨u3,hu3⟩:∃u3,u3=bs [3]:=⟨_,rfl⟩
 rw[<-hu1,<-hu2,<-hu3];rw[<-hu1] at n1;rw[<-hu2] at n2;rw[<-hu3] at n3;have U1:=Lib.hid hu1;have U2:=Lib.hid hu2;have U3:=Lib.hid hu3;clear hu1 hu2 hu3;have z11:¬maxLen<u1.size+u1.size:=by unfold maxLen;omega
 have z12:¬maxLen<u1.size+u2.size:=by unfold maxLen;omega
 have z33:¬maxLen<u3.size+u3.size:=by unfold maxLen;omega
 have z121:¬maxLen<(u1++u2).size+u1.size:=by rw[ByteArray.size_append];unfold maxLen;omega
 have HBd:=Lib.hid (HW.out _ B5);clear HB B5;go_wp2;exact bodyPost_ret (v:=.tuple #[.string (u2),.string (⟨#[]⟩),.int .i64 0,.bool true]) (by simp[results,Tryd.results32,go_sem]) rfl (hP.out _ _ _ U1.out U2.out U3.out _ HBd.out)
theorem word_26 (w:World)(p:Pl)(c:Cd)(s:St)(kn dn:Bool)(a b:Nat)(ha:a<268435456)(hb:b<268435456)(hr:s.2<=4) :
  Calls Tryd.prog 32 #[cdV p c,sV s.1 s.2 kn dn,.int .i64 (26:Nat),.int .i64 (a:Nat),.int .i64 (b:Nat)] w (PostWd w (effE c 26 a b).1 (effE c 26 a b).2 (moreI 26) (fitE 26 a s.2)):=by
 obtain⟨l,r⟩:=s;simp only at hr ⊢;unfold sV;obtain⟨sb,hsb⟩:∃sb,sb=bs l:=⟨_,rfl⟩
 rw[<-hsb];have CC:=fun k hk wx=>code_c k wx hk;have C1:=CC 1 (by omega);have C2:=CC 2 (by omega);have C3:=CC 3 (by omega);rw[show ((1:Nat):Int)=1 from rfl] at C1;rw[show ((2:Nat):Int)=2 from rfl] at C2;rw[show ((3:Nat):Int)=3 from rfl] at C3;obtain⟨w1,hw1⟩:∃w1,w1=(w.alloc (.cells (cdA p c) 26)).alloc (.cells #[.string sb,.int .i64 (r:Nat),.bool kn,.bool dn] 51):=⟨_,rfl⟩
 have B1:Below w.heap.size w w1:=by rw[hw1];exact bG2 _ (bG _ _)
 obtain⟨g,hg⟩:∃g,g=w.heap.size:=⟨_,rfl⟩
 have hlt1:g+1<w1.heap.size:=by rw[hw1,hg];simp
 have hs1:w1.heap[g+1]?=some (.cells #[.string sb,.int .i64 (r:Nat),.bool kn,.bool dn] 51 (0,0)):=by rw[hw1,hg];exact hA2 _ _ _
 have hc1:w1.heap[g]?=some (.cells (cdA p c) 26 (0,0)):=by rw[hw1,hg];exact h2G _ _ _
 have HB:Hid (∀ w2 m,Below w1.heap.size w1 w2->((w2.cell? ⟨g+1,0,none⟩=some (.string sb)/\w2.cell? ⟨g+1,1,none⟩=some (.int .i64 (r:Nat))/\w2.cell? ⟨g+1,2,none⟩=some (.bool kn)/\w2.cell? ⟨g+1,3,none⟩=some (.bool dn))/\bx4 p c w2 g)/\Below w.heap.size w w2/\Below w.heap.size w w2.drew/\Below w.heap.size w (w2.drewN m)):=fun w2 m B =>
  ⟨⟨box4_cells ((B.block _ hlt1).trans hs1),box4_cells ((B.block _ (by omega)).trans hc1)⟩,bdG B1 B,(bdG B1 B).drew,bd_drewN (bdG B1 B) m⟩
 have HW:Hid (∀ w2,Below w1.heap.size w1 w2->Below w.heap.size w w2):=fun w2 B=>bdG B1 B;have HG:=Lib.hid hg;have HSB:=Lib.hid hsb;have n1:(bs [1]).size=1:=bs_size _;have n2:(bs [2]).size=1:=bs_size _;have n3:(bs [3]).size=1:=bs_size _;clear hg hs1 hc1 B1 hsb;have hP:Hid (∀ u1 u2 u3:ByteArray,u1=bs [1]->u2=bs [2]->u3=bs [3]->∀ w',Below w.heap.size w w'->PostWd w (effE c 26 a b).1 (effE c 26 a b).2 (moreI 26) (fitE 26 a r) (.returned (.tuple #[.string (u1++u2++u1),.string (u1++u2),.int .i64 0,.bool true])) w'):=fun u1 u2 u3 h1 h2 h3 w' B=>by
  subst h1 h2 h3;refine⟨?_,B⟩;exact congrArg Ending.returned (by first|rfl|(simp only[bs_app];rfl))
 go_enter Tryd.func32,Tryd.ntmps32;go_upto_region 1 with fail;rw[<-hw1,<-HG.out];clear hw1;go_upto_region 4 with (first|(go_at_call 47;refine(C1 _).mono ?_;rintro e w2 ⟨rfl,B2⟩;have C1:=True.intro)|(go_at_call 47;refine(C2 _).mono ?_;rintro e w3 ⟨rfl,B3⟩;have C2:=True.intro)|(go_at_call 47;refine(C3 _).mono ?_;rintro e w4 ⟨rfl,B4⟩;have C3:=True.intro))
 have B5:=bdG (bdG B2 B3) B4;clear C1 C2 C3 B2 B3 B4;obtain⟨u1,hu1⟩:∃u1,u1=bs [1]:=⟨_,rfl⟩
 obtain⟨u2,hu2⟩:∃u2,u2=bs [2]:=⟨_,rfl⟩
 obtain⟨u3,hu3⟩:∃u3,u3=bs [3]:=⟨_,rfl⟩
 rw[<-hu1,<-hu2,<-hu3];rw[<-hu1] at n1;rw[<-hu2] at n2;rw[<-hu3] at n3;have U1:=Lib.hid hu1;have U2:=Lib.hid hu2;have U3:=Lib.hid hu3;clear hu1 hu2 hu3;have z11:¬maxLen<u1.size+u1.size:=by unfold maxLen;omega
 have z12:¬maxLen<u1.size+u2.size:=by unfold maxLen;omega
 have z33:¬maxLen<u3.size+u3.size:=by unfold maxLen;omega
 have z121:¬maxLen<(u1++u2).size+u1.size:=by rw[ByteArray.size_append];unfold maxLen;omega
 have HBd:=Lib.hid (HW.out _ B5);clear HB B5;go_wp2;exact bodyPost_ret (v:=.tuple #[.string (u1++u2++u1),.string (u1++u2),.int .i64 0,.bool true]) (by simp[results,Tryd.results32,go_sem]) rfl (hP.out _ _ _ U1.out U2.out U3.out _ HBd.out)
theorem word_3 (w:World)(p:Pl)(c:Cd)(s:St)(kn dn:Bool)(a b:Nat)(ha:a<268435456)(hb:b<268435456)(hr:s.2<=4) :
  Calls Tryd.prog 32 #[cdV p c,sV s.1 s.2 kn dn,.int .i64 (3:Nat),.int .i64 (a:Nat),.int .i64 (b:Nat)] w (PostWd w (effE c 3 a b).1 (effE c 3 a b).2 (moreI 3) (fitE 3 a s.2)):=by
 obtain⟨l,r⟩:=s;simp only at hr ⊢;unfold sV;obtain⟨sb,hsb⟩:∃sb,sb=bs l:=⟨_,rfl⟩
 rw[<-hsb];have CC:=fun k hk wx=>code_c k wx hk;have C1:=CC 1 (by omega);have C2:=CC 2 (by omega);have C3:=CC 3 (by omega);rw[show ((1:Nat):Int)=1 from rfl] at C1;rw[show ((2:Nat):Int)=2 from rfl] at C2;rw[show ((3:Nat):Int)=3 from rfl] at C3;obtain⟨w1,hw1⟩:∃w1,w1=(w.alloc (.cells (cdA p c) 26)).alloc (.cells #[.string sb,.int .i64 (r:Nat),.bool kn,.bool dn] 51):=⟨_,rfl⟩
 have B1:Below w.heap.size w w1:=by rw[hw1];exact bG2 _ (bG _ _)
 obtain⟨g,hg⟩:∃g,g=w.heap.size:=⟨_,rfl⟩
 have hlt1:g+1<w1.heap.size:=by rw[hw1,hg];simp
 have hs1:w1.heap[g+1]?=some (.cells #[.string sb,.int .i64 (r:Nat),.bool kn,.bool dn] 51 (0,0)):=by rw[hw1,hg];exact hA2 _ _ _
 have hc1:w1.heap[g]?=some (.cells (cdA p c) 26 (0,0)):=by rw[hw1,hg];exact h2G _ _ _
 have HB:Hid (∀ w2 m,Below w1.heap.size w1 w2->((w2.cell? ⟨g+1,0,none⟩=some (.string sb)/\w2.cell? ⟨g+1,1,none⟩=some (.int .i64 (r:Nat))/\w2.cell? ⟨g+1,2,none⟩=some (.bool kn)/\w2.cell? ⟨g+1,3,none⟩=some (.bool dn))/\bx4 p c w2 g)/\Below w.heap.size w w2/\Below w.heap.size w w2.drew/\Below w.heap.size w (w2.drewN m)):=fun w2 m B =>
  ⟨⟨box4_cells ((B.block _ hlt1).trans hs1),box4_cells ((B.block _ (by omega)).trans hc1)⟩,bdG B1 B,(bdG B1 B).drew,bd_drewN (bdG B1 B) m⟩
 have HW:Hid (∀ w2,Below w1.heap.size w1 w2->Below w.heap.size w w2):=fun w2 B=>bdG B1 B;have HG:=Lib.hid hg;have HSB:=Lib.hid hsb;have n1:(bs [1]).size=1:=bs_size _;have n2:(bs [2]).size=1:=bs_size _;have n3:(bs [3]).size=1:=bs_size _;clear hg hs1 hc1 B1 hsb;have hP:Hid (∀ u1 u2 u3:ByteArray,u1=bs [1]->u2=bs [2]->u3=bs [3]->∀ w',Below w.heap.size w w'->PostWd w (effE c 3 a b).1 (effE c 3 a b).2 (moreI 3) (fitE 3 a r) (.returned (.tuple #[.string (⟨#[]⟩),.string (u3),.int .i64 0,.bool (decide ((a:Int)<(r:Int)))])) w'):=fun u1 u2 u3 h1 h2 h3 w' B=>by
  subst h1 h2 h3;refine⟨?_,B⟩;have hf:fitE 3 a r=decide ((a:Int)<(r:Int)):=by
   unfold fitE;simp
  rw[hf];exact congrArg Ending.returned (by first|rfl|(simp only[bs_app];rfl))
 go_enter Tryd.func32,Tryd.ntmps32;go_upto_region 1 with fail;rw[<-hw1,<-HG.out];clear hw1;go_upto_region 4 with (first|(go_at_call 47;refine(C1 _).mono ?_;rintro e w2 ⟨rfl,B2⟩;have C1:=True.intro)|(go_at_call 47;refine(C2 _).mono ?_;rintro e w3 ⟨rfl,B3⟩;have C2:=True.intro)|(go_at_call 47;refine(C3 _).mono ?_;rintro e w4 ⟨rfl,B4⟩;have C3:=True.intro))
 have B5:=bdG (bdG B2 B3) B4;clear C1 C2 C3 B2 B3 B4;obtain⟨u1,hu1⟩:∃u1,u1=bs [1]:=⟨_,rfl⟩
 obtain⟨u2,hu2⟩:∃u2,u2=bs [2]:=⟨_,rfl⟩
 obtain⟨u3,hu3⟩:∃u3,u3=bs [3]:=⟨_,rfl⟩
 rw[<-hu1,<-hu2,<-hu3];rw[<-hu1] at n1;rw[<-hu2] at n2;rw[<-hu3] at n3;have U1:=Lib.hid hu1;have U2:=Lib.hid hu2;have U3:=Lib.hid hu3;clear hu1 hu2 hu3;have z11:¬maxLen<u1.size+u1.size:=by unfold maxLen;omega
 have z12:¬maxLen<u1.size+u2.size:=by unfold maxLen;omega
 have z33:¬maxLen<u3.size+u3.size:=by unfold maxLen;omega
 have z121:¬maxLen<(u1++u2).size+u1.size:=by rw[ByteArray.size_append];unfold maxLen;omega
 go_upto_region 10 with fail;obtain⟨⟨⟨s0,s1,s2,s3⟩,-⟩,-,hbd,-⟩:=HB.out _ 0 B5;have HBd:=Lib.hid hbd;clear HB hbd B5 s0 s2 s3;go_region;go_wp2;exact bodyPost_ret (v:=.tuple #[.string (⟨#[]⟩),.string (u3),.int .i64 0,.bool (decide ((a:Int)<(r:Int)))]) (by simp[results,Tryd.results32,go_sem]) rfl (hP.out _ _ _ U1.out U2.out U3.out _ HBd.out)
theorem word_1 (w:World)(p:Pl)(c:Cd)(s:St)(kn dn:Bool)(a b:Nat)(ha:a<268435456)(hb:b<268435456)(hr:s.2<=4)(hb2:b<256) :
  Calls Tryd.prog 32 #[cdV p c,sV s.1 s.2 kn dn,.int .i64 (1:Nat),.int .i64 (a:Nat),.int .i64 (b:Nat)] w (PostWd w (effE c 1 a b).1 (effE c 1 a b).2 (moreI 1) (fitE 1 a s.2)):=by
 obtain⟨l,r⟩:=s;simp only at hr ⊢;unfold sV;obtain⟨sb,hsb⟩:∃sb,sb=bs l:=⟨_,rfl⟩
 rw[<-hsb];have CC:=fun k hk wx=>code_c k wx hk;have C1:=CC 1 (by omega);have C2:=CC 2 (by omega);have C3:=CC 3 (by omega);rw[show ((1:Nat):Int)=1 from rfl] at C1;rw[show ((2:Nat):Int)=2 from rfl] at C2;rw[show ((3:Nat):Int)=3 from rfl] at C3;obtain⟨w1,hw1⟩:∃w1,w1=(w.alloc (.cells (cdA p c) 26)).alloc (.cells #[.string sb,.int .i64 (r:Nat),.bool kn,.bool dn] 51):=⟨_,rfl⟩
 have B1:Below w.heap.size w w1:=by rw[hw1];exact bG2 _ (bG _ _)
 obtain⟨g,hg⟩:∃g,g=w.heap.size:=⟨_,rfl⟩
 have hlt1:g+1<w1.heap.size:=by rw[hw1,hg];simp
 have hs1:w1.heap[g+1]?=some (.cells #[.string sb,.int .i64 (r:Nat),.bool kn,.bool dn] 51 (0,0)):=by rw[hw1,hg];exact hA2 _ _ _
 have hc1:w1.heap[g]?=some (.cells (cdA p c) 26 (0,0)):=by rw[hw1,hg];exact h2G _ _ _
 have HB:Hid (∀ w2 m,Below w1.heap.size w1 w2->((w2.cell? ⟨g+1,0,none⟩=some (.string sb)/\w2.cell? ⟨g+1,1,none⟩=some (.int .i64 (r:Nat))/\w2.cell? ⟨g+1,2,none⟩=some (.bool kn)/\w2.cell? ⟨g+1,3,none⟩=some (.bool dn))/\bx4 p c w2 g)/\Below w.heap.size w w2/\Below w.heap.size w w2.drew/\Below w.heap.size w (w2.drewN m)):=fun w2 m B =>
  ⟨⟨box4_cells ((B.block _ hlt1).trans hs1),box4_cells ((B.block _ (by omega)).trans hc1)⟩,bdG B1 B,(bdG B1 B).drew,bd_drewN (bdG B1 B) m⟩
 have HW:Hid (∀ w2,Below w1.heap.size w1 w2->Below w.heap.size w w2):=fun w2 B=>bdG B1 B;have HG:=Lib.hid hg;have HSB:=Lib.hid hsb;have n1:(bs [1]).size=1:=bs_size _;have n2:(bs [2]).size=1:=bs_size _;have n3:(bs [3]).size=1:=bs_size _;clear hg hs1 hc1 B1 hsb;have Cb:=CC b hb2;have hP:Hid (∀ w',Below w.heap.size w w'->PostWd w (effE c 1 a b).1 (effE c 1 a b).2 (moreI 1) (fitE 1 a r) (.returned (.tuple #[.string ⟨#[]⟩,.string (bs [b]),.int .i64 0,.bool true])) w'):=fun w' B=>⟨rfl,B⟩;go_enter Tryd.func32,Tryd.ntmps32;go_upto_region 1 with fail;rw[<-hw1,<-HG.out];clear hw1;go_upto_region 4 with (first|(go_at_call 47;refine(C1 _).mono ?_;rintro e w2 ⟨rfl,B2⟩;have C1:=True.intro)|(go_at_call 47;refine(C2 _).mono ?_;rintro e w3 ⟨rfl,B3⟩;have C2:=True.intro)|(go_at_call 47;refine(C3 _).mono ?_;rintro e w4 ⟨rfl,B4⟩;have C3:=True.intro))
 have B5:=bdG (bdG B2 B3) B4;clear C1 C2 C3 B2 B3 B4;obtain⟨u1,hu1⟩:∃u1,u1=bs [1]:=⟨_,rfl⟩
 obtain⟨u2,hu2⟩:∃u2,u2=bs [2]:=⟨_,rfl⟩
 obtain⟨u3,hu3⟩:∃u3,u3=bs [3]:=⟨_,rfl⟩
 rw[<-hu1,<-hu2,<-hu3];rw[<-hu1] at n1;rw[<-hu2] at n2;rw[<-hu3] at n3;have U1:=Lib.hid hu1;have U2:=Lib.hid hu2;have U3:=Lib.hid hu3;clear hu1 hu2 hu3;have z11:¬maxLen<u1.size+u1.size:=by unfold maxLen;omega
 have z12:¬maxLen<u1.size+u2.size:=by unfold maxLen;omega
 have z33:¬maxLen<u3.size+u3.size:=by unfold maxLen;omega
 have z121:¬maxLen<(u1++u2).size+u1.size:=by rw[ByteArray.size_append];unfold maxLen;omega
 go_wp2_with (first|(go_at_call 47;refine(Cb _).mono ?_;rintro e w6 ⟨rfl,B6⟩));exact bodyPost_ret (v:=.tuple #[.string ⟨#[]⟩,.string (bs [b]),.int .i64 0,.bool true]) (by simp[results,Tryd.results32,go_sem]) rfl (hP.out _ (HW.out _ (bdG B5 B6)))
theorem word_11 (w:World)(p:Pl)(c:Cd)(s:St)(kn dn:Bool)(a b:Nat)(ha:a<268435456)(hb:b<268435456)(hr:s.2<=4)(hb2:b<256) :
  Calls Tryd.prog 32 #[cdV p c,sV s.1 s.2 kn dn,.int .i64 (11:Nat),.int .i64 (a:Nat),.int .i64 (b:Nat)] w (PostWd w (effE c 11 a b).1 (effE c 11 a b).2 (moreI 11) (fitE 11 a s.2)):=by
 obtain⟨l,r⟩:=s;simp only at hr ⊢;unfold sV;obtain⟨sb,hsb⟩:∃sb,sb=bs l:=⟨_,rfl⟩
 rw[<-hsb];have CC:=fun k hk wx=>code_c k wx hk;have C1:=CC 1 (by omega);have C2:=CC 2 (by omega);have C3:=CC 3 (by omega);rw[show ((1:Nat):Int)=1 from rfl] at C1;rw[show ((2:Nat):Int)=2 from rfl] at C2;rw[show ((3:Nat):Int)=3 from rfl] at C3;obtain⟨w1,hw1⟩:∃w1,w1=(w.alloc (.cells (cdA p c) 26)).alloc (.cells #[.string sb,.int .i64 (r:Nat),.bool kn,.bool dn] 51):=⟨_,rfl⟩
 have B1:Below w.heap.size w w1:=by rw[hw1];exact bG2 _ (bG _ _)
 obtain⟨g,hg⟩:∃g,g=w.heap.size:=⟨_,rfl⟩
 have hlt1:g+1<w1.heap.size:=by rw[hw1,hg];simp
 have hs1:w1.heap[g+1]?=some (.cells #[.string sb,.int .i64 (r:Nat),.bool kn,.bool dn] 51 (0,0)):=by rw[hw1,hg];exact hA2 _ _ _
 have hc1:w1.heap[g]?=some (.cells (cdA p c) 26 (0,0)):=by rw[hw1,hg];exact h2G _ _ _
 have HB:Hid (∀ w2 m,Below w1.heap.size w1 w2->((w2.cell? ⟨g+1,0,none⟩=some (.string sb)/\w2.cell? ⟨g+1,1,none⟩=some (.int .i64 (r:Nat))/\w2.cell? ⟨g+1,2,none⟩=some (.bool kn)/\w2.cell? ⟨g+1,3,none⟩=some (.bool dn))/\bx4 p c w2 g)/\Below w.heap.size w w2/\Below w.heap.size w w2.drew/\Below w.heap.size w (w2.drewN m)):=fun w2 m B =>
  ⟨⟨box4_cells ((B.block _ hlt1).trans hs1),box4_cells ((B.block _ (by omega)).trans hc1)⟩,bdG B1 B,(bdG B1 B).drew,bd_drewN (bdG B1 B) m⟩
 have HW:Hid (∀ w2,Below w1.heap.size w1 w2->Below w.heap.size w w2):=fun w2 B=>bdG B1 B;have HG:=Lib.hid hg;have HSB:=Lib.hid hsb;have n1:(bs [1]).size=1:=bs_size _;have n2:(bs [2]).size=1:=bs_size _;have n3:(bs [3]).size=1:=bs_size _;clear hg hs1 hc1 B1 hsb;have Cb:=CC b hb2;obtain⟨ub,hub⟩:∃ub,ub=bs [b]:=⟨_,rfl⟩
 rw[<-hub] at Cb;have zb:¬maxLen<ub.size+ub.size:=by rw[hub,bs_size];unfold maxLen;simp
 have hP:Hid (∀ u2,u2=bs [2]->∀ w',Below w.heap.size w w'->PostWd w (effE c 11 a b).1 (effE c 11 a b).2 (moreI 11) (fitE 11 a r) (.returned (.tuple #[.string (ub++ub),.string u2,.int .i64 0,.bool true])) w'):=fun u2 h2 w' B=>by
  rw[h2,hub,bs_app];exact⟨rfl,B⟩
 clear hub;go_enter Tryd.func32,Tryd.ntmps32;go_upto_region 1 with fail;rw[<-hw1,<-HG.out];clear hw1;go_upto_region 4 with (first|(go_at_call 47;refine(C1 _).mono ?_;rintro e w2 ⟨rfl,B2⟩;have C1:=True.intro)|(go_at_call 47;refine(C2 _).mono ?_;rintro e w3 ⟨rfl,B3⟩;have C2:=True.intro)|(go_at_call 47;refine(C3 _).mono ?_;rintro e w4 ⟨rfl,B4⟩;have C3:=True.intro))
 have B5:=bdG (bdG B2 B3) B4;clear C1 C2 C3 B2 B3 B4;obtain⟨u1,hu1⟩:∃u1,u1=bs [1]:=⟨_,rfl⟩
 obtain⟨u2,hu2⟩:∃u2,u2=bs [2]:=⟨_,rfl⟩
 obtain⟨u3,hu3⟩:∃u3,u3=bs [3]:=⟨_,rfl⟩
 rw[<-hu1,<-hu2,<-hu3];rw[<-hu1] at n1;rw[<-hu2] at n2;rw[<-hu3] at n3;have U1:=Lib.hid hu1;have U2:=Lib.hid hu2;have U3:=Lib.hid hu3;clear hu1 hu2 hu3;have z11:¬maxLen<u1.size+u1.size:=by unfold maxLen;omega
 have z12:¬maxLen<u1.size+u2.size:=by unfold maxLen;omega
 have z33:¬maxLen<u3.size+u3.size:=by unfold maxLen;omega
 have z121:¬maxLen<(u1++u2).size+u1.size:=by rw[ByteArray.size_append];unfold maxLen;omega
 go_wp2_with (first|(go_at_call 47;refine(Cb _).mono ?_;rintro e w6 ⟨rfl,B6⟩;have B5:=bdG B5 B6;have HBd:=Lib.hid (HW.out _ B5);clear B6));exact bodyPost_ret (v:=.tuple #[.string (ub++ub),.string u2,.int .i64 0,.bool true]) (by simp[results,Tryd.results32,go_sem]) rfl (hP.out _ U2.out _ HBd.out)
theorem word_16a (w:World)(p:Pl)(c:Cd)(s:St)(kn dn:Bool)(a b:Nat)(ha:a<268435456)(hb:b<268435456)(hr:s.2<=4)(h16:1<=a/\a<=10)(h3:a<=3) :
  Calls Tryd.prog 32 #[cdV p c,sV s.1 s.2 kn dn,.int .i64 (16:Nat),.int .i64 (a:Nat),.int .i64 (b:Nat)] w (PostWd w (effE c 16 a b).1 (effE c 16 a b).2 (moreI 16) (fitE 16 a s.2)):=by
 obtain⟨l,r⟩:=s;simp only at hr ⊢;unfold sV;obtain⟨sb,hsb⟩:∃sb,sb=bs l:=⟨_,rfl⟩
 rw[<-hsb];have CC:=fun k hk wx=>code_c k wx hk;have C1:=CC 1 (by omega);have C2:=CC 2 (by omega);have C3:=CC 3 (by omega);rw[show ((1:Nat):Int)=1 from rfl] at C1;rw[show ((2:Nat):Int)=2 from rfl] at C2;rw[show ((3:Nat):Int)=3 from rfl] at C3;obtain⟨w1,hw1⟩:∃w1,w1=(w.alloc (.cells (cdA p c) 26)).alloc (.cells #[.string sb,.int .i64 (r:Nat),.bool kn,.bool dn] 51):=⟨_,rfl⟩
 have B1:Below w.heap.size w w1:=by rw[hw1];exact bG2 _ (bG _ _)
 obtain⟨g,hg⟩:∃g,g=w.heap.size:=⟨_,rfl⟩
 have hlt1:g+1<w1.heap.size:=by rw[hw1,hg];simp
 have hs1:w1.heap[g+1]?=some (.cells #[.string sb,.int .i64 (r:Nat),.bool kn,.bool dn] 51 (0,0)):=by rw[hw1,hg];exact hA2 _ _ _
 have hc1:w1.heap[g]?=some (.cells (cdA p c) 26 (0,0)):=by rw[hw1,hg];exact h2G _ _ _
 have HB:Hid (∀ w2 m,Below w1.heap.size w1 w2->((w2.cell? ⟨g+1,0,none⟩=some (.string sb)/\w2.cell? ⟨g+1,1,none⟩=some (.int .i64 (r:Nat))/\w2.cell? ⟨g+1,2,none⟩=some (.bool kn)/\w2.cell? ⟨g+1,3,none⟩=some (.bool dn))/\bx4 p c w2 g)/\Below w.heap.size w w2/\Below w.heap.size w w2.drew/\Below w.heap.size w (w2.drewN m)):=fun w2 m B =>
  ⟨⟨box4_cells ((B.block _ hlt1).trans hs1),box4_cells ((B.block _ (by omega)).trans hc1)⟩,bdG B1 B,(bdG B1 B).drew,bd_drewN (bdG B1 B) m⟩
 have HW:Hid (∀ w2,Below w1.heap.size w1 w2->Below w.heap.size w w2):=fun w2 B=>bdG B1 B;have HG:=Lib.hid hg;have HSB:=Lib.hid hsb;have n1:(bs [1]).size=1:=bs_size _;have n2:(bs [2]).size=1:=bs_size _;have n3:(bs [3]).size=1:=bs_size _;clear hg hs1 hc1 B1 hsb;have GV:=fun wx=>gives_g a wx h16;have Cb:=CC (giveN a) (giveN_lt a);obtain⟨hx1,hx2⟩:=call_eff h16;rw[if_pos h3] at hx1;have h3I:(a:Int)<=3:=by omega
 obtain⟨ub,hub⟩:∃ub,ub=bs [giveN a]:=⟨_,rfl⟩
 rw[<-hub] at Cb;have hP:Hid (∀ u3,u3=bs [3]->∀ w',Below w.heap.size w w'->PostWd w (effE c 16 a b).1 (effE c 16 a b).2 (moreI 16) (fitE 16 a r) (.returned (.tuple #[.string (u3++u3),.string ub,.int .i64 0,.bool true])) w'):=fun u3 h2 w' B=>by
  have e1:effE c 16 a b=callE a:=rfl;rw[e1,hx1,hx2,hub,h2,bs_app];exact⟨rfl,B⟩
 clear hub hx1 hx2 h3;generalize giveN a=gv at *;go_enter Tryd.func32,Tryd.ntmps32;go_upto_region 1 with fail;rw[<-hw1,<-HG.out];clear hw1;go_upto_region 4 with (first|(go_at_call 47;refine(C1 _).mono ?_;rintro e w2 ⟨rfl,B2⟩;have C1:=True.intro)|(go_at_call 47;refine(C2 _).mono ?_;rintro e w3 ⟨rfl,B3⟩;have C2:=True.intro)|(go_at_call 47;refine(C3 _).mono ?_;rintro e w4 ⟨rfl,B4⟩;have C3:=True.intro))
 have B5:=bdG (bdG B2 B3) B4;clear C1 C2 C3 B2 B3 B4;obtain⟨u1,hu1⟩:∃u1,u1=bs [1]:=⟨_,rfl⟩
 obtain⟨u2,hu2⟩:∃u2,u2=bs [2]:=⟨_,rfl⟩
 obtain⟨u3,hu3⟩:∃u3,u3=bs [3]:=⟨_,rfl⟩
 rw[<-hu1,<-hu2,<-hu3];rw[<-hu1] at n1;rw[<-hu2] at n2;rw[<-hu3] at n3;have U1:=Lib.hid hu1;have U2:=Lib.hid hu2;have U3:=Lib.hid hu3;clear hu1 hu2 hu3;have z11:¬maxLen<u1.size+u1.size:=by unfold maxLen;omega
 have z12:¬maxLen<u1.size+u2.size:=by unfold maxLen;omega
 have z33:¬maxLen<u3.size+u3.size:=by unfold maxLen;omega
 have z121:¬maxLen<(u1++u2).size+u1.size:=by rw[ByteArray.size_append];unfold maxLen;omega
 go_wp2_with (first|(go_at_call 48;refine(GV _).mono ?_;rintro e w5 ⟨rfl,rfl⟩)|(go_at_call 47;refine(Cb _).mono ?_;rintro e w6 ⟨rfl,B6⟩;have HBd:=Lib.hid (HW.out _ (bdG B5 B6));clear B6));exact bodyPost_ret (v:=.tuple #[.string (u3++u3),.string ub,.int .i64 0,.bool true]) (by simp[results,Tryd.results32,go_sem]) rfl (hP.out _ U3.out _ HBd.out)
theorem word_16b (w:World)(p:Pl)(c:Cd)(s:St)(kn dn:Bool)(a b:Nat)(ha:a<268435456)(hb:b<268435456)(hr:s.2<=4)(h16:1<=a/\a<=10)(h3:¬a<=3) :
  Calls Tryd.prog 32 #[cdV p c,sV s.1 s.2 kn dn,.int .i64 (16:Nat),.int .i64 (a:Nat),.int .i64 (b:Nat)] w (PostWd w (effE c 16 a b).1 (effE c 16 a b).2 (moreI 16) (fitE 16 a s.2)):=by
 obtain⟨l,r⟩:=s;simp only at hr ⊢;unfold sV;obtain⟨sb,hsb⟩:∃sb,sb=bs l:=⟨_,rfl⟩
 rw[<-hsb];have CC:=fun k hk wx=>code_c k wx hk;have C1:=CC 1 (by omega);have C2:=CC 2 (by omega);have C3:=CC 3 (by omega);rw[show ((1:Nat):Int)=1 from rfl] at C1;rw[show ((2:Nat):Int)=2 from rfl] at C2;rw[show ((3:Nat):Int)=3 from rfl] at C3;obtain⟨w1,hw1⟩:∃w1,w1=(w.alloc (.cells (cdA p c) 26)).alloc (.cells #[.string sb,.int .i64 (r:Nat),.bool kn,.bool dn] 51):=⟨_,rfl⟩
 have B1:Below w.heap.size w w1:=by rw[hw1];exact bG2 _ (bG _ _)
 obtain⟨g,hg⟩:∃g,g=w.heap.size:=⟨_,rfl⟩
 have hlt1:g+1<w1.heap.size:=by rw[hw1,hg];simp
 have hs1:w1.heap[g+1]?=some (.cells #[.string sb,.int .i64 (r:Nat),.bool kn,.bool dn] 51 (0,0)):=by rw[hw1,hg];exact hA2 _ _ _
 have hc1:w1.heap[g]?=some (.cells (cdA p c) 26 (0,0)):=by rw[hw1,hg];exact h2G _ _ _
 have HB:Hid (∀ w2 m,Below w1.heap.size w1 w2->((w2.cell? ⟨g+1,0,none⟩=some (.string sb)/\w2.cell? ⟨g+1,1,none⟩=some (.int .i64 (r:Nat))/\w2.cell? ⟨g+1,2,none⟩=some (.bool kn)/\w2.cell? ⟨g+1,3,none⟩=some (.bool dn))/\bx4 p c w2 g)/\Below w.heap.size w w2/\Below w.heap.size w w2.drew/\Below w.heap.size w (w2.drewN m)):=fun w2 m B =>
  ⟨⟨box4_cells ((B.block _ hlt1).trans hs1),box4_cells ((B.block _ (by omega)).trans hc1)⟩,bdG B1 B,(bdG B1 B).drew,bd_drewN (bdG B1 B) m⟩
 have HW:Hid (∀ w2,Below w1.heap.size w1 w2->Below w.heap.size w w2):=fun w2 B=>bdG B1 B;have HG:=Lib.hid hg;have HSB:=Lib.hid hsb;have n1:(bs [1]).size=1:=bs_size _;have n2:(bs [2]).size=1:=bs_size _;have n3:(bs [3]).size=1:=bs_size _;clear hg hs1 hc1 B1 hsb;have GV:=fun wx=>gives_g a wx h16;have Cb:=CC (giveN a) (giveN_lt a);obtain⟨hx1,hx2⟩:=call_eff h16;rw[if_neg h3] at hx1;have h3I:¬(a:Int)<=3:=by omega
 obtain⟨ub,hub⟩:∃ub,ub=bs [giveN a]:=⟨_,rfl⟩
 rw[<-hub] at Cb;have hP:Hid (∀ u3,u3=bs [3]->∀ w',Below w.heap.size w w'->PostWd w (effE c 16 a b).1 (effE c 16 a b).2 (moreI 16) (fitE 16 a r) (.returned (.tuple #[.string (u3),.string ub,.int .i64 0,.bool true])) w'):=fun u3 h2 w' B=>by
  have e1:effE c 16 a b=callE a:=rfl;rw[e1,hx1,hx2,hub,h2];exact⟨rfl,B⟩
 clear hub hx1 hx2 h3;generalize giveN a=gv at *;go_enter Tryd.func32,Tryd.ntmps32;go_upto_region 1 with fail;rw[<-hw1,<-HG.out];clear hw1;go_upto_region 4 with (first|(go_at_call 47;refine(C1 _).mono ?_;rintro e w2 ⟨rfl,B2⟩;have C1:=True.intro)|(go_at_call 47;refine(C2 _).mono ?_;rintro e w3 ⟨rfl,B3⟩;have C2:=True.intro)|(go_at_call 47;refine(C3 _).mono ?_;rintro e w4 ⟨rfl,B4⟩;have C3:=True.intro))
 have B5:=bdG (bdG B2 B3) B4;clear C1 C2 C3 B2 B3 B4;obtain⟨u1,hu1⟩:∃u1,u1=bs [1]:=⟨_,rfl⟩
 obtain⟨u2,hu2⟩:∃u2,u2=bs [2]:=⟨_,rfl⟩
 obtain⟨u3,hu3⟩:∃u3,u3=bs [3]:=⟨_,rfl⟩
 rw[<-hu1,<-hu2,<-hu3];rw[<-hu1] at n1;rw[<-hu2] at n2;rw[<-hu3] at n3;have U1:=Lib.hid hu1;have U2:=Lib.hid hu2;have U3:=Lib.hid hu3;clear hu1 hu2 hu3;have z11:¬maxLen<u1.size+u1.size:=by unfold maxLen;omega
 have z12:¬maxLen<u1.size+u2.size:=by unfold maxLen;omega
 have z33:¬maxLen<u3.size+u3.size:=by unfold maxLen;omega
 have z121:¬maxLen<(u1++u2).size+u1.size:=by rw[ByteArray.size_append];unfold maxLen;omega
 go_wp2_with (first|(go_at_call 48;refine(GV _).mono ?_;rintro e w5 ⟨rfl,rfl⟩)|(go_at_call 47;refine(Cb _).mono ?_;rintro e w6 ⟨rfl,B6⟩;have HBd:=Lib.hid (HW.out _ (bdG B5 B6));clear B6));exact bodyPost_ret (v:=.tuple #[.string (u3),.string ub,.int .i64 0,.bool true]) (by simp[results,Tryd.results32,go_sem]) rfl (hP.out _ U3.out _ HBd.out)
theorem word_18 (w:World)(p:Pl)(c:Cd)(s:St)(kn dn:Bool)(a b:Nat)(ha:a<268435456)(hb:b<268435456)(hr:s.2<=4)(hC:CdW w p c)(hk:a<c.ks.length)(hkk:c.ks[a]=((kdC c a:Nat):Int))(hkd:kdC c a<256) :
  Calls Tryd.prog 32 #[cdV p c,sV s.1 s.2 kn dn,.int .i64 (18:Nat),.int .i64 (a:Nat),.int .i64 (b:Nat)] w (PostWd w (effE c 18 a b).1 (effE c 18 a b).2 (moreI 18) (fitE 18 a s.2)):=by
 obtain⟨l,r⟩:=s;simp only at hr ⊢;unfold sV;obtain⟨sb,hsb⟩:∃sb,sb=bs l:=⟨_,rfl⟩
 rw[<-hsb];have CC:=fun k hk wx=>code_c k wx hk;have C1:=CC 1 (by omega);have C2:=CC 2 (by omega);have C3:=CC 3 (by omega);rw[show ((1:Nat):Int)=1 from rfl] at C1;rw[show ((2:Nat):Int)=2 from rfl] at C2;rw[show ((3:Nat):Int)=3 from rfl] at C3;obtain⟨w1,hw1⟩:∃w1,w1=(w.alloc (.cells (cdA p c) 26)).alloc (.cells #[.string sb,.int .i64 (r:Nat),.bool kn,.bool dn] 51):=⟨_,rfl⟩
 have B1:Below w.heap.size w w1:=by rw[hw1];exact bG2 _ (bG _ _)
 obtain⟨g,hg⟩:∃g,g=w.heap.size:=⟨_,rfl⟩
 have hlt1:g+1<w1.heap.size:=by rw[hw1,hg];simp
 have hs1:w1.heap[g+1]?=some (.cells #[.string sb,.int .i64 (r:Nat),.bool kn,.bool dn] 51 (0,0)):=by rw[hw1,hg];exact hA2 _ _ _
 have hc1:w1.heap[g]?=some (.cells (cdA p c) 26 (0,0)):=by rw[hw1,hg];exact h2G _ _ _
 have HB:Hid (∀ w2 m,Below w1.heap.size w1 w2->((w2.cell? ⟨g+1,0,none⟩=some (.string sb)/\w2.cell? ⟨g+1,1,none⟩=some (.int .i64 (r:Nat))/\w2.cell? ⟨g+1,2,none⟩=some (.bool kn)/\w2.cell? ⟨g+1,3,none⟩=some (.bool dn))/\bx4 p c w2 g)/\Below w.heap.size w w2/\Below w.heap.size w w2.drew/\Below w.heap.size w (w2.drewN m)):=fun w2 m B =>
  ⟨⟨box4_cells ((B.block _ hlt1).trans hs1),box4_cells ((B.block _ (by omega)).trans hc1)⟩,bdG B1 B,(bdG B1 B).drew,bd_drewN (bdG B1 B) m⟩
 have HW:Hid (∀ w2,Below w1.heap.size w1 w2->Below w.heap.size w w2):=fun w2 B=>bdG B1 B;have HG:=Lib.hid hg;have HSB:=Lib.hid hsb;have n1:(bs [1]).size=1:=bs_size _;have n2:(bs [2]).size=1:=bs_size _;have n3:(bs [3]).size=1:=bs_size _;clear hg hs1 hc1 B1 hsb;have Cb:=CC (kdC c a) hkd;have hP:Hid (∀ w',Below w.heap.size w w'->PostWd w (effE c 18 a b).1 (effE c 18 a b).2 (moreI 18) (fitE 18 a r) (.returned (.tuple #[.string (bs [kdC c a]),.string (bs [kdC c a]),.int .i64 0,.bool true])) w'):=fun w' B=>⟨rfl,B⟩;have hlk:=hC.lk;obtain⟨kb,ko,hka,hkl,hkc⟩:=hC.ks.at (isV_get hk);rw[hkk] at hkc;have hltI:(a:Int)<(c.ks.length:Int):=by omega
 have HK:Hid (∀ w2,Below w1.heap.size w1 w2->w2.cell? ⟨kb,ko+a,none⟩=some (.int .i64 (kdC c a:Nat))/\w2.cell? ⟨g,3,none⟩=some (.slice (some ⟨kb,ko,none⟩) c.ks.length p.ck)):=fun w2 B =>
  ⟨((HW.out _ B).cell (p:=⟨kb,ko+a,none⟩) hkl).trans hkc,by rw[<-hka];exact((HB.out _ 0 B).1.2).2.2.2⟩
 generalize kdC c a=kd at *;clear hC hkc hkk hkl hk HB;go_enter Tryd.func32,Tryd.ntmps32;go_upto_region 1 with fail;rw[<-hw1,<-HG.out];clear hw1;go_upto_region 4 with (first|(go_at_call 47;refine(C1 _).mono ?_;rintro e w2 ⟨rfl,B2⟩;have C1:=True.intro)|(go_at_call 47;refine(C2 _).mono ?_;rintro e w3 ⟨rfl,B3⟩;have C2:=True.intro)|(go_at_call 47;refine(C3 _).mono ?_;rintro e w4 ⟨rfl,B4⟩;have C3:=True.intro))
 have B5:=bdG (bdG B2 B3) B4;clear C1 C2 C3 B2 B3 B4;obtain⟨u1,hu1⟩:∃u1,u1=bs [1]:=⟨_,rfl⟩
 obtain⟨u2,hu2⟩:∃u2,u2=bs [2]:=⟨_,rfl⟩
 obtain⟨u3,hu3⟩:∃u3,u3=bs [3]:=⟨_,rfl⟩
 rw[<-hu1,<-hu2,<-hu3];rw[<-hu1] at n1;rw[<-hu2] at n2;rw[<-hu3] at n3;have U1:=Lib.hid hu1;have U2:=Lib.hid hu2;have U3:=Lib.hid hu3;clear hu1 hu2 hu3;have z11:¬maxLen<u1.size+u1.size:=by unfold maxLen;omega
 have z12:¬maxLen<u1.size+u2.size:=by unfold maxLen;omega
 have z33:¬maxLen<u3.size+u3.size:=by unfold maxLen;omega
 have z121:¬maxLen<(u1++u2).size+u1.size:=by rw[ByteArray.size_append];unfold maxLen;omega
 go_upto_region 34 with fail;have B5d:=B5.drew;obtain⟨d1,d2⟩:=HK.out _ B5d;go_region_held3 (fun wx=>wx.cell? ⟨kb,ko+a,none⟩=some (.int .i64 (kd:Nat))/\wx.cell? ⟨g,3,none⟩=some (.slice (some ⟨kb,ko,none⟩) c.ks.length p.ck)) (first|exact HK.out _ B5d|go_keep) ((go_at_call 47;refine(Cb _).mono ?_;rintro e w6 ⟨rfl,B6⟩;have B5d:=bdG B5d B6;obtain⟨d1,d2⟩:=HK.out _ B5d))
 all_goals go_wp2
 all_goals exact bodyPost_ret (v:=.tuple #[.string (bs [kd]),.string (bs [kd]),.int .i64 0,.bool true]) (by simp[results,Tryd.results32,go_sem]) rfl (hP.out _ (HW.out _ B5d))
theorem word_13 (w:World)(p:Pl)(c:Cd)(s:St)(kn dn:Bool)(a b:Nat)(ha:a<268435456)(hb:b<268435456)(hr:s.2<=4) :
  Calls Tryd.prog 32 #[cdV p c,sV s.1 s.2 kn dn,.int .i64 (13:Nat),.int .i64 (a:Nat),.int .i64 (b:Nat)] w (PostWd w (effE c 13 a b).1 (effE c 13 a b).2 (moreI 13) (fitE 13 a s.2)):=by
 obtain⟨l,r⟩:=s;simp only at hr ⊢;unfold sV;obtain⟨sb,hsb⟩:∃sb,sb=bs l:=⟨_,rfl⟩
 rw[<-hsb];have CC:=fun k hk wx=>code_c k wx hk;have C1:=CC 1 (by omega);have C2:=CC 2 (by omega);have C3:=CC 3 (by omega);rw[show ((1:Nat):Int)=1 from rfl] at C1;rw[show ((2:Nat):Int)=2 from rfl] at C2;rw[show ((3:Nat):Int)=3 from rfl] at C3;obtain⟨w1,hw1⟩:∃w1,w1=(w.alloc (.cells (cdA p c) 26)).alloc (.cells #[.string sb,.int .i64 (r:Nat),.bool kn,.bool dn] 51):=⟨_,rfl⟩
 have B1:Below w.heap.size w w1:=by rw[hw1];exact bG2 _ (bG _ _)
 obtain⟨g,hg⟩:∃g,g=w.heap.size:=⟨_,rfl⟩
 have hlt1:g+1<w1.heap.size:=by rw[hw1,hg];simp
 have hs1:w1.heap[g+1]?=some (.cells #[.string sb,.int .i64 (r:Nat),.bool kn,.bool dn] 51 (0,0)):=by rw[hw1,hg];exact hA2 _ _ _
 have hc1:w1.heap[g]?=some (.cells (cdA p c) 26 (0,0)):=by rw[hw1,hg];exact h2G _ _ _
 have HB:Hid (∀ w2 m,Below w1.heap.size w1 w2->((w2.cell? ⟨g+1,0,none⟩=some (.string sb)/\w2.cell? ⟨g+1,1,none⟩=some (.int .i64 (r:Nat))/\w2.cell? ⟨g+1,2,none⟩=some (.bool kn)/\w2.cell? ⟨g+1,3,none⟩=some (.bool dn))/\bx4 p c w2 g)/\Below w.heap.size w w2/\Below w.heap.size w w2.drew/\Below w.heap.size w (w2.drewN m)):=fun w2 m B =>
  ⟨⟨box4_cells ((B.block _ hlt1).trans hs1),box4_cells ((B.block _ (by omega)).trans hc1)⟩,bdG B1 B,(bdG B1 B).drew,bd_drewN (bdG B1 B) m⟩
 have HW:Hid (∀ w2,Below w1.heap.size w1 w2->Below w.heap.size w w2):=fun w2 B=>bdG B1 B;have HG:=Lib.hid hg;have HSB:=Lib.hid hsb;have n1:(bs [1]).size=1:=bs_size _;have n2:(bs [2]).size=1:=bs_size _;have n3:(bs [3]).size=1:=bs_size _;clear hg hs1 hc1 B1 hsb;have HR:=fun wx=>rounds_c c (l,r) kn dn 13 a b wx (by omega) (by omega) hr (by omega) (by omega);unfold sV at HR;simp only at HR;rw[<-HSB.out] at HR;have e0:((13:Nat):Int)=13:=rfl;rw[e0] at HR;unfold PostWd wrdV at HR ⊢;obtain⟨x1,hx1⟩:∃x1,x1=bs (effE c 13 a b).1:=⟨_,rfl⟩
 obtain⟨x2,hx2⟩:∃x2,x2=bs (effE c 13 a b).2:=⟨_,rfl⟩
 obtain⟨x3,hx3⟩:∃x3,x3=moreI 13:=⟨_,rfl⟩
 obtain⟨x4,hx4⟩:∃x4,x4=fitE 13 a r:=⟨_,rfl⟩
 simp only[<-hx1,<-hx2,<-hx3,<-hx4] at HR ⊢;clear e0 hx1 hx2 hx3 hx4;go_enter Tryd.func32,Tryd.ntmps32;go_upto_region 1 with fail;rw[<-hw1,<-HG.out];clear hw1;go_upto_region 4 with (first|(go_at_call 47;refine(C1 _).mono ?_;rintro e w2 ⟨rfl,B2⟩;have C1:=True.intro)|(go_at_call 47;refine(C2 _).mono ?_;rintro e w3 ⟨rfl,B3⟩;have C2:=True.intro)|(go_at_call 47;refine(C3 _).mono ?_;rintro e w4 ⟨rfl,B4⟩;have C3:=True.intro))
 have B5:=bdG (bdG B2 B3) B4;clear C1 C2 C3 B2 B3 B4;obtain⟨u1,hu1⟩:∃u1,u1=bs [1]:=⟨_,rfl⟩
 obtain⟨u2,hu2⟩:∃u2,u2=bs [2]:=⟨_,rfl⟩
 obtain⟨u3,hu3⟩:∃u3,u3=bs [3]:=⟨_,rfl⟩
 rw[<-hu1,<-hu2,<-hu3];rw[<-hu1] at n1;rw[<-hu2] at n2;rw[<-hu3] at n3;have U1:=Lib.hid hu1;have U2:=Lib.hid hu2;have U3:=Lib.hid hu3;clear hu1 hu2 hu3;have z11:¬maxLen<u1.size+u1.size:=by unfold maxLen;omega
 have z12:¬maxLen<u1.size+u2.size:=by unfold maxLen;omega
 have z33:¬maxLen<u3.size+u3.size:=by unfold maxLen;omega
 have z121:¬maxLen<(u1++u2).size+u1.size:=by rw[ByteArray.size_append];unfold maxLen;omega
 obtain⟨⟨⟨s0,s1,s2,s3⟩,-⟩,-,-,-⟩:=HB.out _ 0 B5;clear HB;go_wp2_with (first|(go_at_call 49;refine(HR _).mono ?_;rintro e w6 ⟨rfl,B6⟩;have HBd:=Lib.hid (HW.out _ (bdG B5 B6));clear B6));exact bodyPost_ret (v:=.tuple #[.string x1,.string x2,.int .i64 x3,.bool x4]) (by simp[results,Tryd.results32,go_sem]) rfl ⟨rfl,HBd.out⟩
theorem word_17 (w:World)(p:Pl)(c:Cd)(s:St)(kn dn:Bool)(a b:Nat)(ha:a<268435456)(hb:b<268435456)(hr:s.2<=4) :
  Calls Tryd.prog 32 #[cdV p c,sV s.1 s.2 kn dn,.int .i64 (17:Nat),.int .i64 (a:Nat),.int .i64 (b:Nat)] w (PostWd w (effE c 17 a b).1 (effE c 17 a b).2 (moreI 17) (fitE 17 a s.2)):=by
 obtain⟨l,r⟩:=s;simp only at hr ⊢;unfold sV;obtain⟨sb,hsb⟩:∃sb,sb=bs l:=⟨_,rfl⟩
 rw[<-hsb];have CC:=fun k hk wx=>code_c k wx hk;have C1:=CC 1 (by omega);have C2:=CC 2 (by omega);have C3:=CC 3 (by omega);rw[show ((1:Nat):Int)=1 from rfl] at C1;rw[show ((2:Nat):Int)=2 from rfl] at C2;rw[show ((3:Nat):Int)=3 from rfl] at C3;obtain⟨w1,hw1⟩:∃w1,w1=(w.alloc (.cells (cdA p c) 26)).alloc (.cells #[.string sb,.int .i64 (r:Nat),.bool kn,.bool dn] 51):=⟨_,rfl⟩
 have B1:Below w.heap.size w w1:=by rw[hw1];exact bG2 _ (bG _ _)
 obtain⟨g,hg⟩:∃g,g=w.heap.size:=⟨_,rfl⟩
 have hlt1:g+1<w1.heap.size:=by rw[hw1,hg];simp
 have hs1:w1.heap[g+1]?=some (.cells #[.string sb,.int .i64 (r:Nat),.bool kn,.bool dn] 51 (0,0)):=by rw[hw1,hg];exact hA2 _ _ _
 have hc1:w1.heap[g]?=some (.cells (cdA p c) 26 (0,0)):=by rw[hw1,hg];exact h2G _ _ _
 have HB:Hid (∀ w2 m,Below w1.heap.size w1 w2->((w2.cell? ⟨g+1,0,none⟩=some (.string sb)/\w2.cell? ⟨g+1,1,none⟩=some (.int .i64 (r:Nat))/\w2.cell? ⟨g+1,2,none⟩=some (.bool kn)/\w2.cell? ⟨g+1,3,none⟩=some (.bool dn))/\bx4 p c w2 g)/\Below w.heap.size w w2/\Below w.heap.size w w2.drew/\Below w.heap.size w (w2.drewN m)):=fun w2 m B =>
  ⟨⟨box4_cells ((B.block _ hlt1).trans hs1),box4_cells ((B.block _ (by omega)).trans hc1)⟩,bdG B1 B,(bdG B1 B).drew,bd_drewN (bdG B1 B) m⟩
 have HW:Hid (∀ w2,Below w1.heap.size w1 w2->Below w.heap.size w w2):=fun w2 B=>bdG B1 B;have HG:=Lib.hid hg;have HSB:=Lib.hid hsb;have n1:(bs [1]).size=1:=bs_size _;have n2:(bs [2]).size=1:=bs_size _;have n3:(bs [3]).size=1:=bs_size _;clear hg hs1 hc1 B1 hsb;have HR:=fun wx=>rounds_c c (l,r) kn dn 17 a b wx (by omega) (by omega) hr (by omega) (by omega);unfold sV at HR;simp only at HR;rw[<-HSB.out] at HR;have e0:((17:Nat):Int)=17:=rfl;rw[e0] at HR;unfold PostWd wrdV at HR ⊢;obtain⟨x1,hx1⟩:∃x1,x1=bs (effE c 17 a b).1:=⟨_,rfl⟩
 obtain⟨x2,hx2⟩:∃x2,x2=bs (effE c 17 a b).2:=⟨_,rfl⟩
 obtain⟨x3,hx3⟩:∃x3,x3=moreI 17:=⟨_,rfl⟩
 obtain⟨x4,hx4⟩:∃x4,x4=fitE 17 a r:=⟨_,rfl⟩
 simp only[<-hx1,<-hx2,<-hx3,<-hx4] at HR ⊢;clear e0 hx1 hx2 hx3 hx4;go_enter Tryd.func32,Tryd.ntmps32;go_upto_region 1 with fail;rw[<-hw1,<-HG.out];clear hw1;go_upto_region 4 with (first|(go_at_call 47;refine(C1 _).mono ?_;rintro e w2 ⟨rfl,B2⟩;have C1:=True.intro)|(go_at_call 47;refine(C2 _).mono ?_;rintro e w3 ⟨rfl,B3⟩;have C2:=True.intro)|(go_at_call 47;refine(C3 _).mono ?_;rintro e w4 ⟨rfl,B4⟩;have C3:=True.intro))
 have B5:=bdG (bdG B2 B3) B4;clear C1 C2 C3 B2 B3 B4;obtain⟨u1,hu1⟩:∃u1,u1=bs [1]:=⟨_,rfl⟩
 obtain⟨u2,hu2⟩:∃u2,u2=bs [2]:=⟨_,rfl⟩
 obtain⟨u3,hu3⟩:∃u3,u3=bs [3]:=⟨_,rfl⟩
 rw[<-hu1,<-hu2,<-hu3];rw[<-hu1] at n1;rw[<-hu2] at n2;rw[<-hu3] at n3;have U1:=Lib.hid hu1;have U2:=Lib.hid hu2;have U3:=Lib.hid hu3;clear hu1 hu2 hu3;have z11:¬maxLen<u1.size+u1.size:=by unfold maxLen;omega
 have z12:¬maxLen<u1.size+u2.size:=by unfold maxLen;omega
 have z33:¬maxLen<u3.size+u3.size:=by unfold maxLen;omega
 have z121:¬maxLen<(u1++u2).size+u1.size:=by rw[ByteArray.size_append];unfold maxLen;omega
 obtain⟨⟨⟨s0,s1,s2,s3⟩,-⟩,-,-,-⟩:=HB.out _ 0 B5;clear HB;go_wp2_with (first|(go_at_call 49;refine(HR _).mono ?_;rintro e w6 ⟨rfl,B6⟩;have HBd:=Lib.hid (HW.out _ (bdG B5 B6));clear B6));exact bodyPost_ret (v:=.tuple #[.string x1,.string x2,.int .i64 x3,.bool x4]) (by simp[results,Tryd.results32,go_sem]) rfl ⟨rfl,HBd.out⟩
theorem word_19 (w:World)(p:Pl)(c:Cd)(s:St)(kn dn:Bool)(a b:Nat)(ha:a<268435456)(hb:b<268435456)(hr:s.2<=4) :
  Calls Tryd.prog 32 #[cdV p c,sV s.1 s.2 kn dn,.int .i64 (19:Nat),.int .i64 (a:Nat),.int .i64 (b:Nat)] w (PostWd w (effE c 19 a b).1 (effE c 19 a b).2 (moreI 19) (fitE 19 a s.2)):=by
 obtain⟨l,r⟩:=s;simp only at hr ⊢;unfold sV;obtain⟨sb,hsb⟩:∃sb,sb=bs l:=⟨_,rfl⟩
 rw[<-hsb];have CC:=fun k hk wx=>code_c k wx hk;have C1:=CC 1 (by omega);have C2:=CC 2 (by omega);have C3:=CC 3 (by omega);rw[show ((1:Nat):Int)=1 from rfl] at C1;rw[show ((2:Nat):Int)=2 from rfl] at C2;rw[show ((3:Nat):Int)=3 from rfl] at C3;obtain⟨w1,hw1⟩:∃w1,w1=(w.alloc (.cells (cdA p c) 26)).alloc (.cells #[.string sb,.int .i64 (r:Nat),.bool kn,.bool dn] 51):=⟨_,rfl⟩
 have B1:Below w.heap.size w w1:=by rw[hw1];exact bG2 _ (bG _ _)
 obtain⟨g,hg⟩:∃g,g=w.heap.size:=⟨_,rfl⟩
 have hlt1:g+1<w1.heap.size:=by rw[hw1,hg];simp
 have hs1:w1.heap[g+1]?=some (.cells #[.string sb,.int .i64 (r:Nat),.bool kn,.bool dn] 51 (0,0)):=by rw[hw1,hg];exact hA2 _ _ _
 have hc1:w1.heap[g]?=some (.cells (cdA p c) 26 (0,0)):=by rw[hw1,hg];exact h2G _ _ _
 have HB:Hid (∀ w2 m,Below w1.heap.size w1 w2->((w2.cell? ⟨g+1,0,none⟩=some (.string sb)/\w2.cell? ⟨g+1,1,none⟩=some (.int .i64 (r:Nat))/\w2.cell? ⟨g+1,2,none⟩=some (.bool kn)/\w2.cell? ⟨g+1,3,none⟩=some (.bool dn))/\bx4 p c w2 g)/\Below w.heap.size w w2/\Below w.heap.size w w2.drew/\Below w.heap.size w (w2.drewN m)):=fun w2 m B =>
  ⟨⟨box4_cells ((B.block _ hlt1).trans hs1),box4_cells ((B.block _ (by omega)).trans hc1)⟩,bdG B1 B,(bdG B1 B).drew,bd_drewN (bdG B1 B) m⟩
 have HW:Hid (∀ w2,Below w1.heap.size w1 w2->Below w.heap.size w w2):=fun w2 B=>bdG B1 B;have HG:=Lib.hid hg;have HSB:=Lib.hid hsb;have n1:(bs [1]).size=1:=bs_size _;have n2:(bs [2]).size=1:=bs_size _;have n3:(bs [3]).size=1:=bs_size _;clear hg hs1 hc1 B1 hsb;have HR:=fun wx=>rounds_c c (l,r) kn dn 19 a b wx (by omega) (by omega) hr (by omega) (by omega);unfold sV at HR;simp only at HR;rw[<-HSB.out] at HR;have e0:((19:Nat):Int)=19:=rfl;rw[e0] at HR;unfold PostWd wrdV at HR ⊢;obtain⟨x1,hx1⟩:∃x1,x1=bs (effE c 19 a b).1:=⟨_,rfl⟩
 obtain⟨x2,hx2⟩:∃x2,x2=bs (effE c 19 a b).2:=⟨_,rfl⟩
 obtain⟨x3,hx3⟩:∃x3,x3=moreI 19:=⟨_,rfl⟩
 obtain⟨x4,hx4⟩:∃x4,x4=fitE 19 a r:=⟨_,rfl⟩
 simp only[<-hx1,<-hx2,<-hx3,<-hx4] at HR ⊢;clear e0 hx1 hx2 hx3 hx4;go_enter Tryd.func32,Tryd.ntmps32;go_upto_region 1 with fail;rw[<-hw1,<-HG.out];clear hw1;go_upto_region 4 with (first|(go_at_call 47;refine(C1 _).mono ?_;rintro e w2 ⟨rfl,B2⟩;have C1:=True.intro)|(go_at_call 47;refine(C2 _).mono ?_;rintro e w3 ⟨rfl,B3⟩;have C2:=True.intro)|(go_at_call 47;refine(C3 _).mono ?_;rintro e w4 ⟨rfl,B4⟩;have C3:=True.intro))
 have B5:=bdG (bdG B2 B3) B4;clear C1 C2 C3 B2 B3 B4;obtain⟨u1,hu1⟩:∃u1,u1=bs [1]:=⟨_,rfl⟩
 obtain⟨u2,hu2⟩:∃u2,u2=bs [2]:=⟨_,rfl⟩
 obtain⟨u3,hu3⟩:∃u3,u3=bs [3]:=⟨_,rfl⟩
 rw[<-hu1,<-hu2,<-hu3];rw[<-hu1] at n1;rw[<-hu2] at n2;rw[<-hu3] at n3;have U1:=Lib.hid hu1;have U2:=Lib.hid hu2;have U3:=Lib.hid hu3;clear hu1 hu2 hu3;have z11:¬maxLen<u1.size+u1.size:=by unfold maxLen;omega
 have z12:¬maxLen<u1.size+u2.size:=by unfold maxLen;omega
 have z33:¬maxLen<u3.size+u3.size:=by unfold maxLen;omega
 have z121:¬maxLen<(u1++u2).size+u1.size:=by rw[ByteArray.size_append];unfold maxLen;omega
 obtain⟨⟨⟨s0,s1,s2,s3⟩,-⟩,-,-,-⟩:=HB.out _ 0 B5;clear HB;go_wp2_with (first|(go_at_call 49;refine(HR _).mono ?_;rintro e w6 ⟨rfl,B6⟩;have HBd:=Lib.hid (HW.out _ (bdG B5 B6));clear B6));exact bodyPost_ret (v:=.tuple #[.string x1,.string x2,.int .i64 x3,.bool x4]) (by simp[results,Tryd.results32,go_sem]) rfl ⟨rfl,HBd.out⟩
theorem word_20 (w:World)(p:Pl)(c:Cd)(s:St)(kn dn:Bool)(a b:Nat)(ha:a<268435456)(hb:b<268435456)(hr:s.2<=4) :
  Calls Tryd.prog 32 #[cdV p c,sV s.1 s.2 kn dn,.int .i64 (20:Nat),.int .i64 (a:Nat),.int .i64 (b:Nat)] w (PostWd w (effE c 20 a b).1 (effE c 20 a b).2 (moreI 20) (fitE 20 a s.2)):=by
 obtain⟨l,r⟩:=s;simp only at hr ⊢;unfold sV;obtain⟨sb,hsb⟩:∃sb,sb=bs l:=⟨_,rfl⟩
 rw[<-hsb];have CC:=fun k hk wx=>code_c k wx hk;have C1:=CC 1 (by omega);have C2:=CC 2 (by omega);have C3:=CC 3 (by omega);rw[show ((1:Nat):Int)=1 from rfl] at C1;rw[show ((2:Nat):Int)=2 from rfl] at C2;rw[show ((3:Nat):Int)=3 from rfl] at C3;obtain⟨w1,hw1⟩:∃w1,w1=(w.alloc (.cells (cdA p c) 26)).alloc (.cells #[.string sb,.int .i64 (r:Nat),.bool kn,.bool dn] 51):=⟨_,rfl⟩
 have B1:Below w.heap.size w w1:=by rw[hw1];exact bG2 _ (bG _ _)
 obtain⟨g,hg⟩:∃g,g=w.heap.size:=⟨_,rfl⟩
 have hlt1:g+1<w1.heap.size:=by rw[hw1,hg];simp
 have hs1:w1.heap[g+1]?=some (.cells #[.string sb,.int .i64 (r:Nat),.bool kn,.bool dn] 51 (0,0)):=by rw[hw1,hg];exact hA2 _ _ _
 have hc1:w1.heap[g]?=some (.cells (cdA p c) 26 (0,0)):=by rw[hw1,hg];exact h2G _ _ _
 have HB:Hid (∀ w2 m,Below w1.heap.size w1 w2->((w2.cell? ⟨g+1,0,none⟩=some (.string sb)/\w2.cell? ⟨g+1,1,none⟩=some (.int .i64 (r:Nat))/\w2.cell? ⟨g+1,2,none⟩=some (.bool kn)/\w2.cell? ⟨g+1,3,none⟩=some (.bool dn))/\bx4 p c w2 g)/\Below w.heap.size w w2/\Below w.heap.size w w2.drew/\Below w.heap.size w (w2.drewN m)):=fun w2 m B =>
  ⟨⟨box4_cells ((B.block _ hlt1).trans hs1),box4_cells ((B.block _ (by omega)).trans hc1)⟩,bdG B1 B,(bdG B1 B).drew,bd_drewN (bdG B1 B) m⟩
 have HW:Hid (∀ w2,Below w1.heap.size w1 w2->Below w.heap.size w w2):=fun w2 B=>bdG B1 B;have HG:=Lib.hid hg;have HSB:=Lib.hid hsb;have n1:(bs [1]).size=1:=bs_size _;have n2:(bs [2]).size=1:=bs_size _;have n3:(bs [3]).size=1:=bs_size _;clear hg hs1 hc1 B1 hsb;have HR:=fun wx=>rounds_c c (l,r) kn dn 20 a b wx (by omega) (by omega) hr (by omega) (by omega);unfold sV at HR;simp only at HR;rw[<-HSB.out] at HR;have e0:((20:Nat):Int)=20:=rfl;rw[e0] at HR;unfold PostWd wrdV at HR ⊢;obtain⟨x1,hx1⟩:∃x1,x1=bs (effE c 20 a b).1:=⟨_,rfl⟩
 obtain⟨x2,hx2⟩:∃x2,x2=bs (effE c 20 a b).2:=⟨_,rfl⟩
 obtain⟨x3,hx3⟩:∃x3,x3=moreI 20:=⟨_,rfl⟩
 obtain⟨x4,hx4⟩:∃x4,x4=fitE 20 a r:=⟨_,rfl⟩
 simp only[<-hx1,<-hx2,<-hx3,<-hx4] at HR ⊢;clear e0 hx1 hx2 hx3 hx4;go_enter Tryd.func32,Tryd.ntmps32;go_upto_region 1 with fail;rw[<-hw1,<-HG.out];clear hw1;go_upto_region 4 with (first|(go_at_call 47;refine(C1 _).mono ?_;rintro e w2 ⟨rfl,B2⟩;have C1:=True.intro)|(go_at_call 47;refine(C2 _).mono ?_;rintro e w3 ⟨rfl,B3⟩;have C2:=True.intro)|(go_at_call 47;refine(C3 _).mono ?_;rintro e w4 ⟨rfl,B4⟩;have C3:=True.intro))
 have B5:=bdG (bdG B2 B3) B4;clear C1 C2 C3 B2 B3 B4;obtain⟨u1,hu1⟩:∃u1,u1=bs [1]:=⟨_,rfl⟩
 obtain⟨u2,hu2⟩:∃u2,u2=bs [2]:=⟨_,rfl⟩
 obtain⟨u3,hu3⟩:∃u3,u3=bs [3]:=⟨_,rfl⟩
 rw[<-hu1,<-hu2,<-hu3];rw[<-hu1] at n1;rw[<-hu2] at n2;rw[<-hu3] at n3;have U1:=Lib.hid hu1;have U2:=Lib.hid hu2;have U3:=Lib.hid hu3;clear hu1 hu2 hu3;have z11:¬maxLen<u1.size+u1.size:=by unfold maxLen;omega
 have z12:¬maxLen<u1.size+u2.size:=by unfold maxLen;omega
 have z33:¬maxLen<u3.size+u3.size:=by unfold maxLen;omega
 have z121:¬maxLen<(u1++u2).size+u1.size:=by rw[ByteArray.size_append];unfold maxLen;omega
 obtain⟨⟨⟨s0,s1,s2,s3⟩,-⟩,-,-,-⟩:=HB.out _ 0 B5;clear HB;go_wp2_with (first|(go_at_call 49;refine(HR _).mono ?_;rintro e w6 ⟨rfl,B6⟩;have HBd:=Lib.hid (HW.out _ (bdG B5 B6));clear B6));exact bodyPost_ret (v:=.tuple #[.string x1,.string x2,.int .i64 x3,.bool x4]) (by simp[results,Tryd.results32,go_sem]) rfl ⟨rfl,HBd.out⟩
theorem word_21 (w:World)(p:Pl)(c:Cd)(s:St)(kn dn:Bool)(a b:Nat)(ha:a<268435456)(hb:b<268435456)(hr:s.2<=4) :
  Calls Tryd.prog 32 #[cdV p c,sV s.1 s.2 kn dn,.int .i64 (21:Nat),.int .i64 (a:Nat),.int .i64 (b:Nat)] w (PostWd w (effE c 21 a b).1 (effE c 21 a b).2 (moreI 21) (fitE 21 a s.2)):=by
 obtain⟨l,r⟩:=s;simp only at hr ⊢;unfold sV;obtain⟨sb,hsb⟩:∃sb,sb=bs l:=⟨_,rfl⟩
 rw[<-hsb];have CC:=fun k hk wx=>code_c k wx hk;have C1:=CC 1 (by omega);have C2:=CC 2 (by omega);have C3:=CC 3 (by omega);rw[show ((1:Nat):Int)=1 from rfl] at C1;rw[show ((2:Nat):Int)=2 from rfl] at C2;rw[show ((3:Nat):Int)=3 from rfl] at C3;obtain⟨w1,hw1⟩:∃w1,w1=(w.alloc (.cells (cdA p c) 26)).alloc (.cells #[.string sb,.int .i64 (r:Nat),.bool kn,.bool dn] 51):=⟨_,rfl⟩
 have B1:Below w.heap.size w w1:=by rw[hw1];exact bG2 _ (bG _ _)
 obtain⟨g,hg⟩:∃g,g=w.heap.size:=⟨_,rfl⟩
 have hlt1:g+1<w1.heap.size:=by rw[hw1,hg];simp
 have hs1:w1.heap[g+1]?=some (.cells #[.string sb,.int .i64 (r:Nat),.bool kn,.bool dn] 51 (0,0)):=by rw[hw1,hg];exact hA2 _ _ _
 have hc1:w1.heap[g]?=some (.cells (cdA p c) 26 (0,0)):=by rw[hw1,hg];exact h2G _ _ _
 have HB:Hid (∀ w2 m,Below w1.heap.size w1 w2->((w2.cell? ⟨g+1,0,none⟩=some (.string sb)/\w2.cell? ⟨g+1,1,none⟩=some (.int .i64 (r:Nat))/\w2.cell? ⟨g+1,2,none⟩=some (.bool kn)/\w2.cell? ⟨g+1,3,none⟩=some (.bool dn))/\bx4 p c w2 g)/\Below w.heap.size w w2/\Below w.heap.size w w2.drew/\Below w.heap.size w (w2.drewN m)):=fun w2 m B =>
  ⟨⟨box4_cells ((B.block _ hlt1).trans hs1),box4_cells ((B.block _ (by omega)).trans hc1)⟩,bdG B1 B,(bdG B1 B).drew,bd_drewN (bdG B1 B) m⟩
 have HW:Hid (∀ w2,Below w1.heap.size w1 w2->Below w.heap.size w w2):=fun w2 B=>bdG B1 B;have HG:=Lib.hid hg;have HSB:=Lib.hid hsb;have n1:(bs [1]).size=1:=bs_size _;have n2:(bs [2]).size=1:=bs_size _;have n3:(bs [3]).size=1:=bs_size _;clear hg hs1 hc1 B1 hsb;have HR:=fun wx=>rounds_c c (l,r) kn dn 21 a b wx (by omega) (by omega) hr (by omega) (by omega);unfold sV at HR;simp only at HR;rw[<-HSB.out] at HR;have e0:((21:Nat):Int)=21:=rfl;rw[e0] at HR;unfold PostWd wrdV at HR ⊢;obtain⟨x1,hx1⟩:∃x1,x1=bs (effE c 21 a b).1:=⟨_,rfl⟩
 obtain⟨x2,hx2⟩:∃x2,x2=bs (effE c 21 a b).2:=⟨_,rfl⟩
 obtain⟨x3,hx3⟩:∃x3,x3=moreI 21:=⟨_,rfl⟩
 obtain⟨x4,hx4⟩:∃x4,x4=fitE 21 a r:=⟨_,rfl⟩
 simp only[<-hx1,<-hx2,<-hx3,<-hx4] at HR ⊢;clear e0 hx1 hx2 hx3 hx4;go_enter Tryd.func32,Tryd.ntmps32;go_upto_region 1 with fail;rw[<-hw1,<-HG.out];clear hw1;go_upto_region 4 with (first|(go_at_call 47;refine(C1 _).mono ?_;rintro e w2 ⟨rfl,B2⟩;have C1:=True.intro)|(go_at_call 47;refine(C2 _).mono ?_;rintro e w3 ⟨rfl,B3⟩;have C2:=True.intro)|(go_at_call 47;refine(C3 _).mono ?_;rintro e w4 ⟨rfl,B4⟩;have C3:=True.intro))
 have B5:=bdG (bdG B2 B3) B4;clear C1 C2 C3 B2 B3 B4;obtain⟨u1,hu1⟩:∃u1,u1=bs [1]:=⟨_,rfl⟩
 obtain⟨u2,hu2⟩:∃u2,u2=bs [2]:=⟨_,rfl⟩
 obtain⟨u3,hu3⟩:∃u3,u3=bs [3]:=⟨_,rfl⟩
 rw[<-hu1,<-hu2,<-hu3];rw[<-hu1] at n1;rw[<-hu2] at n2;rw[<-hu3] at n3;have U1:=Lib.hid hu1;have U2:=Lib.hid hu2;have U3:=Lib.hid hu3;clear hu1 hu2 hu3;have z11:¬maxLen<u1.size+u1.size:=by unfold maxLen;omega
 have z12:¬maxLen<u1.size+u2.size:=by unfold maxLen;omega
 have z33:¬maxLen<u3.size+u3.size:=by unfold maxLen;omega
 have z121:¬maxLen<(u1++u2).size+u1.size:=by rw[ByteArray.size_append];unfold maxLen;omega
 obtain⟨⟨⟨s0,s1,s2,s3⟩,-⟩,-,-,-⟩:=HB.out _ 0 B5;clear HB;go_wp2_with (first|(go_at_call 49;refine(HR _).mono ?_;rintro e w6 ⟨rfl,B6⟩;have HBd:=Lib.hid (HW.out _ (bdG B5 B6));clear B6));exact bodyPost_ret (v:=.tuple #[.string x1,.string x2,.int .i64 x3,.bool x4]) (by simp[results,Tryd.results32,go_sem]) rfl ⟨rfl,HBd.out⟩
theorem word_22 (w:World)(p:Pl)(c:Cd)(s:St)(kn dn:Bool)(a b:Nat)(ha:a<268435456)(hb:b<268435456)(hr:s.2<=4) :
  Calls Tryd.prog 32 #[cdV p c,sV s.1 s.2 kn dn,.int .i64 (22:Nat),.int .i64 (a:Nat),.int .i64 (b:Nat)] w (PostWd w (effE c 22 a b).1 (effE c 22 a b).2 (moreI 22) (fitE 22 a s.2)):=by
 obtain⟨l,r⟩:=s;simp only at hr ⊢;unfold sV;obtain⟨sb,hsb⟩:∃sb,sb=bs l:=⟨_,rfl⟩
 rw[<-hsb];have CC:=fun k hk wx=>code_c k wx hk;have C1:=CC 1 (by omega);have C2:=CC 2 (by omega);have C3:=CC 3 (by omega);rw[show ((1:Nat):Int)=1 from rfl] at C1;rw[show ((2:Nat):Int)=2 from rfl] at C2;rw[show ((3:Nat):Int)=3 from rfl] at C3;obtain⟨w1,hw1⟩:∃w1,w1=(w.alloc (.cells (cdA p c) 26)).alloc (.cells #[.string sb,.int .i64 (r:Nat),.bool kn,.bool dn] 51):=⟨_,rfl⟩
 have B1:Below w.heap.size w w1:=by rw[hw1];exact bG2 _ (bG _ _)
 obtain⟨g,hg⟩:∃g,g=w.heap.size:=⟨_,rfl⟩
 have hlt1:g+1<w1.heap.size:=by rw[hw1,hg];simp
 have hs1:w1.heap[g+1]?=some (.cells #[.string sb,.int .i64 (r:Nat),.bool kn,.bool dn] 51 (0,0)):=by rw[hw1,hg];exact hA2 _ _ _
 have hc1:w1.heap[g]?=some (.cells (cdA p c) 26 (0,0)):=by rw[hw1,hg];exact h2G _ _ _
 have HB:Hid (∀ w2 m,Below w1.heap.size w1 w2->((w2.cell? ⟨g+1,0,none⟩=some (.string sb)/\w2.cell? ⟨g+1,1,none⟩=some (.int .i64 (r:Nat))/\w2.cell? ⟨g+1,2,none⟩=some (.bool kn)/\w2.cell? ⟨g+1,3,none⟩=some (.bool dn))/\bx4 p c w2 g)/\Below w.heap.size w w2/\Below w.heap.size w w2.drew/\Below w.heap.size w (w2.drewN m)):=fun w2 m B =>
  ⟨⟨box4_cells ((B.block _ hlt1).trans hs1),box4_cells ((B.block _ (by omega)).trans hc1)⟩,bdG B1 B,(bdG B1 B).drew,bd_drewN (bdG B1 B) m⟩
 have HW:Hid (∀ w2,Below w1.heap.size w1 w2->Below w.heap.size w w2):=fun w2 B=>bdG B1 B;have HG:=Lib.hid hg;have HSB:=Lib.hid hsb;have n1:(bs [1]).size=1:=bs_size _;have n2:(bs [2]).size=1:=bs_size _;have n3:(bs [3]).size=1:=bs_size _;clear hg hs1 hc1 B1 hsb;have HR:=fun wx=>rounds_c c (l,r) kn dn 22 a b wx (by omega) (by omega) hr (by omega) (by omega);unfold sV at HR;simp only at HR;rw[<-HSB.out] at HR;have e0:((22:Nat):Int)=22:=rfl;rw[e0] at HR;unfold PostWd wrdV at HR ⊢;obtain⟨x1,hx1⟩:∃x1,x1=bs (effE c 22 a b).1:=⟨_,rfl⟩
 obtain⟨x2,hx2⟩:∃x2,x2=bs (effE c 22 a b).2:=⟨_,rfl⟩
 obtain⟨x3,hx3⟩:∃x3,x3=moreI 22:=⟨_,rfl⟩
 obtain⟨x4,hx4⟩:∃x4,x4=fitE 22 a r:=⟨_,rfl⟩
 simp only[<-hx1,<-hx2,<-hx3,<-hx4] at HR ⊢;clear e0 hx1 hx2 hx3 hx4;go_enter Tryd.func32,Tryd.ntmps32;go_upto_region 1 with fail;rw[<-hw1,<-HG.out];clear hw1;go_upto_region 4 with (first|(go_at_call 47;refine(C1 _).mono ?_;rintro e w2 ⟨rfl,B2⟩;have C1:=True.intro)|(go_at_call 47;refine(C2 _).mono ?_;rintro e w3 ⟨rfl,B3⟩;have C2:=True.intro)|(go_at_call 47;refine(C3 _).mono ?_;rintro e w4 ⟨rfl,B4⟩;have C3:=True.intro))
 have B5:=bdG (bdG B2 B3) B4;clear C1 C2 C3 B2 B3 B4;obtain⟨u1,hu1⟩:∃u1,u1=bs [1]:=⟨_,rfl⟩
 obtain⟨u2,hu2⟩:∃u2,u2=bs [2]:=⟨_,rfl⟩
 obtain⟨u3,hu3⟩:∃u3,u3=bs [3]:=⟨_,rfl⟩
 rw[<-hu1,<-hu2,<-hu3];rw[<-hu1] at n1;rw[<-hu2] at n2;rw[<-hu3] at n3;have U1:=Lib.hid hu1;have U2:=Lib.hid hu2;have U3:=Lib.hid hu3;clear hu1 hu2 hu3;have z11:¬maxLen<u1.size+u1.size:=by unfold maxLen;omega
 have z12:¬maxLen<u1.size+u2.size:=by unfold maxLen;omega
 have z33:¬maxLen<u3.size+u3.size:=by unfold maxLen;omega
 have z121:¬maxLen<(u1++u2).size+u1.size:=by rw[ByteArray.size_append];unfold maxLen;omega
 obtain⟨⟨⟨s0,s1,s2,s3⟩,-⟩,-,-,-⟩:=HB.out _ 0 B5;clear HB;go_wp2_with (first|(go_at_call 49;refine(HR _).mono ?_;rintro e w6 ⟨rfl,B6⟩;have HBd:=Lib.hid (HW.out _ (bdG B5 B6));clear B6));exact bodyPost_ret (v:=.tuple #[.string x1,.string x2,.int .i64 x3,.bool x4]) (by simp[results,Tryd.results32,go_sem]) rfl ⟨rfl,HBd.out⟩
theorem word_23 (w:World)(p:Pl)(c:Cd)(s:St)(kn dn:Bool)(a b:Nat)(ha:a<268435456)(hb:b<268435456)(hr:s.2<=4)(h23:a<=1024) :
  Calls Tryd.prog 32 #[cdV p c,sV s.1 s.2 kn dn,.int .i64 (23:Nat),.int .i64 (a:Nat),.int .i64 (b:Nat)] w (PostWd w (effE c 23 a b).1 (effE c 23 a b).2 (moreI 23) (fitE 23 a s.2)):=by
 obtain⟨l,r⟩:=s;simp only at hr ⊢;unfold sV;obtain⟨sb,hsb⟩:∃sb,sb=bs l:=⟨_,rfl⟩
 rw[<-hsb];have CC:=fun k hk wx=>code_c k wx hk;have C1:=CC 1 (by omega);have C2:=CC 2 (by omega);have C3:=CC 3 (by omega);rw[show ((1:Nat):Int)=1 from rfl] at C1;rw[show ((2:Nat):Int)=2 from rfl] at C2;rw[show ((3:Nat):Int)=3 from rfl] at C3;obtain⟨w1,hw1⟩:∃w1,w1=(w.alloc (.cells (cdA p c) 26)).alloc (.cells #[.string sb,.int .i64 (r:Nat),.bool kn,.bool dn] 51):=⟨_,rfl⟩
 have B1:Below w.heap.size w w1:=by rw[hw1];exact bG2 _ (bG _ _)
 obtain⟨g,hg⟩:∃g,g=w.heap.size:=⟨_,rfl⟩
 have hlt1:g+1<w1.heap.size:=by rw[hw1,hg];simp
 have hs1:w1.heap[g+1]?=some (.cells #[.string sb,.int .i64 (r:Nat),.bool kn,.bool dn] 51 (0,0)):=by rw[hw1,hg];exact hA2 _ _ _
 have hc1:w1.heap[g]?=some (.cells (cdA p c) 26 (0,0)):=by rw[hw1,hg];exact h2G _ _ _
 have HB:Hid (∀ w2 m,Below w1.heap.size w1 w2->((w2.cell? ⟨g+1,0,none⟩=some (.string sb)/\w2.cell? ⟨g+1,1,none⟩=some (.int .i64 (r:Nat))/\w2.cell? ⟨g+1,2,none⟩=some (.bool kn)/\w2.cell? ⟨g+1,3,none⟩=some (.bool dn))/\bx4 p c w2 g)/\Below w.heap.size w w2/\Below w.heap.size w w2.drew/\Below w.heap.size w (w2.drewN m)):=fun w2 m B =>
  ⟨⟨box4_cells ((B.block _ hlt1).trans hs1),box4_cells ((B.block _ (by omega)).trans hc1)⟩,bdG B1 B,(bdG B1 B).drew,bd_drewN (bdG B1 B) m⟩
 have HW:Hid (∀ w2,Below w1.heap.size w1 w2->Below w.heap.size w w2):=fun w2 B=>bdG B1 B;have HG:=Lib.hid hg;have HSB:=Lib.hid hsb;have n1:(bs [1]).size=1:=bs_size _;have n2:(bs [2]).size=1:=bs_size _;have n3:(bs [3]).size=1:=bs_size _;clear hg hs1 hc1 B1 hsb;have HR:=fun wx=>rounds_c c (l,r) kn dn 23 a b wx (by omega) (by omega) hr (by omega) (by omega);unfold sV at HR;simp only at HR;rw[<-HSB.out] at HR;have e0:((23:Nat):Int)=23:=rfl;rw[e0] at HR;unfold PostWd wrdV at HR ⊢;obtain⟨x1,hx1⟩:∃x1,x1=bs (effE c 23 a b).1:=⟨_,rfl⟩
 obtain⟨x2,hx2⟩:∃x2,x2=bs (effE c 23 a b).2:=⟨_,rfl⟩
 obtain⟨x3,hx3⟩:∃x3,x3=moreI 23:=⟨_,rfl⟩
 obtain⟨x4,hx4⟩:∃x4,x4=fitE 23 a r:=⟨_,rfl⟩
 simp only[<-hx1,<-hx2,<-hx3,<-hx4] at HR ⊢;clear e0 hx1 hx2 hx3 hx4;go_enter Tryd.func32,Tryd.ntmps32;go_upto_region 1 with fail;rw[<-hw1,<-HG.out];clear hw1;go_upto_region 4 with (first|(go_at_call 47;refine(C1 _).mono ?_;rintro e w2 ⟨rfl,B2⟩;have C1:=True.intro)|(go_at_call 47;refine(C2 _).mono ?_;rintro e w3 ⟨rfl,B3⟩;have C2:=True.intro)|(go_at_call 47;refine(C3 _).mono ?_;rintro e w4 ⟨rfl,B4⟩;have C3:=True.intro))
 have B5:=bdG (bdG B2 B3) B4;clear C1 C2 C3 B2 B3 B4;obtain⟨u1,hu1⟩:∃u1,u1=bs [1]:=⟨_,rfl⟩
 obtain⟨u2,hu2⟩:∃u2,u2=bs [2]:=⟨_,rfl⟩
 obtain⟨u3,hu3⟩:∃u3,u3=bs [3]:=⟨_,rfl⟩
 rw[<-hu1,<-hu2,<-hu3];rw[<-hu1] at n1;rw[<-hu2] at n2;rw[<-hu3] at n3;have U1:=Lib.hid hu1;have U2:=Lib.hid hu2;have U3:=Lib.hid hu3;clear hu1 hu2 hu3;have z11:¬maxLen<u1.size+u1.size:=by unfold maxLen;omega
 have z12:¬maxLen<u1.size+u2.size:=by unfold maxLen;omega
 have z33:¬maxLen<u3.size+u3.size:=by unfold maxLen;omega
 have z121:¬maxLen<(u1++u2).size+u1.size:=by rw[ByteArray.size_append];unfold maxLen;omega
 obtain⟨⟨⟨s0,s1,s2,s3⟩,-⟩,-,-,-⟩:=HB.out _ 0 B5;clear HB;go_wp2_with (first|(go_at_call 49;refine(HR _).mono ?_;rintro e w6 ⟨rfl,B6⟩;have HBd:=Lib.hid (HW.out _ (bdG B5 B6));clear B6));exact bodyPost_ret (v:=.tuple #[.string x1,.string x2,.int .i64 x3,.bool x4]) (by simp[results,Tryd.results32,go_sem]) rfl ⟨rfl,HBd.out⟩
theorem word_24 (w:World)(p:Pl)(c:Cd)(s:St)(kn dn:Bool)(a b:Nat)(ha:a<268435456)(hb:b<268435456)(hr:s.2<=4) :
  Calls Tryd.prog 32 #[cdV p c,sV s.1 s.2 kn dn,.int .i64 (24:Nat),.int .i64 (a:Nat),.int .i64 (b:Nat)] w (PostWd w (effE c 24 a b).1 (effE c 24 a b).2 (moreI 24) (fitE 24 a s.2)):=by
 obtain⟨l,r⟩:=s;simp only at hr ⊢;unfold sV;obtain⟨sb,hsb⟩:∃sb,sb=bs l:=⟨_,rfl⟩
 rw[<-hsb];have CC:=fun k hk wx=>code_c k wx hk;have C1:=CC 1 (by omega);have C2:=CC 2 (by omega);have C3:=CC 3 (by omega);rw[show ((1:Nat):Int)=1 from rfl] at C1;rw[show ((2:Nat):Int)=2 from rfl] at C2;rw[show ((3:Nat):Int)=3 from rfl] at C3;obtain⟨w1,hw1⟩:∃w1,w1=(w.alloc (.cells (cdA p c) 26)).alloc (.cells #[.string sb,.int .i64 (r:Nat),.bool kn,.bool dn] 51):=⟨_,rfl⟩
 have B1:Below w.heap.size w w1:=by rw[hw1];exact bG2 _ (bG _ _)
 obtain⟨g,hg⟩:∃g,g=w.heap.size:=⟨_,rfl⟩
 have hlt1:g+1<w1.heap.size:=by rw[hw1,hg];simp
 have hs1:w1.heap[g+1]?=some (.cells #[.string sb,.int .i64 (r:Nat),.bool kn,.bool dn] 51 (0,0)):=by rw[hw1,hg];exact hA2 _ _ _
 have hc1:w1.heap[g]?=some (.cells (cdA p c) 26 (0,0)):=by rw[hw1,hg];exact h2G _ _ _
 have HB:Hid (∀ w2 m,Below w1.heap.size w1 w2->((w2.cell? ⟨g+1,0,none⟩=some (.string sb)/\w2.cell? ⟨g+1,1,none⟩=some (.int .i64 (r:Nat))/\w2.cell? ⟨g+1,2,none⟩=some (.bool kn)/\w2.cell? ⟨g+1,3,none⟩=some (.bool dn))/\bx4 p c w2 g)/\Below w.heap.size w w2/\Below w.heap.size w w2.drew/\Below w.heap.size w (w2.drewN m)):=fun w2 m B =>
  ⟨⟨box4_cells ((B.block _ hlt1).trans hs1),box4_cells ((B.block _ (by omega)).trans hc1)⟩,bdG B1 B,(bdG B1 B).drew,bd_drewN (bdG B1 B) m⟩
 have HW:Hid (∀ w2,Below w1.heap.size w1 w2->Below w.heap.size w w2):=fun w2 B=>bdG B1 B;have HG:=Lib.hid hg;have HSB:=Lib.hid hsb;have n1:(bs [1]).size=1:=bs_size _;have n2:(bs [2]).size=1:=bs_size _;have n3:(bs [3]).size=1:=bs_size _;clear hg hs1 hc1 B1 hsb;have HR:=fun wx=>rounds_c c (l,r) kn dn 24 a b wx (by omega) (by omega) hr (by omega) (by omega);unfold sV at HR;simp only at HR;rw[<-HSB.out] at HR;have e0:((24:Nat):Int)=24:=rfl;rw[e0] at HR;unfold PostWd wrdV at HR ⊢;obtain⟨x1,hx1⟩:∃x1,x1=bs (effE c 24 a b).1:=⟨_,rfl⟩
 obtain⟨x2,hx2⟩:∃x2,x2=bs (effE c 24 a b).2:=⟨_,rfl⟩
 obtain⟨x3,hx3⟩:∃x3,x3=moreI 24:=⟨_,rfl⟩
 obtain⟨x4,hx4⟩:∃x4,x4=fitE 24 a r:=⟨_,rfl⟩
 simp only[<-hx1,<-hx2,<-hx3,<-hx4] at HR ⊢;clear e0 hx1 hx2 hx3 hx4;go_enter Tryd.func32,Tryd.ntmps32;go_upto_region 1 with fail;rw[<-hw1,<-HG.out];clear hw1;go_upto_region 4 with (first|(go_at_call 47;refine(C1 _).mono ?_;rintro e w2 ⟨rfl,B2⟩;have C1:=True.intro)|(go_at_call 47;refine(C2 _).mono ?_;rintro e w3 ⟨rfl,B3⟩;have C2:=True.intro)|(go_at_call 47;refine(C3 _).mono ?_;rintro e w4 ⟨rfl,B4⟩;have C3:=True.intro))
 have B5:=bdG (bdG B2 B3) B4;clear C1 C2 C3 B2 B3 B4;obtain⟨u1,hu1⟩:∃u1,u1=bs [1]:=⟨_,rfl⟩
 obtain⟨u2,hu2⟩:∃u2,u2=bs [2]:=⟨_,rfl⟩
 obtain⟨u3,hu3⟩:∃u3,u3=bs [3]:=⟨_,rfl⟩
 rw[<-hu1,<-hu2,<-hu3];rw[<-hu1] at n1;rw[<-hu2] at n2;rw[<-hu3] at n3;have U1:=Lib.hid hu1;have U2:=Lib.hid hu2;have U3:=Lib.hid hu3;clear hu1 hu2 hu3;have z11:¬maxLen<u1.size+u1.size:=by unfold maxLen;omega
 have z12:¬maxLen<u1.size+u2.size:=by unfold maxLen;omega
 have z33:¬maxLen<u3.size+u3.size:=by unfold maxLen;omega
 have z121:¬maxLen<(u1++u2).size+u1.size:=by rw[ByteArray.size_append];unfold maxLen;omega
 obtain⟨⟨⟨s0,s1,s2,s3⟩,-⟩,-,-,-⟩:=HB.out _ 0 B5;clear HB;go_wp2_with (first|(go_at_call 49;refine(HR _).mono ?_;rintro e w6 ⟨rfl,B6⟩;have HBd:=Lib.hid (HW.out _ (bdG B5 B6));clear B6));exact bodyPost_ret (v:=.tuple #[.string x1,.string x2,.int .i64 x3,.bool x4]) (by simp[results,Tryd.results32,go_sem]) rfl ⟨rfl,HBd.out⟩
theorem word_25 (w:World)(p:Pl)(c:Cd)(s:St)(kn dn:Bool)(a b:Nat)(ha:a<268435456)(hb:b<268435456)(hr:s.2<=4) :
  Calls Tryd.prog 32 #[cdV p c,sV s.1 s.2 kn dn,.int .i64 (25:Nat),.int .i64 (a:Nat),.int .i64 (b:Nat)] w (PostWd w (effE c 25 a b).1 (effE c 25 a b).2 (moreI 25) (fitE 25 a s.2)):=by
 obtain⟨l,r⟩:=s;simp only at hr ⊢;unfold sV;obtain⟨sb,hsb⟩:∃sb,sb=bs l:=⟨_,rfl⟩
 rw[<-hsb];have CC:=fun k hk wx=>code_c k wx hk;have C1:=CC 1 (by omega);have C2:=CC 2 (by omega);have C3:=CC 3 (by omega);rw[show ((1:Nat):Int)=1 from rfl] at C1;rw[show ((2:Nat):Int)=2 from rfl] at C2;rw[show ((3:Nat):Int)=3 from rfl] at C3;obtain⟨w1,hw1⟩:∃w1,w1=(w.alloc (.cells (cdA p c) 26)).alloc (.cells #[.string sb,.int .i64 (r:Nat),.bool kn,.bool dn] 51):=⟨_,rfl⟩
 have B1:Below w.heap.size w w1:=by rw[hw1];exact bG2 _ (bG _ _)
 obtain⟨g,hg⟩:∃g,g=w.heap.size:=⟨_,rfl⟩
 have hlt1:g+1<w1.heap.size:=by rw[hw1,hg];simp
 have hs1:w1.heap[g+1]?=some (.cells #[.string sb,.int .i64 (r:Nat),.bool kn,.bool dn] 51 (0,0)):=by rw[hw1,hg];exact hA2 _ _ _
 have hc1:w1.heap[g]?=some (.cells (cdA p c) 26 (0,0)):=by rw[hw1,hg];exact h2G _ _ _
 have HB:Hid (∀ w2 m,Below w1.heap.size w1 w2->((w2.cell? ⟨g+1,0,none⟩=some (.string sb)/\w2.cell? ⟨g+1,1,none⟩=some (.int .i64 (r:Nat))/\w2.cell? ⟨g+1,2,none⟩=some (.bool kn)/\w2.cell? ⟨g+1,3,none⟩=some (.bool dn))/\bx4 p c w2 g)/\Below w.heap.size w w2/\Below w.heap.size w w2.drew/\Below w.heap.size w (w2.drewN m)):=fun w2 m B =>
  ⟨⟨box4_cells ((B.block _ hlt1).trans hs1),box4_cells ((B.block _ (by omega)).trans hc1)⟩,bdG B1 B,(bdG B1 B).drew,bd_drewN (bdG B1 B) m⟩
 have HW:Hid (∀ w2,Below w1.heap.size w1 w2->Below w.heap.size w w2):=fun w2 B=>bdG B1 B;have HG:=Lib.hid hg;have HSB:=Lib.hid hsb;have n1:(bs [1]).size=1:=bs_size _;have n2:(bs [2]).size=1:=bs_size _;have n3:(bs [3]).size=1:=bs_size _;clear hg hs1 hc1 B1 hsb;have HR:=fun wx=>rounds_c c (l,r) kn dn 25 a b wx (by omega) (by omega) hr (by omega) (by omega);unfold sV at HR;simp only at HR;rw[<-HSB.out] at HR;have e0:((25:Nat):Int)=25:=rfl;rw[e0] at HR;unfold PostWd wrdV at HR ⊢;obtain⟨x1,hx1⟩:∃x1,x1=bs (effE c 25 a b).1:=⟨_,rfl⟩
 obtain⟨x2,hx2⟩:∃x2,x2=bs (effE c 25 a b).2:=⟨_,rfl⟩
 obtain⟨x3,hx3⟩:∃x3,x3=moreI 25:=⟨_,rfl⟩
 obtain⟨x4,hx4⟩:∃x4,x4=fitE 25 a r:=⟨_,rfl⟩
 simp only[<-hx1,<-hx2,<-hx3,<-hx4] at HR ⊢;clear e0 hx1 hx2 hx3 hx4;go_enter Tryd.func32,Tryd.ntmps32;go_upto_region 1 with fail;rw[<-hw1,<-HG.out];clear hw1;go_upto_region 4 with (first|(go_at_call 47;refine(C1 _).mono ?_;rintro e w2 ⟨rfl,B2⟩;have C1:=True.intro)|(go_at_call 47;refine(C2 _).mono ?_;rintro e w3 ⟨rfl,B3⟩;have C2:=True.intro)|(go_at_call 47;refine(C3 _).mono ?_;rintro e w4 ⟨rfl,B4⟩;have C3:=True.intro))
 have B5:=bdG (bdG B2 B3) B4;clear C1 C2 C3 B2 B3 B4;obtain⟨u1,hu1⟩:∃u1,u1=bs [1]:=⟨_,rfl⟩
 obtain⟨u2,hu2⟩:∃u2,u2=bs [2]:=⟨_,rfl⟩
 obtain⟨u3,hu3⟩:∃u3,u3=bs [3]:=⟨_,rfl⟩
 rw[<-hu1,<-hu2,<-hu3];rw[<-hu1] at n1;rw[<-hu2] at n2;rw[<-hu3] at n3;have U1:=Lib.hid hu1;have U2:=Lib.hid hu2;have U3:=Lib.hid hu3;clear hu1 hu2 hu3;have z11:¬maxLen<u1.size+u1.size:=by unfold maxLen;omega
 have z12:¬maxLen<u1.size+u2.size:=by unfold maxLen;omega
 have z33:¬maxLen<u3.size+u3.size:=by unfold maxLen;omega
 have z121:¬maxLen<(u1++u2).size+u1.size:=by rw[ByteArray.size_append];unfold maxLen;omega
 obtain⟨⟨⟨s0,s1,s2,s3⟩,-⟩,-,-,-⟩:=HB.out _ 0 B5;clear HB;go_wp2_with (first|(go_at_call 49;refine(HR _).mono ?_;rintro e w6 ⟨rfl,B6⟩;have HBd:=Lib.hid (HW.out _ (bdG B5 B6));clear B6));exact bodyPost_ret (v:=.tuple #[.string x1,.string x2,.int .i64 x3,.bool x4]) (by simp[results,Tryd.results32,go_sem]) rfl ⟨rfl,HBd.out⟩
theorem wordq_c (w:World)(p:Pl)(c:Cd)(s:St)(kn dn:Bool)(o a b:Nat)(hC:CdW w p c)(hr:rgtB c=true)(Wd:WdR c o a b)(S:StOk s)(ho:o≠0) :
  Calls Tryd.prog 32 #[cdV p c,sV s.1 s.2 kn dn,.int .i64 (o:Nat),.int .i64 (a:Nat),.int .i64 (b:Nat)] w (PostWd w (effE c o a b).1 (effE c o a b).2 (moreI o) (fitE o a s.2)):=by
 have h1:=Wd.c1;have h11:=Wd.c11;have h16:=Wd.c16;have h23:=Wd.c23;have h18:o=18->∃hk:a<c.ks.length,c.ks[a]=((kdC c a:Nat):Int)/\kdC c a<256:=fun e=>by
  have hk:=Wd.c17 (Or.inr (Or.inl e))
  have:=kdC_ok hr hk
  exact⟨hk,kdC_int hr hk,by omega⟩
 have ha:=Wd.al;have hb:=Wd.bl;have hl:=Wd.ol;have h4:=S.rd;clear Wd S hr;have hcs:o=0\/o=1\/o=2\/o=3\/o=4\/o=5\/o=6\/o=7\/o=8\/o=9\/o=10\/o=11\/o=12\/o=13\/o=14\/o=15\/o=16\/o=17\/o=18\/o=19\/o=20\/o=21\/o=22\/o=23\/o=24\/o=25\/o=26\/o=27:=by omega
 rcases hcs with rfl|rfl|rfl|rfl|rfl|rfl|rfl|rfl|rfl|rfl|rfl|rfl|rfl|rfl|rfl|rfl|rfl|rfl|rfl|rfl|rfl|rfl|rfl|rfl|rfl|rfl|rfl|rfl
 ·exact absurd rfl ho
 ·exact word_1 w p c s kn dn a b ha hb h4 (by have:=h1 rfl;omega)
 ·exact word_2 w p c s kn dn a b ha hb h4
 ·exact word_3 w p c s kn dn a b ha hb h4
 ·exact word_4 w p c s kn dn a b ha hb h4
 ·exact word_5 w p c s kn dn a b ha hb h4
 ·exact word_6 w p c s kn dn a b ha hb h4
 ·exact word_7 w p c s kn dn a b ha hb h4
 ·exact word_8 w p c s kn dn a b ha hb h4
 ·exact word_9 w p c s kn dn a b ha hb h4
 ·exact word_10 w p c s kn dn a b ha hb h4
 ·exact word_11 w p c s kn dn a b ha hb h4 (by have:=h11 rfl;omega)
 ·exact word_12 w p c s kn dn a b ha hb h4
 ·exact word_13 w p c s kn dn a b ha hb h4
 ·exact word_14 w p c s kn dn a b ha hb h4
 ·exact word_15 w p c s kn dn a b ha hb h4
 ·by_cases h3:a<=3
  ·exact word_16a w p c s kn dn a b ha hb h4 (h16 rfl) h3
  ·exact word_16b w p c s kn dn a b ha hb h4 (h16 rfl) h3
 ·exact word_17 w p c s kn dn a b ha hb h4
 ·obtain⟨hk,h5,h6⟩:=h18 rfl;exact word_18 w p c s kn dn a b ha hb h4 hC hk h5 h6
 ·exact word_19 w p c s kn dn a b ha hb h4
 ·exact word_20 w p c s kn dn a b ha hb h4
 ·exact word_21 w p c s kn dn a b ha hb h4
 ·exact word_22 w p c s kn dn a b ha hb h4
 ·exact word_23 w p c s kn dn a b ha hb h4 (h23 rfl)
 ·exact word_24 w p c s kn dn a b ha hb h4
 ·exact word_25 w p c s kn dn a b ha hb h4
 ·exact word_26 w p c s kn dn a b ha hb h4
 ·exact word_27 w p c s kn dn a b ha hb h4
end Go.Proofs.YtpdfdhkdfkhfkaaDoor

import Derived.Test.YtpdfdhkdfkhfkaaDoorGdG
set_option maxRecDepth 100000
set_option maxHeartbeats 8000000
namespace Go.Proofs.YtpdfdhkdfkhfkaaDoor
open Go.RowKit
set_option linter.unusedVariables false
set_option linter.unusedSimpArgs false
def takeF (o k:Nat)(s:St):Nat ⊕ St :=
 if s.1=[] then .inl 201 else if s.1.getLastD 0=k then .inr (s.1.dropLast,s.2) else .inl (if o=18 then 203 else 201)
def takesF (o:Nat):List Nat->St->Nat ⊕ St
 | [],s=>.inr s
 | k::t,s=>match takeF o k s with
  | .inl n=>.inl n
  | .inr u=>takesF o t u
theorem takes_app (o:Nat)(y:List Nat):∀ (x:List Nat) (s:St),takesF o (x++y) s=match takesF o x s with
  | .inl n=>.inl n
  | .inr u=>takesF o y u
 | [],s=>rfl
 | k::t,s=>by
  simp only[List.cons_append,takesF];cases takeF o k s with
  | inl n=>rfl
  | inr u=>exact takes_app o y t u
theorem take_nil (o k:Nat)(r:Nat):takeF o k ([],r)=.inl 201:=rfl
theorem take_snoc (o k x:Nat)(l:List Nat)(r:Nat):takeF o k (l++[x],r)=if x=k then .inr (l,r) else .inl (if o=18 then 203 else 201):=by
 unfold takeF;rw[if_neg (by simp)];simp
theorem takes_all (o:Nat):∀ (rs:List Nat) (s:St),(o=18->rs.length<=1)->takesF o rs s =
  if s.1.drop (s.1.length-rs.length)=rs.reverse then .inr (s.1.take (s.1.length-rs.length),s.2) else .inl (if o=18/\s.1≠[] then 203 else 201)
 | [],s,_=>by simp[takesF]
 | k::t,(l0,r),h=>by
  rw[takesF];rcases List.eq_nil_or_concat l0 with rfl|⟨l,x,hlk⟩
  ·rw[take_nil,if_neg (by simp)];simp
  ·rw[List.concat_eq_append] at hlk;subst hlk;rw[take_snoc];have e1:(l++[x]).length-(k::t).length=l.length-t.length:=by simp
   have e2:(l++[x]).drop (l.length-t.length)=l.drop (l.length-t.length)++[x]:=List.drop_append_of_le_length (by omega);have e3:(l++[x]).take (l.length-t.length)=l.take (l.length-t.length):=List.take_append_of_le_length (by omega)
   dsimp only
   rw[e1,e2,e3,List.reverse_cons];by_cases hx:x=k
   ·subst hx;rw[if_pos rfl]
    dsimp only
    rw[takes_all o t (l,r) (fun e=>by have:=h e;simp at this;simp[this])]
    dsimp only
    by_cases hd:l.drop (l.length-t.length)=t.reverse
    ·rw[if_pos hd,if_pos (by rw[hd])]
    ·rw[if_neg hd,if_neg (fun e=>hd (List.append_cancel_right e))];by_cases ho:o=18
     ·exfalso
      have:=h ho
      simp at this;subst this;simp at hd
     ·rw[if_neg (fun e=>ho e.1),if_neg (fun e=>ho e.1)]
   ·rw[if_neg hx,if_neg (c:=l.drop (l.length-t.length)++[x]=t.reverse++[k]) (fun e=>hx (by have:=List.append_inj_right' e rfl;simpa using this))]
    dsimp only
    by_cases ho:o=18
    ·rw[if_pos ho,if_pos ⟨ho,by simp⟩]
    ·rw[if_neg ho,if_neg (fun e=>ho e.1)]
theorem eff18 (c:Cd)(o a b:Nat)(h:o=18):(effE c o a b).1.length<=1:=by
 subst h;simp[effE]
theorem pass_takes (c:Cd)(o a b:Nat)(s:St):passF c o a b s=if fitE o a s.2=true then
  (match takesF o (effE c o a b).1.reverse s with
  | .inl n=>.inl n
  | .inr t=>if t.1.length+(effE c o a b).2.length<=1024 then .inr (t.1++(effE c o a b).2,opnE o t.2) else .inl 201)
  else .inl 201:=by
 unfold passF;rw[takes_all o _ s (fun e=>by rw[List.length_reverse];exact eff18 c o a b e)];rw[List.reverse_reverse,List.length_reverse];by_cases hf:fitE o a s.2=true
 ·rw[if_pos hf,if_pos hf];by_cases hd:s.1.drop (s.1.length-(effE c o a b).1.length)=(effE c o a b).1
  ·rw[if_pos hd,if_pos hd]
   dsimp only
   have e:(s.1.take (s.1.length-(effE c o a b).1.length)).length=s.1.length-(effE c o a b).1.length:=by rw[List.length_take];omega
   rw[e]
  ·rw[if_neg hd,if_neg hd]
 ·rw[if_neg hf,if_neg hf]
theorem take_ok {o k:Nat}{s t:St}(S:StOk s)(h:takeF o k s=.inr t):StOk t/\t.2=s.2:=by
 unfold takeF at h;split at h
 ·cases h
 ·split at h
  ·cases h;exact⟨⟨by simp only[List.length_dropLast];have:=S.len;omega,fun k hk=>S.kd k ((List.dropLast_sublist s.1).subset hk),S.rd⟩,rfl⟩
  ·cases h
theorem takes_ok {o:Nat}:∀ {x:List Nat}{s t:St},StOk s->takesF o x s=.inr t->StOk t/\t.2=s.2
 | [],s,t,S,h=>by cases h;exact⟨S,rfl⟩
 | k::x,s,t,S,h=>by
  rw[takesF] at h;cases ht:takeF o k s with
  | inl n=>rw[ht] at h;cases h
  | inr u =>
   rw[ht] at h;have h1:=take_ok S ht;have h2:=takes_ok h1.1 h;exact⟨h2.1,h2.2.trans h1.2⟩
theorem call_len (a:Nat):(callE a).1.length<=1024:=by
 unfold callE;by_cases h1:a=1\/a=2
 ·rw[if_pos h1];decide
 ·rw[if_neg h1];by_cases h2:a=3
  ·rw[if_pos h2];decide
  ·rw[if_neg h2];by_cases h3:a=10
   ·rw[if_pos h3];decide
   ·rw[if_neg h3];decide
theorem eff_len {c:Cd}{o a b:Nat}(W:WdR c o a b):(effE c o a b).1.length<=1024:=by
 have h23:=W.c23;have ho:=W.ol;clear W
 match o,ho,h23 with
 | 0,_,_=>simp[effE]
 | 1,_,_=>simp[effE]
 | 2,_,_=>simp[effE]
 | 3,_,_=>simp[effE]
 | 4,_,_=>simp[effE]
 | 5,_,_=>simp[effE]
 | 6,_,_=>simp[effE]
 | 7,_,_=>simp[effE]
 | 8,_,_=>simp[effE]
 | 9,_,_=>simp[effE]
 | 10,_,_=>simp[effE]
 | 11,_,_=>simp[effE]
 | 12,_,_=>simp[effE]
 | 13,_,_=>simp[effE]
 | 14,_,_=>simp[effE]
 | 15,_,_=>simp[effE]
 | 16,_,_=>simp[effE];exact call_len a
 | 17,_,_=>simp[effE]
 | 18,_,_=>simp[effE]
 | 19,_,_=>simp[effE]
 | 20,_,_=>simp[effE]
 | 21,_,_=>simp[effE]
 | 22,_,_=>simp[effE]
 | 23,_,h=>simp[effE];exact h rfl
 | 24,_,_=>simp[effE]
 | 25,_,_=>simp[effE]
 | 26,_,_=>simp[effE]
 | 27,_,_=>simp[effE]
 | n+28,h,_=>omega
theorem call_plen (a:Nat):(callE a).2.length<=3:=by
 unfold callE;by_cases h1:a=1\/a=2
 ·rw[if_pos h1];decide
 ·rw[if_neg h1];by_cases h2:a=3
  ·rw[if_pos h2];decide
  ·rw[if_neg h2];by_cases h3:a=10
   ·rw[if_pos h3];decide
   ·rw[if_neg h3];decide
theorem eff_plen {c:Cd}{o a b:Nat}(W:WdR c o a b):(effE c o a b).2.length<=3:=by
 have ho:=W.ol;clear W
 match o,ho with
 | 0,_=>simp[effE]
 | 1,_=>simp[effE]
 | 2,_=>simp[effE]
 | 3,_=>simp[effE]
 | 4,_=>simp[effE]
 | 5,_=>simp[effE]
 | 6,_=>simp[effE]
 | 7,_=>simp[effE]
 | 8,_=>simp[effE]
 | 9,_=>simp[effE]
 | 10,_=>simp[effE]
 | 11,_=>simp[effE]
 | 12,_=>simp[effE]
 | 13,_=>simp[effE]
 | 14,_=>simp[effE]
 | 15,_=>simp[effE]
 | 16,_=>simp[effE];exact call_plen a
 | 17,_=>simp[effE]
 | 18,_=>simp[effE]
 | 19,_=>simp[effE]
 | 20,_=>simp[effE]
 | 21,_=>simp[effE]
 | 22,_=>simp[effE]
 | 23,_=>simp[effE]
 | 24,_=>simp[effE]
 | 25,_=>simp[effE]
 | 26,_=>simp[effE]
 | 27,_=>simp[effE]
 | n+28,h=>omega
theorem call_pop (a:Nat):∀ k ∈ (callE a).1,1<=k/\k<=3:=by
 intro k hk;unfold callE at hk;by_cases h1:a=1\/a=2
 ·rw[if_pos h1] at hk;simp at hk;omega
 ·rw[if_neg h1] at hk;by_cases h2:a=3
  ·rw[if_pos h2] at hk;simp at hk;omega
  ·rw[if_neg h2] at hk;by_cases h3:a=10
   ·rw[if_pos h3] at hk;simp at hk;omega
   ·rw[if_neg h3] at hk;simp at hk;omega
theorem eff_pop {c:Cd}(h:rgtB c=true){o a b:Nat}(W:WdR c o a b):∀ k ∈ (effE c o a b).1,1<=k/\k<=3:=by
 intro k hk;have h11:=W.c11;have h18:=fun e:o=18=>kdC_ok h (W.c17 (Or.inr (Or.inl e)));have h16:=call_pop a;have ho:=W.ol;clear W
 match o,ho with
 | 0,_ | 1,_ | 2,_ | 3,_ | 4,_ | 5,_ | 6,_ | 7,_ | 8,_ | 9,_ | 10,_ | 11,_ | 12,_ | 13,_ | 14,_ | 15,_ | 16,_ | 17,_ | 18,_ | 19,_ | 20,_ | 21,_ | 22,_ | 23,_ | 24,_ | 25,_ | 26,_ | 27,_ =>
  simp[effE] at hk h11 h18
  all_goals first|omega|exact h16 _ hk|(subst hk;exact h18)
open Go.ChangeShapes Go.WideShapes Go.ChangeAt Go.RowKit
def PostE (b:Nat)(r:Nat ⊕ St)(w:World)(e:Ending)(w':World):Prop :=
 Kb b w w'/\match r with
 | .inl n=>e=.returned (.int .i64 (n:Nat))/\n≠0
 | .inr t=>e=.returned (.int .i64 0)/\StB w' b t
theorem take_c (b o k:Nat)(s:St)(w:World)(S:StOk s)(hk:1<=k/\k<=3)(hB:StB w b s) :
  Calls Tryd.prog 59 #[.pointer (some ⟨b,0,none⟩),.int .i64 (k:Nat),.int .i64 (o:Nat)] w (PostE b (takeF o k s) w):=by
 have HP:=pop_c b s w S hB;obtain⟨l0,r⟩:=s;rcases List.eq_nil_or_concat l0 with rfl|⟨l,x,hlk⟩
 ·have HZ:Hid (∀ w',Kb b w w'->PostE b (takeF o k ([],r)) w (.returned (.int .i64 201)) w'):=fun w' h=>⟨h,rfl,by decide⟩;have hne:¬(0:Int)=(k:Int):=by omega
  clear S hB;go_enter Tryd.func59,Tryd.ntmps59;go_wp2_with fail;refine HP.mono ?_;rintro e w1 ⟨K1,⟨-,rfl⟩|⟨l,x,h,-⟩⟩
  ·have HY:=HZ.out w1 K1;clear HP HZ K1;go_wp2;go_ret;exact HY
  ·simp at h
 ·rw[List.concat_eq_append] at hlk;subst hlk;have hx:=S.kd x (by simp);have ht:takeF o k (l++[x],r)=if x=k then .inr (l,r) else .inl (if o=18 then 203 else 201):=by
   unfold takeF;rw[if_neg (by simp)];simp
  have HZ:Hid (∀ w',Kb b w w'->StB w' b (l,r)->PostE b (takeF o k (l++[x],r)) w (.returned (.int .i64 (if x=k then 0 else if o=18 then 203 else 201))) w'):=fun w' h g=>by
   rw[ht];by_cases e:x=k
   ·rw[if_pos e,if_pos e];exact⟨h,rfl,g⟩
   ·rw[if_neg e,if_neg e];refine⟨h,?_⟩;by_cases e2:o=18
    ·rw[if_pos e2,if_pos e2];exact⟨rfl,by decide⟩
    ·rw[if_neg e2,if_neg e2];exact⟨rfl,by decide⟩
  clear S hB ht;by_cases e1:x=k
  ·rw[if_pos e1] at HZ;subst e1;go_enter Tryd.func59,Tryd.ntmps59;go_wp2_with fail;refine HP.mono ?_;rintro e w1 ⟨K1,⟨h,-⟩|⟨l',x',h,rfl,B1⟩⟩
   ·simp at h
   ·obtain⟨rfl,h2⟩:=List.append_inj' h rfl;simp only[List.cons.injEq,and_true] at h2;subst h2;have HY:=HZ.out w1 K1 B1;clear HP HZ K1 B1 h;go_wp2;go_ret;exact HY
  ·rw[if_neg e1] at HZ;have hne:¬(x:Int)=(k:Int):=by omega
   have hn0:¬(x:Int)=0:=by omega
   clear e1;by_cases e2:o=18
   ·rw[if_pos e2] at HZ;subst e2;go_enter Tryd.func59,Tryd.ntmps59;go_wp2_with fail;refine HP.mono ?_;rintro e w1 ⟨K1,⟨h,-⟩|⟨l',x',h,rfl,B1⟩⟩
    ·simp at h
    ·obtain⟨rfl,h2⟩:=List.append_inj' h rfl;simp only[List.cons.injEq,and_true] at h2;subst h2;have HY:=HZ.out w1 K1 B1;clear HP HZ K1 B1 h;go_wp2;go_ret;exact HY
   ·rw[if_neg e2] at HZ;have ho:((o:Int)==18)=false:=by simpa using fun h:(o:Int)=18=>e2 (by omega)
    have hbb:(((x:Int) != 0)&&((o:Int)==18))=false:=by rw[ho,Bool.and_false]
    clear e2;go_enter Tryd.func59,Tryd.ntmps59;go_wp2_with fail;refine HP.mono ?_;rintro e w1 ⟨K1,⟨h,-⟩|⟨l',x',h,rfl,B1⟩⟩
    ·simp at h
    ·obtain⟨rfl,h2⟩:=List.append_inj' h rfl;simp only[List.cons.injEq,and_true] at h2;subst h2;have HY:=HZ.out w1 K1 B1;clear HP HZ K1 B1 h;go_wp2;go_ret;exact HY
def PostLd (b:Nat)(r:Option St)(w:World)(e:Ending)(w':World):Prop :=
 Kb b w w'/\match r with
 | none=>e=.returned (.bool false)
 | some t=>e=.returned (.bool true)/\StB w' b t
theorem lead_c (c:Cd)(hr:rgtB c=true)(b o a d:Nat)(s:St)(w:World)(W:WdR c o a d)(S:StOk s)(hB:StB w b s)(ak:Option Addr)(ck:Nat)(hC:Lsv w ak (isV c.ks))(hn24:o=24->0<s.2) :
  Calls Tryd.prog 41 #[.pointer (some ⟨b,0,none⟩),wdV o a d,.slice ak c.ks.length ck] w (PostLd b (leadF c o a s) w):=by
 obtain⟨w1,hw1⟩:∃w1,w1=w.alloc (bxW o a d):=⟨_,rfl⟩
 have B1:Below w.heap.size w w1:=by rw[hw1];exact bG _ _
 obtain⟨g,hg⟩:∃g,g=w.heap.size:=⟨_,rfl⟩
 have hb:w1.heap[g]?=some (bxW o a d):=by rw[hw1,hg];exact h1G _ _
 have c0:w1.cell? ⟨g,0,none⟩=some (.int .i64 (o:Nat)):=by rw[cell_of_row _ _ _ _ _ _ hb];rfl
 have c1:w1.cell? ⟨g,1,none⟩=some (.int .i64 (a:Nat)):=by rw[cell_of_row _ _ _ _ _ _ hb];rfl
 have hlt:=hB.lt;have hB1:StB w1 b s:=(B1.block b hlt).trans hB;have K1:Kb b w w1:=Kb.ofBelow B1;have C1:=hC.below B1;have h17:=W.c17;have HG:=Lib.hid hg;clear hb hg hC B1;by_cases e17:o=17
 ·subst e17;have ha:=h17 (Or.inl rfl);obtain⟨kb,off,rfl,hkl,hkc⟩:=C1.at (isV_get ha);rw[kdC_int hr ha] at hkc;have hkd:=kdC_ok hr ha;have HP:=push_c b s (kdC c a) w1 S hkd hB1;have hl:leadF c 17 a s=if s.1.length<1024 then some (s.1++[kdC c a],s.2) else none:=by simp[leadF]
  have haI:(a:Int)<(c.ks.length:Int):=by omega
  have HZ:Hid (∀ bb w',(if s.1.length<1024 then bb=true/\StB w' b (s.1++[kdC c a],s.2) else bb=false)->Kb b w1 w'->PostLd b (leadF c 17 a s) w (.returned (.bool bb)) w'):=fun bb w' h K=>by
   refine⟨K1.trans K,?_⟩;rw[hl];by_cases hx:s.1.length<1024
   ·rw[if_pos hx] at h ⊢;exact⟨by rw[h.1],h.2⟩
   ·rw[if_neg hx] at h ⊢;rw[h]
  have HQ:Hid (∀ e w',PostPu b s (kdC c a) w1 e w'->∃bb,e=.returned (.bool bb)/\PostLd b (leadF c 17 a s) w (.returned (.bool bb)) w'):=fun e w' h=>by
   obtain⟨hK,h⟩:=h;by_cases hx:s.1.length<1024
   ·rw[if_pos hx] at h;exact⟨true,h.1,HZ.out true w' (by rw[if_pos hx];exact⟨rfl,h.2⟩) hK⟩
   ·rw[if_neg hx] at h;exact⟨false,h,HZ.out false w' (by rw[if_neg hx]) hK⟩
  clear HZ hl hB1 K1 C1 W S hB h17;generalize kdC c a=kd at *;generalize leadF c 17 a s=LL at *;go_enter Tryd.func41,Tryd.ntmps41;go_upto_region 1 with fail;have hw2:w1=w.alloc (.cells #[.int .i64 17,.int .i64 (a:Nat),.int .i64 (d:Nat)] 81):=hw1;rw[<-hw2,<-HG.out];clear hw1 hw2;go_wp2_with fail;refine HP.mono ?_;intro e w2 h;obtain⟨bb,rfl,HY⟩:=HQ.out e w2 h;clear HP HQ h c0 c1 hkc;go_wp2;go_ret;exact HY
 ·have h17I:¬(o:Int)=17:=by omega
  by_cases e24:o=24
  ·subst e24;have hpos:=hn24 rfl;have hl:leadF c 24 a s=some (s.1,s.2-1):=by simp[leadF]
   obtain⟨l,r⟩:=s;have c33:=(blk_cell hB1 33).trans (stC_rd (l,r));have f33:=blk_frz hB1 33;simp only at c33 hpos;have hrd:=S.rd;simp only at hrd;have hrI:((r:Int)-1)=((r-1:Nat):Int):=by omega
   have HB2:StB (w1.setCell ⟨b,33,none⟩ (.int .i64 ((r-1:Nat):Nat))) b (l,r-1):=by
    have:=blk_set (n:=33) hB1 (.int .i64 ((r-1:Nat):Nat))
    rw[stC_rdset] at this;exact this
   have HZ:Hid (PostLd b (leadF c 24 a (l,r)) w (.returned (.bool true)) (w1.setCell ⟨b,33,none⟩ (.int .i64 ((r-1:Nat):Nat)))):=⟨K1.trans ((Kb.refl b w1).set 33 _),by rw[hl];exact⟨rfl,HB2⟩⟩
   have HI:=Lib.hid hrI;have hrp:(0:Int)<(r:Int)/\(r:Int)<=4:=by omega
   clear hB1 K1 C1 W S hB h17 HB2 hl hrI;go_enter Tryd.func41,Tryd.ntmps41;go_upto_region 1 with fail;have hw2:w1=w.alloc (.cells #[.int .i64 24,.int .i64 (a:Nat),.int .i64 (d:Nat)] 81):=hw1;rw[<-hw2,<-HG.out];clear hw1 hw2;go_wp2_with fail;rw[HI.out];go_ret;exact HZ.out
  ·have h24I:¬(o:Int)=24:=by omega
   have hl:leadF c o a s=some s:=by simp[leadF,e17,e24]
   have HZ:Hid (PostLd b (leadF c o a s) w (.returned (.bool true)) w1):=⟨K1,by rw[hl];exact⟨rfl,hB1⟩⟩
   clear hB1 K1 C1 W S hB h17 hl;go_enter Tryd.func41,Tryd.ntmps41;go_upto_region 1 with fail;rw[<-hw1,<-HG.out];clear hw1;go_wp2_with fail;go_ret;exact HZ.out
end Go.Proofs.YtpdfdhkdfkhfkaaDoor

import Derived.Test.YtejnhibajmncaaaDoorGdG
import Derived.RangeFuncNested
import Derived.RangeFuncBound
import Derived.RangeFuncCalls
import Derived.RangeFuncLeaves
import Derived.RangeFuncWrites
import Derived.Shelf.Abstract
import Derived.OwnWalkIn
import Derived.TacticsInMore
import Derived.LoopNIn
import Derived.LoopIn
set_option maxRecDepth 100000
set_option maxHeartbeats 8000000
namespace Go.Proofs.YtejnhibajmncaaaDoor
open Go.RowKit
set_option linter.unusedVariables false
set_option linter.unusedSimpArgs false
def takeF (o k:Nat)(s:StG):Nat ⊕ StG :=
 if s.1=[] then .inl 201 else if s.1.getLastD 0=k then .inr (s.1.dropLast,s.2) else .inl (if o=18 then 203 else 201)
def takesF (o:Nat):List Nat->StG->Nat ⊕ StG
 | [],s=>.inr s
 | k::t,s=>match takeF o k s with
  | .inl n=>.inl n
  | .inr u=>takesF o t u
theorem takes_app (o:Nat)(y:List Nat):∀ (x:List Nat) (s:StG),takesF o (x++y) s=match takesF o x s with
  | .inl n=>.inl n
  | .inr u=>takesF o y u
 | [],s=>rfl
 | k::t,s=>by
  simp only[List.cons_append,takesF];cases takeF o k s with
  | inl n=>rfl
  | inr u=>exact takes_app o y t u
theorem take_nil (o k:Nat)(r:Nat):takeF o k ([],r)=.inl 201:=rfl
theorem take_snoc (o k x:Nat)(l:List Nat)(r:Nat):takeF o k (l++[x],r)=if x=k then .inr (l,r) else .inl (if o=18 then 203 else 201):=by
 unfold takeF;rw[if_neg (by simp)];simp
theorem takes_all (o:Nat):∀ (rs:List Nat) (s:StG),(o=18->rs.length<=1)->takesF o rs s =
  if s.1.drop (s.1.length-rs.length)=rs.reverse then .inr (s.1.take (s.1.length-rs.length),s.2) else .inl (if o=18/\s.1≠[] then 203 else 201)
 | [],s,_=>by simp[takesF]
 | k::t,(l0,r),h=>by
  rw[takesF];rcases List.eq_nil_or_concat l0 with rfl|⟨l,x,hlk⟩
  ·rw[take_nil,if_neg (by simp)];simp
  ·rw[List.concat_eq_append] at hlk;subst hlk;rw[take_snoc];have e1:(l++[x]).length-(k::t).length=l.length-t.length:=by simp
   have e2:(l++[x]).drop (l.length-t.length)=l.drop (l.length-t.length)++[x]:=List.drop_append_of_le_length (by omega);have e3:(l++[x]).take (l.length-t.length)=l.take (l.length-t.length):=List.take_append_of_le_length (by omega)
   dsimp only
   rw[e1,e2,e3,List.reverse_cons];by_cases hx:x=k
   ·subst hx;rw[if_pos rfl]
    dsimp only
    rw[takes_all o t (l,r) (fun e=>by have:=h e;simp at this;simp[this])]
    dsimp only
    by_cases hd:l.drop (l.length-t.length)=t.reverse
    ·rw[if_pos hd,if_pos (by rw[hd])]
    ·rw[if_neg hd,if_neg (fun e=>hd (List.append_cancel_right e))];by_cases ho:o=18
     ·exfalso
      have:=h ho
      simp at this;subst this;simp at hd
     ·rw[if_neg (fun e=>ho e.1),if_neg (fun e=>ho e.1)]
   ·rw[if_neg hx,if_neg (c:=l.drop (l.length-t.length)++[x]=t.reverse++[k]) (fun e=>hx (by have:=List.append_inj_right' e rfl;simpa using this))]
    dsimp only
    by_cases ho:o=18
    ·rw[if_pos ho,if_pos ⟨ho,by simp⟩]
    ·rw[if_neg ho,if_neg (fun e=>ho e.1)]
theorem eff18 (c:Cd)(o a b:Nat)(h:o=18):(effE c o a b).1.length<=1:=by
 subst h;simp[effE]
theorem pass_takes (c:Cd)(o a b:Nat)(s:StG):passF c o a b s=if fitE o a s.2=true then
  (match takesF o (effE c o a b).1.reverse s with
  | .inl n=>.inl n
  | .inr t=>if t.1.length+(effE c o a b).2.length<=1024 then .inr (t.1++(effE c o a b).2,opnE o t.2) else .inl 201)
  else .inl 201:=by
 unfold passF;rw[takes_all o _ s (fun e=>by rw[List.length_reverse];exact eff18 c o a b e)];rw[List.reverse_reverse,List.length_reverse];by_cases hf:fitE o a s.2=true
 ·rw[if_pos hf,if_pos hf];by_cases hd:s.1.drop (s.1.length-(effE c o a b).1.length)=(effE c o a b).1
  ·rw[if_pos hd,if_pos hd]
   dsimp only
   have e:(s.1.take (s.1.length-(effE c o a b).1.length)).length=s.1.length-(effE c o a b).1.length:=by rw[List.length_take];omega
   rw[e]
  ·rw[if_neg hd,if_neg hd]
 ·rw[if_neg hf,if_neg hf]
theorem take_ok {o k:Nat}{s t:StG}(S:StOkG s)(h:takeF o k s=.inr t):StOkG t/\t.2=s.2:=by
 unfold takeF at h;split at h
 ·cases h
 ·split at h
  ·cases h;exact⟨⟨by simp only[List.length_dropLast];have:=S.len;omega,fun k hk=>S.kd k ((List.dropLast_sublist s.1).subset hk),S.rd⟩,rfl⟩
  ·cases h
theorem takes_ok {o:Nat}:∀ {x:List Nat}{s t:StG},StOkG s->takesF o x s=.inr t->StOkG t/\t.2=s.2
 | [],s,t,S,h=>by cases h;exact⟨S,rfl⟩
 | k::x,s,t,S,h=>by
  rw[takesF] at h;cases ht:takeF o k s with
  | inl n=>rw[ht] at h;cases h
  | inr u =>
   rw[ht] at h;have h1:=take_ok S ht;have h2:=takes_ok h1.1 h;exact⟨h2.1,h2.2.trans h1.2⟩
theorem call_len (a:Nat):(callE a).1.length<=1024:=by
 unfold callE;by_cases h1:a=1\/a=2
 ·rw[if_pos h1];decide
 ·rw[if_neg h1];by_cases h2:a=3
  ·rw[if_pos h2];decide
  ·rw[if_neg h2];by_cases h3:a=10
   ·rw[if_pos h3];decide
   ·rw[if_neg h3];decide
theorem eff_len {c:Cd}{o a b:Nat}(W:WdR c o a b):(effE c o a b).1.length<=1024:=by
 have h23:=W.c23;have ho:=W.ol;clear W
 match o,ho,h23 with
 | 0,_,_=>simp[effE]
 | 1,_,_=>simp[effE]
 | 2,_,_=>simp[effE]
 | 3,_,_=>simp[effE]
 | 4,_,_=>simp[effE]
 | 5,_,_=>simp[effE]
 | 6,_,_=>simp[effE]
 | 7,_,_=>simp[effE]
 | 8,_,_=>simp[effE]
 | 9,_,_=>simp[effE]
 | 10,_,_=>simp[effE]
 | 11,_,_=>simp[effE]
 | 12,_,_=>simp[effE]
 | 13,_,_=>simp[effE]
 | 14,_,_=>simp[effE]
 | 15,_,_=>simp[effE]
 | 16,_,_=>simp[effE];exact call_len a
 | 17,_,_=>simp[effE]
 | 18,_,_=>simp[effE]
 | 19,_,_=>simp[effE]
 | 20,_,_=>simp[effE]
 | 21,_,_=>simp[effE]
 | 22,_,_=>simp[effE]
 | 23,_,h=>simp[effE];exact h rfl
 | 24,_,_=>simp[effE]
 | 25,_,_=>simp[effE]
 | 26,_,_=>simp[effE]
 | 27,_,_=>simp[effE]
 | n+28,h,_=>omega
theorem call_plen (a:Nat):(callE a).2.length<=3:=by
 unfold callE;by_cases h1:a=1\/a=2
 ·rw[if_pos h1];decide
 ·rw[if_neg h1];by_cases h2:a=3
  ·rw[if_pos h2];decide
  ·rw[if_neg h2];by_cases h3:a=10
   ·rw[if_pos h3];decide
   ·rw[if_neg h3];decide
theorem eff_plen {c:Cd}{o a b:Nat}(W:WdR c o a b):(effE c o a b).2.length<=3:=by
 have ho:=W.ol;clear W
 match o,ho with
 | 0,_=>simp[effE]
 | 1,_=>simp[effE]
 | 2,_=>simp[effE]
 | 3,_=>simp[effE]
 | 4,_=>simp[effE]
 | 5,_=>simp[effE]
 | 6,_=>simp[effE]
 | 7,_=>simp[effE]
 | 8,_=>simp[effE]
 | 9,_=>simp[effE]
 | 10,_=>simp[effE]
 | 11,_=>simp[effE]
 | 12,_=>simp[effE]
 | 13,_=>simp[effE]
 | 14,_=>simp[effE]
 | 15,_=>simp[effE]
 | 16,_=>simp[effE];exact call_plen a
 | 17,_=>simp[effE]
 | 18,_=>simp[effE]
 | 19,_=>simp[effE]
 | 20,_=>simp[effE]
 | 21,_=>simp[effE]
 | 22,_=>simp[effE]
 | 23,_=>simp[effE]
 | 24,_=>simp[effE]
 | 25,_=>simp[effE]
 | 26,_=>simp[effE]
 | 27,_=>simp[effE]
 | n+28,h=>omega
theorem call_pop (a:Nat):∀ k ∈ (callE a).1,1<=k/\k<=3:=by
 intro k hk;unfold callE at hk;by_cases h1:a=1\/a=2
 ·rw[if_pos h1] at hk;simp at hk;omega
 ·rw[if_neg h1] at hk;by_cases h2:a=3
  ·rw[if_pos h2] at hk;simp at hk;omega
  ·rw[if_neg h2] at hk;by_cases h3:a=10
   ·rw[if_pos h3] at hk;simp at hk;omega
   ·rw[if_neg h3] at hk;simp at hk;omega
theorem eff_pop {c:Cd}(h:rgtB c=true){o a b:Nat}(W:WdR c o a b):∀ k ∈ (effE c o a b).1,1<=k/\k<=3:=by
 intro k hk;have h11:=W.c11;have h18:=fun e:o=18=>kdC_ok h (W.c17 (Or.inr (Or.inl e)));have h16:=call_pop a;have ho:=W.ol;clear W
 match o,ho with
 | 0,_ | 1,_ | 2,_ | 3,_ | 4,_ | 5,_ | 6,_ | 7,_ | 8,_ | 9,_ | 10,_ | 11,_ | 12,_ | 13,_ | 14,_ | 15,_ | 16,_ | 17,_ | 18,_ | 19,_ | 20,_ | 21,_ | 22,_ | 23,_ | 24,_ | 25,_ | 26,_ | 27,_ =>
  simp[effE] at hk h11 h18
  all_goals first|omega|exact h16 _ hk|(subst hk;exact h18)
open Go.ChangeShapes Go.WideShapes Go.ChangeAt Go.RowKit
def PostEG (b:Nat)(r:Nat ⊕ StG)(w:World)(e:Ending)(w':World):Prop :=
 Kb b w w'/\match r with
 | .inl n=>e=.returned (.int .i64 (n:Nat))/\n≠0
 | .inr t=>e=.returned (.int .i64 0)/\StB w' b t
theorem take_c (b o k:Nat)(s:StG)(w:World)(S:StOkG s)(hk:1<=k/\k<=3)(hB:StB w b s) :
  Calls Tryd.prog 62 #[.pointer (some ⟨b,0,none⟩),.int .i64 (k:Nat),.int .i64 (o:Nat)] w (PostEG b (takeF o k s) w):=by
 have HP:=pop_c b s w S hB;obtain⟨l0,r⟩:=s;rcases List.eq_nil_or_concat l0 with rfl|⟨l,x,hlk⟩
 ·have HZ:Hid (∀ w',Kb b w w'->PostEG b (takeF o k ([],r)) w (.returned (.int .i64 201)) w'):=fun w' h=>⟨h,rfl,by decide⟩;have hne:¬(0:Int)=(k:Int):=by omega
  clear S hB;go_enter Tryd.func62,Tryd.ntmps62;go_wp2_with fail;refine HP.mono ?_;rintro e w1 ⟨K1,⟨-,rfl⟩|⟨l,x,h,-⟩⟩
  ·have HY:=HZ.out w1 K1;clear HP HZ K1;go_wp2;go_ret;exact HY
  ·simp at h
 ·rw[List.concat_eq_append] at hlk;subst hlk;have hx:=S.kd x (by simp);have ht:takeF o k (l++[x],r)=if x=k then .inr (l,r) else .inl (if o=18 then 203 else 201):=by
   unfold takeF;rw[if_neg (by simp)];simp
  have HZ:Hid (∀ w',Kb b w w'->StB w' b (l,r)->PostEG b (takeF o k (l++[x],r)) w (.returned (.int .i64 (if x=k then 0 else if o=18 then 203 else 201))) w'):=fun w' h g=>by
   rw[ht];by_cases e:x=k
   ·rw[if_pos e,if_pos e];exact⟨h,rfl,g⟩
   ·rw[if_neg e,if_neg e];refine⟨h,?_⟩;by_cases e2:o=18
    ·rw[if_pos e2,if_pos e2];exact⟨rfl,by decide⟩
    ·rw[if_neg e2,if_neg e2];exact⟨rfl,by decide⟩
  clear S hB ht;by_cases e1:x=k
  ·rw[if_pos e1] at HZ;subst e1;go_enter Tryd.func62,Tryd.ntmps62;go_wp2_with fail;refine HP.mono ?_;rintro e w1 ⟨K1,⟨h,-⟩|⟨l',x',h,rfl,B1⟩⟩
   ·simp at h
   ·obtain⟨rfl,h2⟩:=List.append_inj' h rfl;simp only[List.cons.injEq,and_true] at h2;subst h2;have HY:=HZ.out w1 K1 B1;clear HP HZ K1 B1 h;go_wp2;go_ret;exact HY
  ·rw[if_neg e1] at HZ;have hne:¬(x:Int)=(k:Int):=by omega
   have hn0:¬(x:Int)=0:=by omega
   clear e1;by_cases e2:o=18
   ·rw[if_pos e2] at HZ;subst e2;go_enter Tryd.func62,Tryd.ntmps62;go_wp2_with fail;refine HP.mono ?_;rintro e w1 ⟨K1,⟨h,-⟩|⟨l',x',h,rfl,B1⟩⟩
    ·simp at h
    ·obtain⟨rfl,h2⟩:=List.append_inj' h rfl;simp only[List.cons.injEq,and_true] at h2;subst h2;have HY:=HZ.out w1 K1 B1;clear HP HZ K1 B1 h;go_wp2;go_ret;exact HY
   ·rw[if_neg e2] at HZ;have ho:((o:Int)==18)=false:=by simpa using fun h:(o:Int)=18=>e2 (by omega)
    have hbb:(((x:Int) != 0)&&((o:Int)==18))=false:=by rw[ho,Bool.and_false]
    clear e2;go_enter Tryd.func62,Tryd.ntmps62;go_wp2_with fail;refine HP.mono ?_;rintro e w1 ⟨K1,⟨h,-⟩|⟨l',x',h,rfl,B1⟩⟩
    ·simp at h
    ·obtain⟨rfl,h2⟩:=List.append_inj' h rfl;simp only[List.cons.injEq,and_true] at h2;subst h2;have HY:=HZ.out w1 K1 B1;clear HP HZ K1 B1 h;go_wp2;go_ret;exact HY
def PostLd (b:Nat)(r:Option StG)(w:World)(e:Ending)(w':World):Prop :=
 Kb b w w'/\match r with
 | none=>e=.returned (.bool false)
 | some t=>e=.returned (.bool true)/\StB w' b t
theorem lead_c (c:Cd)(hr:rgtB c=true)(b o a d:Nat)(s:StG)(w:World)(W:WdR c o a d)(S:StOkG s)(hB:StB w b s)(ak:Option Addr)(ck:Nat)(hC:Lsv w ak (isV c.ks))(hn24:o=24->0<s.2) :
  Calls Tryd.prog 40 #[.pointer (some ⟨b,0,none⟩),wdV o a d,.slice ak c.ks.length ck] w (PostLd b (leadF c o a s) w):=by
 obtain⟨w1,hw1⟩:∃w1,w1=w.alloc (bxW o a d):=⟨_,rfl⟩
 have B1:Below w.heap.size w w1:=by rw[hw1];exact bG _ _
 obtain⟨g,hg⟩:∃g,g=w.heap.size:=⟨_,rfl⟩
 have hb:w1.heap[g]?=some (bxW o a d):=by rw[hw1,hg];exact h1G _ _
 have c0:w1.cell? ⟨g,0,none⟩=some (.int .i64 (o:Nat)):=by rw[cell_of_row _ _ _ _ _ _ hb];rfl
 have c1:w1.cell? ⟨g,1,none⟩=some (.int .i64 (a:Nat)):=by rw[cell_of_row _ _ _ _ _ _ hb];rfl
 have hlt:=hB.lt;have hB1:StB w1 b s:=(B1.block b hlt).trans hB;have K1:Kb b w w1:=Kb.ofBelowG B1;have C1:=hC.below B1;have h17:=W.c17;have HG:=Lib.hid hg;clear hb hg hC B1;by_cases e17:o=17
 ·subst e17;have ha:=h17 (Or.inl rfl);obtain⟨kb,off,rfl,hkl,hkc⟩:=C1.at (isV_get ha);rw[kdC_int hr ha] at hkc;have hkd:=kdC_ok hr ha;have HP:=push_cG b s (kdC c a) w1 S hkd hB1;have hl:leadF c 17 a s=if s.1.length<1024 then some (s.1++[kdC c a],s.2) else none:=by simp[leadF]
  have haI:(a:Int)<(c.ks.length:Int):=by omega
  have HZ:Hid (∀ bb w',(if s.1.length<1024 then bb=true/\StB w' b (s.1++[kdC c a],s.2) else bb=false)->Kb b w1 w'->PostLd b (leadF c 17 a s) w (.returned (.bool bb)) w'):=fun bb w' h K=>by
   refine⟨K1.trans K,?_⟩;rw[hl];by_cases hx:s.1.length<1024
   ·rw[if_pos hx] at h ⊢;exact⟨by rw[h.1],h.2⟩
   ·rw[if_neg hx] at h ⊢;rw[h]
  have HQ:Hid (∀ e w',PostPu b s (kdC c a) w1 e w'->∃bb,e=.returned (.bool bb)/\PostLd b (leadF c 17 a s) w (.returned (.bool bb)) w'):=fun e w' h=>by
   obtain⟨hK,h⟩:=h;by_cases hx:s.1.length<1024
   ·rw[if_pos hx] at h;exact⟨true,h.1,HZ.out true w' (by rw[if_pos hx];exact⟨rfl,h.2⟩) hK⟩
   ·rw[if_neg hx] at h;exact⟨false,h,HZ.out false w' (by rw[if_neg hx]) hK⟩
  clear HZ hl hB1 K1 C1 W S hB h17;generalize kdC c a=kd at *;generalize leadF c 17 a s=LL at *;go_enter Tryd.func40,Tryd.ntmps40;go_upto_region 1 with fail;have hw2:w1=w.alloc (.cells #[.int .i64 17,.int .i64 (a:Nat),.int .i64 (d:Nat)] 84):=hw1;rw[<-hw2,<-HG.out];clear hw1 hw2;go_wp2_with fail;refine HP.mono ?_;intro e w2 h;obtain⟨bb,rfl,HY⟩:=HQ.out e w2 h;clear HP HQ h c0 c1 hkc;go_wp2;go_ret;exact HY
 ·have h17I:¬(o:Int)=17:=by omega
  by_cases e24:o=24
  ·subst e24;have hpos:=hn24 rfl;have hl:leadF c 24 a s=some (s.1,s.2-1):=by simp[leadF]
   obtain⟨l,r⟩:=s;have c33:=(blk_cell hB1 33).trans (stC_rd (l,r));have f33:=blk_frz hB1 33;simp only at c33 hpos;have hrd:=S.rd;simp only at hrd;have hrI:((r:Int)-1)=((r-1:Nat):Int):=by omega
   have HB2:StB (w1.setCell ⟨b,33,none⟩ (.int .i64 ((r-1:Nat):Nat))) b (l,r-1):=by
    have:=blk_set (n:=33) hB1 (.int .i64 ((r-1:Nat):Nat))
    rw[stC_rdset] at this;exact this
   have HZ:Hid (PostLd b (leadF c 24 a (l,r)) w (.returned (.bool true)) (w1.setCell ⟨b,33,none⟩ (.int .i64 ((r-1:Nat):Nat)))):=⟨K1.trans ((Kb.refl b w1).set 33 _),by rw[hl];exact⟨rfl,HB2⟩⟩
   have HI:=Lib.hid hrI;have hrp:(0:Int)<(r:Int)/\(r:Int)<=4:=by omega
   clear hB1 K1 C1 W S hB h17 HB2 hl hrI;go_enter Tryd.func40,Tryd.ntmps40;go_upto_region 1 with fail;have hw2:w1=w.alloc (.cells #[.int .i64 24,.int .i64 (a:Nat),.int .i64 (d:Nat)] 84):=hw1;rw[<-hw2,<-HG.out];clear hw1 hw2;go_wp2_with fail;rw[HI.out];go_ret;exact HZ.out
  ·have h24I:¬(o:Int)=24:=by omega
   have hl:leadF c o a s=some s:=by simp[leadF,e17,e24]
   have HZ:Hid (PostLd b (leadF c o a s) w (.returned (.bool true)) w1):=⟨K1,by rw[hl];exact⟨rfl,hB1⟩⟩
   clear hB1 K1 C1 W S hB h17 hl;go_enter Tryd.func40,Tryd.ntmps40;go_upto_region 1 with fail;rw[<-hw1,<-HG.out];clear hw1;go_wp2_with fail;go_ret;exact HZ.out
theorem sizeKd (l:List Nat):(Tryd.prog.info? 79).map (·.size)=some (kdV l).length:=by
 rw[kdV_len];kernel_rfl
theorem infoU64g:(Tryd.prog.info? 54).map (fun i=>(i.zero,i.size,i.bytes))=some (some (.int .u64 0),1,8):=by kernel_rfl
theorem range_blkg {w:World}{b:Nat}{cs:List Value}{t:TypeId}(h:w.heap[b]?=some (.cells cs.toArray t (0,0))):w.rangeAt b 0 cs:=fun j v hv=>by
 rw[cell_of_row w b (0+j) _ t (0,0) h];simpa using hv
theorem forIn_allg {P:Program}(f:Nat->Bool)(B:Nat->Option Bool × Unit->Sem (ForInStep (Option Bool × Unit))):∀ (l:List Nat),(∀ i,i ∈ l->∀ w,(B i (none,())).run P w=.ok (if f i then ForInStep.yield (none,()) else ForInStep.done (some false,())) w)->∀ w,(forIn l (none,()) B).run P w=.ok (if l.all f then (none,()) else (some false,())) w
 | [],_,w=>by simp
 | i::l,h,w=>by
  have ih:=forIn_allg f B l (fun j hj=>h j (List.mem_cons_of_mem _ hj)) w;rw[List.forIn_cons,Sem.run_bind,h i (List.mem_cons_self ..) w,List.all_cons];cases f i
  ·simp
  ·simpa using ih
theorem eq_kd (d:Nat)(l m:List Nat)(w:World):(Op.equalIn (d+1+1) 79 (.agg (kdV l).toArray) (.agg (kdV m).toArray)).run Tryd.prog w=.ok ((List.range 32).all fun i=>gk l i==gk m i) w:=by
 obtain⟨ii,hii,hzi0,hzi1,hzi2⟩:=info_parts infoU64g;have h1:=fun w=>run_underlying (w:=w) Tryd.underlying79;rw[Op.equalIn];simp only[Sem.run_bind,h1,Result.andThen_ok];have h4:∀ (w:World),(isAgg 54).run Tryd.prog w=.ok false w:=fun w=>by simp[isAgg,run_underlying (w:=w) Tryd.underlying54]
 simp[sizeOf,typeInfo,hii,hzi1,part];rw[forIn_allg (fun i=>gk l i==gk m i),<-List.range_eq_range']
 ·cases ((List.range 32).all fun i=>gk l i==gk m i)<;>simp
 ·intro i hi w;have hi32:i<32:=by
   have:=List.mem_range'.1 hi
   omega
  have hI:(((gk l i:Nat):Int)==((gk m i:Nat):Int))=(gk l i==gk m i):=by
   rw[Bool.eq_iff_iff];simp only[beq_iff_eq];omega
  simp only[Sem.run_bind,h4,Result.andThen_ok,kdV_get l hi32,kdV_get m hi32,Bool.false_eq_true,if_false,Sem.run_pure,run_equalIn_int w d 54 .u64 .u64 _ _ Tryd.underlying54,Sem.run_ite];rw[hI];cases (gk l i==gk m i)<;>simp
theorem eq_kdV (l m:List Nat)(x:Bool)(h:((List.range 32).all fun i=>gk l i==gk m i)=x)(w:World):(Op.equalIn 10000 79 (.agg (kdV l).toArray) (.agg (kdV m).toArray)).run Tryd.prog w=.ok x w:=by
 rw[<-h];exact eq_kd 9998 l m w
theorem same_cG (b d:Nat)(s t:StG)(w:World)(S:StOkG s)(T:StOkG t)(hB:StB w b s)(hD:StB w d t) :
  Calls Tryd.prog 56 #[.pointer (some ⟨b,0,none⟩),.pointer (some ⟨d,0,none⟩)] w fun e w'=>e=.returned (.bool (decide (s=t)))/\Below w.heap.size w w':=by
 obtain⟨l,r⟩:=s;obtain⟨m,q⟩:=t;have hrb:=range_blkg hB;have hrd:=range_blkg hD;have KB:(fun wx:World=>wx.rangeAt b 0 (kdV l)/\wx.rangeAt d 0 (kdV m)/\wx.cell? ⟨b,33,none⟩=some (.int .i64 (r:Nat))/\wx.cell? ⟨d,33,none⟩=some (.int .i64 (q:Nat))) w :=
  ⟨fun j v hv=>hrb j v (by unfold stC;rw[List.getElem?_append_left (List.getElem?_eq_some_iff.1 hv).1];exact hv),fun j v hv=>hrd j v (by unfold stC;rw[List.getElem?_append_left (List.getElem?_eq_some_iff.1 hv).1];exact hv),(blk_cell hB 33).trans (stC_rd (l,r)),(blk_cell hD 33).trans (stC_rd (m,q))⟩
 simp only at KB;have hB0:Below w.heap.size w w.drew:=⟨rfl,rfl,rfl,Nat.le_refl _,fun _ _=>rfl⟩
 by_cases e:m=l
 ·subst e;have HEQ:=eq_kdV m m true (by simp);have hfin:((r:Int)==(q:Int))=decide ((m,r)=(m,q)):=by
   by_cases h:r=q
   ·subst h;simp
   ·rw[decide_eq_false (by simp[h])];simp;omega
  clear S T hB hD hrb hrd;go_enter Tryd.func56,Tryd.ntmps56;go_upto_region 1 with fail;refine wp_region_held_drew (S:=(fun wx=>wx.rangeAt b 0 (kdV m)/\wx.rangeAt d 0 (kdV m)/\wx.cell? ⟨b,33,none⟩=some (.int .i64 (r:Nat))/\wx.cell? ⟨d,33,none⟩=some (.int .i64 (q:Nat)))) (by kernel_rfl) KB (fun hHeld=>?_);refine wpAnyH_take (i:=0) (v:=?v1) rfl (by kernel_rfl) (by kernel_rfl) (by kernel_rfl) (fun _ _ _ h=>h) (Or.inl ⟨by rfl,?hy1⟩) (by assumption) ?rest1
  case hy1=>(intro w hSw;(try dsimp only at hSw);go_simp;all_goals (with_reducible rfl))
  simp only[Act.put,List.getElem_toArray,List.getElem_cons_zero,List.getElem_cons_succ,List.setIfInBounds_toArray,List.set_cons_zero,List.set_cons_succ];refine wpAnyH_take (i:=1) (v:=?v2) rfl (by kernel_rfl) (by kernel_rfl) (by kernel_rfl) (fun _ _ _ h=>h) (Or.inl ⟨by rfl,?hy2⟩) (by assumption) ?rest2
  case hy2=>(intro w hSw;(try dsimp only at hSw);go_simp;all_goals (with_reducible rfl))
  simp only[Act.put,List.getElem_toArray,List.getElem_cons_zero,List.getElem_cons_succ,List.setIfInBounds_toArray,List.set_cons_zero,List.set_cons_succ];refine wpAnyH_take (i:=2) (v:=?v3) rfl (by kernel_rfl) (by kernel_rfl) (by kernel_rfl) (fun _ _ _ h=>h) (Or.inl ⟨by rfl,?hy3⟩) (by assumption) ?rest3
  case hy3=>(intro w hSw;(try dsimp only at hSw);go_simp;all_goals (with_reducible rfl))
  simp only[Act.put,List.getElem_toArray,List.getElem_cons_zero,List.getElem_cons_succ,List.setIfInBounds_toArray,List.set_cons_zero,List.set_cons_succ];refine wpAnyH_take (i:=3) (v:=.agg (kdV m).toArray) rfl (by kernel_rfl) (by kernel_rfl) (by kernel_rfl) (fun _ _ _ h=>h) (yieldsIf_load_mid (by rfl) 79 _ rfl b 0 rfl (kdV m) _ (fun w hSw=>hSw.1) Tryd.underlying79 rfl (sizeKd _)) (by assumption) ?_;simp only[Act.put,List.getElem_toArray,List.getElem_cons_zero,List.getElem_cons_succ,List.setIfInBounds_toArray,List.set_cons_zero,List.set_cons_succ];refine wpAnyH_take (i:=4) (v:=?v4) rfl (by kernel_rfl) (by kernel_rfl) (by kernel_rfl) (fun _ _ _ h=>h) (Or.inl ⟨by rfl,?hy4⟩) (by assumption) ?rest4
  case hy4=>(intro w hSw;(try dsimp only at hSw);go_simp;all_goals (with_reducible rfl))
  simp only[Act.put,List.getElem_toArray,List.getElem_cons_zero,List.getElem_cons_succ,List.setIfInBounds_toArray,List.set_cons_zero,List.set_cons_succ];refine wpAnyH_take (i:=5) (v:=?v5) rfl (by kernel_rfl) (by kernel_rfl) (by kernel_rfl) (fun _ _ _ h=>h) (Or.inl ⟨by rfl,?hy5⟩) (by assumption) ?rest5
  case hy5=>(intro w hSw;(try dsimp only at hSw);go_simp;all_goals (with_reducible rfl))
  simp only[Act.put,List.getElem_toArray,List.getElem_cons_zero,List.getElem_cons_succ,List.setIfInBounds_toArray,List.set_cons_zero,List.set_cons_succ];refine wpAnyH_take (i:=6) (v:=?v6) rfl (by kernel_rfl) (by kernel_rfl) (by kernel_rfl) (fun _ _ _ h=>h) (Or.inl ⟨by rfl,?hy6⟩) (by assumption) ?rest6
  case hy6=>(intro w hSw;(try dsimp only at hSw);go_simp;all_goals (with_reducible rfl))
  simp only[Act.put,List.getElem_toArray,List.getElem_cons_zero,List.getElem_cons_succ,List.setIfInBounds_toArray,List.set_cons_zero,List.set_cons_succ];refine wpAnyH_take (i:=7) (v:=.agg (kdV m).toArray) rfl (by kernel_rfl) (by kernel_rfl) (by kernel_rfl) (fun _ _ _ h=>h) (yieldsIf_load_mid (by rfl) 79 _ rfl d 0 rfl (kdV m) _ (fun w hSw=>hSw.2.1) Tryd.underlying79 rfl (sizeKd _)) (by assumption) ?_;simp only[Act.put,List.getElem_toArray,List.getElem_cons_zero,List.getElem_cons_succ,List.setIfInBounds_toArray,List.set_cons_zero,List.set_cons_succ];refine wpAnyH_take (i:=8) (v:=.bool true) rfl (by kernel_rfl) (by kernel_rfl) (by kernel_rfl) (fun _ _ _ h=>h) (Or.inl ⟨by rfl,?eq1⟩) (by assumption) ?eqrest1
  case eq1=>(intro w hSw;(try dsimp only at hSw);have e25:=HEQ w;go_simp;all_goals (with_reducible rfl))
  simp only[Act.put,List.getElem_toArray,List.getElem_cons_zero,List.getElem_cons_succ,List.setIfInBounds_toArray,List.set_cons_zero,List.set_cons_succ];refine wpAnyH_take (i:=9) (v:=?v7) rfl (by kernel_rfl) (by kernel_rfl) (by kernel_rfl) (fun _ _ _ h=>h) (Or.inl ⟨by rfl,?hy7⟩) (by assumption) ?rest7
  case hy7=>(intro w hSw;(try dsimp only at hSw);go_simp;all_goals (with_reducible rfl))
  simp only[Act.put,List.getElem_toArray,List.getElem_cons_zero,List.getElem_cons_succ,List.setIfInBounds_toArray,List.set_cons_zero,List.set_cons_succ];refine wpAnyH_take (i:=10) (v:=?v8) rfl (by kernel_rfl) (by kernel_rfl) (by kernel_rfl) (fun _ _ _ h=>h) (Or.inl ⟨by rfl,?hy8⟩) (by assumption) ?rest8
  case hy8=>(intro w hSw;(try dsimp only at hSw);go_simp;all_goals (with_reducible rfl))
  simp only[Act.put,List.getElem_toArray,List.getElem_cons_zero,List.getElem_cons_succ,List.setIfInBounds_toArray,List.set_cons_zero,List.set_cons_succ];refine wpAnyH_take (i:=11) (v:=?v9) rfl (by kernel_rfl) (by kernel_rfl) (by kernel_rfl) (fun _ _ _ h=>h) (Or.inl ⟨by rfl,?hy9⟩) (by assumption) ?rest9
  case hy9=>(intro w hSw;(try dsimp only at hSw);go_simp;all_goals (with_reducible rfl))
  simp only[Act.put,List.getElem_toArray,List.getElem_cons_zero,List.getElem_cons_succ,List.setIfInBounds_toArray,List.set_cons_zero,List.set_cons_succ];refine wpAnyH_take (i:=12) (v:=?v10) rfl (by kernel_rfl) (by kernel_rfl) (by kernel_rfl) (fun _ _ _ h=>h) (Or.inl ⟨by rfl,?hy10⟩) (by assumption) ?rest10
  case hy10=>(intro w hSw;(try dsimp only at hSw);go_simp;all_goals (with_reducible rfl))
  simp only[Act.put,List.getElem_toArray,List.getElem_cons_zero,List.getElem_cons_succ,List.setIfInBounds_toArray,List.set_cons_zero,List.set_cons_succ];refine wpAnyH_take (i:=13) (v:=?v11) rfl (by kernel_rfl) (by kernel_rfl) (by kernel_rfl) (fun _ _ _ h=>h) (Or.inl ⟨by rfl,?hy11⟩) (by assumption) ?rest11
  case hy11=>(intro w hSw;(try dsimp only at hSw);have z5:=hSw.2.2.1;go_simp;all_goals (with_reducible rfl))
  simp only[Act.put,List.getElem_toArray,List.getElem_cons_zero,List.getElem_cons_succ,List.setIfInBounds_toArray,List.set_cons_zero,List.set_cons_succ];refine wpAnyH_take (i:=14) (v:=?v12) rfl (by kernel_rfl) (by kernel_rfl) (by kernel_rfl) (fun _ _ _ h=>h) (Or.inl ⟨by rfl,?hy12⟩) (by assumption) ?rest12
  case hy12=>(intro w hSw;(try dsimp only at hSw);go_simp;all_goals (with_reducible rfl))
  simp only[Act.put,List.getElem_toArray,List.getElem_cons_zero,List.getElem_cons_succ,List.setIfInBounds_toArray,List.set_cons_zero,List.set_cons_succ];refine wpAnyH_take (i:=15) (v:=?v13) rfl (by kernel_rfl) (by kernel_rfl) (by kernel_rfl) (fun _ _ _ h=>h) (Or.inl ⟨by rfl,?hy13⟩) (by assumption) ?rest13
  case hy13=>(intro w hSw;(try dsimp only at hSw);go_simp;all_goals (with_reducible rfl))
  simp only[Act.put,List.getElem_toArray,List.getElem_cons_zero,List.getElem_cons_succ,List.setIfInBounds_toArray,List.set_cons_zero,List.set_cons_succ];refine wpAnyH_take (i:=16) (v:=?v14) rfl (by kernel_rfl) (by kernel_rfl) (by kernel_rfl) (fun _ _ _ h=>h) (Or.inl ⟨by rfl,?hy14⟩) (by assumption) ?rest14
  case hy14=>(intro w hSw;(try dsimp only at hSw);go_simp;all_goals (with_reducible rfl))
  simp only[Act.put,List.getElem_toArray,List.getElem_cons_zero,List.getElem_cons_succ,List.setIfInBounds_toArray,List.set_cons_zero,List.set_cons_succ];refine wpAnyH_take (i:=17) (v:=?v15) rfl (by kernel_rfl) (by kernel_rfl) (by kernel_rfl) (fun _ _ _ h=>h) (Or.inl ⟨by rfl,?hy15⟩) (by assumption) ?rest15
  case hy15=>(intro w hSw;(try dsimp only at hSw);have z6:=hSw.2.2.2;go_simp;all_goals (with_reducible rfl))
  simp only[Act.put,List.getElem_toArray,List.getElem_cons_zero,List.getElem_cons_succ,List.setIfInBounds_toArray,List.set_cons_zero,List.set_cons_succ];refine wpAnyH_take (i:=18) (v:=?v16) rfl (by kernel_rfl) (by kernel_rfl) (by kernel_rfl) (fun _ _ _ h=>h) (Or.inl ⟨by rfl,?hy16⟩) (by assumption) ?rest16
  case hy16=>(intro w hSw;(try dsimp only at hSw);go_simp;all_goals (with_reducible rfl))
  simp only[Act.put,List.getElem_toArray,List.getElem_cons_zero,List.getElem_cons_succ,List.setIfInBounds_toArray,List.set_cons_zero,List.set_cons_succ];refine wpAnyH_take (i:=19) (v:=?v17) rfl (by kernel_rfl) (by kernel_rfl) (by kernel_rfl) (fun _ _ _ h=>h) (Or.inl ⟨by rfl,?hy17⟩) (by assumption) ?rest17
  case hy17=>(intro w hSw;(try dsimp only at hSw);go_simp;all_goals (with_reducible rfl))
  simp only[Act.put,List.getElem_toArray,List.getElem_cons_zero,List.getElem_cons_succ,List.setIfInBounds_toArray,List.set_cons_zero,List.set_cons_succ];refine wpAnyH_take (i:=20) (v:=?v18) rfl (by kernel_rfl) (by kernel_rfl) (by kernel_rfl) (fun _ _ _ h=>h) (Or.inl ⟨by rfl,?hy18⟩) (by assumption) ?rest18
  case hy18=>(intro w hSw;(try dsimp only at hSw);go_simp;all_goals (with_reducible rfl))
  simp only[Act.put,List.getElem_toArray,List.getElem_cons_zero,List.getElem_cons_succ,List.setIfInBounds_toArray,List.set_cons_zero,List.set_cons_succ];refine wpAnyH_done (by kernel_rfl) ?_ _;go_wp2;go_ret;exact⟨by first|exact ret_bool hfin|exact ret_bool (by simp)|(rw[<-hfin];simp),hB0⟩
 ·have hfin:decide ((l,r)=(m,q))=false:=decide_eq_false (by simp;intro x;exact absurd x.symm e);rw[hfin];have HEQ:=eq_kdV l m false (by
   rw[<-Bool.not_eq_true,List.all_eq_true];intro h;exact e (gk_inj S.kd T.kd S.len T.len fun i hi=>by simpa using h i (List.mem_range.2 hi)).symm)
  clear S T hB hD hrb hrd e;go_enter Tryd.func56,Tryd.ntmps56;go_upto_region 1 with fail;refine wp_region_held_drew (S:=(fun wx=>wx.rangeAt b 0 (kdV l)/\wx.rangeAt d 0 (kdV m)/\wx.cell? ⟨b,33,none⟩=some (.int .i64 (r:Nat))/\wx.cell? ⟨d,33,none⟩=some (.int .i64 (q:Nat)))) (by kernel_rfl) KB (fun hHeld=>?_);refine wpAnyH_take (i:=0) (v:=?v19) rfl (by kernel_rfl) (by kernel_rfl) (by kernel_rfl) (fun _ _ _ h=>h) (Or.inl ⟨by rfl,?hy19⟩) (by assumption) ?rest19
  case hy19=>(intro w hSw;(try dsimp only at hSw);go_simp;all_goals (with_reducible rfl))
  simp only[Act.put,List.getElem_toArray,List.getElem_cons_zero,List.getElem_cons_succ,List.setIfInBounds_toArray,List.set_cons_zero,List.set_cons_succ];refine wpAnyH_take (i:=1) (v:=?v20) rfl (by kernel_rfl) (by kernel_rfl) (by kernel_rfl) (fun _ _ _ h=>h) (Or.inl ⟨by rfl,?hy20⟩) (by assumption) ?rest20
  case hy20=>(intro w hSw;(try dsimp only at hSw);go_simp;all_goals (with_reducible rfl))
  simp only[Act.put,List.getElem_toArray,List.getElem_cons_zero,List.getElem_cons_succ,List.setIfInBounds_toArray,List.set_cons_zero,List.set_cons_succ];refine wpAnyH_take (i:=2) (v:=?v21) rfl (by kernel_rfl) (by kernel_rfl) (by kernel_rfl) (fun _ _ _ h=>h) (Or.inl ⟨by rfl,?hy21⟩) (by assumption) ?rest21
  case hy21=>(intro w hSw;(try dsimp only at hSw);go_simp;all_goals (with_reducible rfl))
  simp only[Act.put,List.getElem_toArray,List.getElem_cons_zero,List.getElem_cons_succ,List.setIfInBounds_toArray,List.set_cons_zero,List.set_cons_succ];refine wpAnyH_take (i:=3) (v:=.agg (kdV l).toArray) rfl (by kernel_rfl) (by kernel_rfl) (by kernel_rfl) (fun _ _ _ h=>h) (yieldsIf_load_mid (by rfl) 79 _ rfl b 0 rfl (kdV l) _ (fun w hSw=>hSw.1) Tryd.underlying79 rfl (sizeKd _)) (by assumption) ?_;simp only[Act.put,List.getElem_toArray,List.getElem_cons_zero,List.getElem_cons_succ,List.setIfInBounds_toArray,List.set_cons_zero,List.set_cons_succ];refine wpAnyH_take (i:=4) (v:=?v22) rfl (by kernel_rfl) (by kernel_rfl) (by kernel_rfl) (fun _ _ _ h=>h) (Or.inl ⟨by rfl,?hy22⟩) (by assumption) ?rest22
  case hy22=>(intro w hSw;(try dsimp only at hSw);go_simp;all_goals (with_reducible rfl))
  simp only[Act.put,List.getElem_toArray,List.getElem_cons_zero,List.getElem_cons_succ,List.setIfInBounds_toArray,List.set_cons_zero,List.set_cons_succ];refine wpAnyH_take (i:=5) (v:=?v23) rfl (by kernel_rfl) (by kernel_rfl) (by kernel_rfl) (fun _ _ _ h=>h) (Or.inl ⟨by rfl,?hy23⟩) (by assumption) ?rest23
  case hy23=>(intro w hSw;(try dsimp only at hSw);go_simp;all_goals (with_reducible rfl))
  simp only[Act.put,List.getElem_toArray,List.getElem_cons_zero,List.getElem_cons_succ,List.setIfInBounds_toArray,List.set_cons_zero,List.set_cons_succ];refine wpAnyH_take (i:=6) (v:=?v24) rfl (by kernel_rfl) (by kernel_rfl) (by kernel_rfl) (fun _ _ _ h=>h) (Or.inl ⟨by rfl,?hy24⟩) (by assumption) ?rest24
  case hy24=>(intro w hSw;(try dsimp only at hSw);go_simp;all_goals (with_reducible rfl))
  simp only[Act.put,List.getElem_toArray,List.getElem_cons_zero,List.getElem_cons_succ,List.setIfInBounds_toArray,List.set_cons_zero,List.set_cons_succ];refine wpAnyH_take (i:=7) (v:=.agg (kdV m).toArray) rfl (by kernel_rfl) (by kernel_rfl) (by kernel_rfl) (fun _ _ _ h=>h) (yieldsIf_load_mid (by rfl) 79 _ rfl d 0 rfl (kdV m) _ (fun w hSw=>hSw.2.1) Tryd.underlying79 rfl (sizeKd _)) (by assumption) ?_;simp only[Act.put,List.getElem_toArray,List.getElem_cons_zero,List.getElem_cons_succ,List.setIfInBounds_toArray,List.set_cons_zero,List.set_cons_succ];refine wpAnyH_take (i:=8) (v:=.bool false) rfl (by kernel_rfl) (by kernel_rfl) (by kernel_rfl) (fun _ _ _ h=>h) (Or.inl ⟨by rfl,?eq2⟩) (by assumption) ?eqrest2
  case eq2=>(intro w hSw;(try dsimp only at hSw);have e25:=HEQ w;go_simp;all_goals (with_reducible rfl))
  simp only[Act.put,List.getElem_toArray,List.getElem_cons_zero,List.getElem_cons_succ,List.setIfInBounds_toArray,List.set_cons_zero,List.set_cons_succ];refine wpAnyH_take (i:=9) (v:=?v25) rfl (by kernel_rfl) (by kernel_rfl) (by kernel_rfl) (fun _ _ _ h=>h) (Or.inl ⟨by rfl,?hy25⟩) (by assumption) ?rest25
  case hy25=>(intro w hSw;(try dsimp only at hSw);go_simp;all_goals (with_reducible rfl))
  simp only[Act.put,List.getElem_toArray,List.getElem_cons_zero,List.getElem_cons_succ,List.setIfInBounds_toArray,List.set_cons_zero,List.set_cons_succ];refine wpAnyH_take (i:=10) (v:=undef) rfl (by kernel_rfl) (by kernel_rfl) (by kernel_rfl) (fun _ _ _ h=>h) (Or.inr ⟨?uw3,rfl⟩) (by assumption) ?urest3
  case uw3=>kernel_rfl
  simp only[Act.put,List.getElem_toArray,List.getElem_cons_zero,List.getElem_cons_succ,List.setIfInBounds_toArray,List.set_cons_zero,List.set_cons_succ];refine wpAnyH_take (i:=11) (v:=undef) rfl (by kernel_rfl) (by kernel_rfl) (by kernel_rfl) (fun _ _ _ h=>h) (Or.inr ⟨?uw4,rfl⟩) (by assumption) ?urest4
  case uw4=>kernel_rfl
  simp only[Act.put,List.getElem_toArray,List.getElem_cons_zero,List.getElem_cons_succ,List.setIfInBounds_toArray,List.set_cons_zero,List.set_cons_succ];refine wpAnyH_take (i:=12) (v:=undef) rfl (by kernel_rfl) (by kernel_rfl) (by kernel_rfl) (fun _ _ _ h=>h) (Or.inr ⟨?uw5,rfl⟩) (by assumption) ?urest5
  case uw5=>kernel_rfl
  simp only[Act.put,List.getElem_toArray,List.getElem_cons_zero,List.getElem_cons_succ,List.setIfInBounds_toArray,List.set_cons_zero,List.set_cons_succ];refine wpAnyH_take (i:=13) (v:=undef) rfl (by kernel_rfl) (by kernel_rfl) (by kernel_rfl) (fun _ _ _ h=>h) (Or.inr ⟨?uw6,rfl⟩) (by assumption) ?urest6
  case uw6=>kernel_rfl
  simp only[Act.put,List.getElem_toArray,List.getElem_cons_zero,List.getElem_cons_succ,List.setIfInBounds_toArray,List.set_cons_zero,List.set_cons_succ];refine wpAnyH_take (i:=14) (v:=undef) rfl (by kernel_rfl) (by kernel_rfl) (by kernel_rfl) (fun _ _ _ h=>h) (Or.inr ⟨?uw7,rfl⟩) (by assumption) ?urest7
  case uw7=>kernel_rfl
  simp only[Act.put,List.getElem_toArray,List.getElem_cons_zero,List.getElem_cons_succ,List.setIfInBounds_toArray,List.set_cons_zero,List.set_cons_succ];refine wpAnyH_take (i:=15) (v:=undef) rfl (by kernel_rfl) (by kernel_rfl) (by kernel_rfl) (fun _ _ _ h=>h) (Or.inr ⟨?uw8,rfl⟩) (by assumption) ?urest8
  case uw8=>kernel_rfl
  simp only[Act.put,List.getElem_toArray,List.getElem_cons_zero,List.getElem_cons_succ,List.setIfInBounds_toArray,List.set_cons_zero,List.set_cons_succ];refine wpAnyH_take (i:=16) (v:=undef) rfl (by kernel_rfl) (by kernel_rfl) (by kernel_rfl) (fun _ _ _ h=>h) (Or.inr ⟨?uw9,rfl⟩) (by assumption) ?urest9
  case uw9=>kernel_rfl
  simp only[Act.put,List.getElem_toArray,List.getElem_cons_zero,List.getElem_cons_succ,List.setIfInBounds_toArray,List.set_cons_zero,List.set_cons_succ];refine wpAnyH_take (i:=17) (v:=undef) rfl (by kernel_rfl) (by kernel_rfl) (by kernel_rfl) (fun _ _ _ h=>h) (Or.inr ⟨?uw10,rfl⟩) (by assumption) ?urest10
  case uw10=>kernel_rfl
  simp only[Act.put,List.getElem_toArray,List.getElem_cons_zero,List.getElem_cons_succ,List.setIfInBounds_toArray,List.set_cons_zero,List.set_cons_succ];refine wpAnyH_take (i:=18) (v:=undef) rfl (by kernel_rfl) (by kernel_rfl) (by kernel_rfl) (fun _ _ _ h=>h) (Or.inr ⟨?uw11,rfl⟩) (by assumption) ?urest11
  case uw11=>kernel_rfl
  simp only[Act.put,List.getElem_toArray,List.getElem_cons_zero,List.getElem_cons_succ,List.setIfInBounds_toArray,List.set_cons_zero,List.set_cons_succ];refine wpAnyH_take (i:=19) (v:=?v26) rfl (by kernel_rfl) (by kernel_rfl) (by kernel_rfl) (fun _ _ _ h=>h) (Or.inl ⟨by rfl,?hy26⟩) (by assumption) ?rest26
  case hy26=>(intro w hSw;(try dsimp only at hSw);go_simp;all_goals (with_reducible rfl))
  simp only[Act.put,List.getElem_toArray,List.getElem_cons_zero,List.getElem_cons_succ,List.setIfInBounds_toArray,List.set_cons_zero,List.set_cons_succ];refine wpAnyH_take (i:=20) (v:=?v27) rfl (by kernel_rfl) (by kernel_rfl) (by kernel_rfl) (fun _ _ _ h=>h) (Or.inl ⟨by rfl,?hy27⟩) (by assumption) ?rest27
  case hy27=>(intro w hSw;(try dsimp only at hSw);go_simp;all_goals (with_reducible rfl))
  simp only[Act.put,List.getElem_toArray,List.getElem_cons_zero,List.getElem_cons_succ,List.setIfInBounds_toArray,List.set_cons_zero,List.set_cons_succ];refine wpAnyH_done (by kernel_rfl) ?_ _;go_wp2;go_ret;exact⟨rfl,hB0⟩
open Go.ChangeShapes Go.WideShapes Go.ChangeAt Go.RowKit Go.Shelf
attribute [local go_sem] Oper.semAt_some
theorem backward_c (w:World)(ao:Option Addr)(n cap:Nat):Calls Tryd.prog 61 #[.slice ao n cap] w fun e w'=>e=.returned (.func (.func 80) #[] #[.pointer (some ⟨w.heap.size,0,none⟩)])/\w'=w.alloc (.cells #[.slice ao n cap] 25):=by
 go_enter Tryd.func61,Tryd.ntmps61;go_wp2;go_ret;exact⟨rfl,rfl⟩
abbrev Kd:Type:={ x:Nat × Nat // x.1<=1024/\1<=x.2/\x.2<=3 }
def encK (x:Kd):Array Value:=#[.int .i64 (x.1.1:Nat),.int .i64 (x.1.2:Nat)]
def Kq (m b:Nat)(A B:World):Prop:=A.heap.size<=B.heap.size/\∀ k,k<m->k≠b->B.heap[k]?=A.heap[k]?
theorem Kq.trans {m b:Nat}{A B C:World}(h:Kq m b A B)(k:Kq m b B C):Kq m b A C:=⟨Nat.le_trans h.1 k.1,fun i hi hn=>(k.2 i hi hn).trans (h.2 i hi hn)⟩
theorem Kq.refl (m b:Nat)(A:World):Kq m b A A:=⟨Nat.le_refl _,fun _ _ _=>rfl⟩
def cameL (zs:List Kd)(k:Nat):List Kd:=zs.reverse.take k
theorem came_succ {zs:List Kd}{k:Nat}(h:k<zs.length):cameL zs (k+1)=cameL zs k++[zs[zs.length-1-k]]:=by
 unfold cameL;rw[List.take_succ_eq_append_getElem (by simpa using h),List.getElem_reverse]
theorem backward1_in (F:Fence)(n:Nat)(h7:F.fn 80)(hro:F.round=none)(hn:1<=n)(l Bs m b g off cap:Nat)(zs:List Kd)(hlen:zs.length<=1024)(hz:∀ j (h:j<zs.length),(zs[j]).1.1=j)(hb:g<m)(hb2:g≠b)(hBm:Bs<m)(hBb:Bs≠b)(J Jx:List Kd->World->Prop)
  (hY:∀ pre x W,J pre W->pre.length<zs.length->YieldAt F (n-1) Tryd.prog l (encK x) W fun e W' =>
   (e=.returned (.bool true)/\J (pre++[x]) W'/\Kq m b W W')\/(e=.returned (.bool false)/\Jx (pre++[x]) W'))
  (W:World) (hBs:W.cell? ⟨Bs,0,none⟩=some (.slice (some ⟨g,off,none⟩) zs.length cap)) (hc:∀ j (h:j<zs.length),W.cell? ⟨g,off+j,none⟩=some (.int .i64 ((zs[j]).1.2:Nat))) (h0:J [] W) :
  CallsIn F n Tryd.prog 80 #[.func (.yield l) #[] #[],.pointer (some ⟨Bs,0,none⟩)] W fun e W'=>(∃v,e=.returned v) /\
   ((∃ys,ys=cameL zs zs.length/\J ys W')\/(∃pre,(∃k,k<=zs.length/\pre=cameL zs k)/\Jx pre W')):=by
 refine callsIn_of_wp Tryd.func80 rfl h7 ?_ hro;simp only[Tryd.ntmps80,List.size_toArray,List.length_cons,List.length_nil,Nat.reduceAdd,Nat.reduceSub,Array.replicate_succ,Array.replicate_zero,List.push_toArray,List.append_toArray,List.nil_append,List.cons_append]
 gi_wp2
 gi_loopw [3] (fun i wr=>∃k:Nat,k<=zs.length/\i=.int .i64 ((zs.length:Int)-1-(k:Nat))/\J (cameL zs k) wr/\Kq m b W wr)
  (fun i _=>(intOf i+1).toNat)
 case atStart=>exact⟨0,Nat.zero_le _,by simp,h0,Kq.refl _ _ _⟩
 case round =>
  obtain⟨k,hk,rfl,hJs,hnx⟩:=hrel;by_cases hlt:k<zs.length
  ·have hcl:(cameL zs k).length=k:=by simp[cameL];omega
   obtain⟨q,hq⟩:∃q,q=zs.length-1-k:=⟨_,rfl⟩
   have hql:q<zs.length:=by omega
   have hqI:((zs.length:Int)-1-(k:Nat))=((q:Nat):Int):=by omega
   obtain⟨fn,tmps,assign,body,hy,hR⟩:=hY _ (zs[q]) wr hJs (by rw[hcl];exact hlt);have hcs:cameL zs (k+1)=cameL zs k++[zs[q]]:=by rw[came_succ hlt];simp only[hq]
   unfold encK at hy;rw[hz q hql] at hy;have cb:wr.cell? ⟨Bs,0,none⟩=some (.slice (some ⟨g,off,none⟩) zs.length cap):=(World.cell?_of_block (a:=⟨Bs,0,none⟩) (hnx.2 Bs hBm hBb)).trans hBs;have cq:wr.cell? ⟨g,off+q,none⟩=some (.int .i64 ((zs[q]).1.2:Nat)):=(World.cell?_of_block (a:=⟨g,off+q,none⟩) (hnx.2 g hb hb2)).trans (hc q hql);rw[<-hcs] at hR;have hqI2:(q:Int)<(zs.length:Int):=by omega
   have hqn:((q:Nat):Int)-1=((zs.length:Int)-1-((k+1:Nat):Int)):=by omega
   have HN:=Lib.hid hqn;have HQ:=Lib.hid hq;rw[hqI];clear hcs hqn hq hqI;generalize zs[q]=zq at *
   gi_wp2
   refine hR.mono ?_;rintro e W3 (⟨rfl,hJ3,hk3⟩|⟨rfl,hJx3⟩)
   ·gi_wp2
    go_roundw
    case rel=>exact⟨k+1,by omega,by rw[HN.out],hJ3,hnx.trans hk3⟩
    case measure=>have:=HQ.out;simp[intOf]<;>omega
   ·gi_wp2
    refine bodyPost_ret (results_none rfl _ _ _) rfl ?_;exact⟨⟨_,rfl⟩,.inr ⟨_,⟨k+1,by omega,rfl⟩,hJx3⟩⟩
  ·obtain rfl:k=zs.length:=by omega
   have hneg:((zs.length:Int)-1-(zs.length:Nat))=-1:=by omega
   rw[hneg]
   gi_wp2
   go_end0
   exact⟨⟨_,rfl⟩,.inl ⟨_,rfl,hJs⟩⟩
attribute [local go_sem] Oper.semAt_some
theorem backward0_in (F:Fence)(n:Nat)(h7:F.fn 80)(hro:F.round=none)(l Bs cap:Nat)(ao:Option Addr)(J:List Kd->World->Prop)(W:World)
  (hBs:W.cell? ⟨Bs,0,none⟩=some (.slice ao 0 cap)) (h0:J [] W) :
  CallsIn F n Tryd.prog 80 #[.func (.yield l) #[] #[],.pointer (some ⟨Bs,0,none⟩)] W fun e W'=>(∃v,e=.returned v)/\J [] W':=by
 refine callsIn_of_wp Tryd.func80 rfl h7 ?_ hro;simp only[Tryd.ntmps80,List.size_toArray,List.length_cons,List.length_nil,Nat.reduceAdd,Nat.reduceSub,Array.replicate_succ,Array.replicate_zero,List.push_toArray,List.append_toArray,List.nil_append,List.cons_append]
 gi_wp2
 gi_loopw [3] (fun i wr=>i=.int .i64 (-1)/\J [] wr) (fun _ _=>0)
 case atStart=>exact⟨by simp,h0⟩
 case round =>
  obtain⟨rfl,hJs⟩:=hrel
  gi_wp2
  go_end0
  exact⟨⟨_,rfl⟩,hJs⟩
def kdL (xs:List Nat)(hl:xs.length<=1024)(hk:∀ k ∈ xs,1<=k/\k<=3):List Kd :=
 List.ofFn fun i:Fin xs.length=>⟨(i.1,xs[i.1]),by have:=i.2;dsimp only;omega,hk _ (List.getElem_mem _)⟩
theorem kdL_len {xs:List Nat}{hl:xs.length<=1024}{hk:∀ k ∈ xs,1<=k/\k<=3}:(kdL xs hl hk).length=xs.length:=by simp[kdL]
theorem kdL_at {xs:List Nat}{hl:xs.length<=1024}{hk:∀ k ∈ xs,1<=k/\k<=3}(j:Nat)(h:j<(kdL xs hl hk).length):((kdL xs hl hk)[j]).1=(j,xs[j]'(by rw[<-kdL_len (hl:=hl) (hk:=hk)];exact h)):=by
 simp[kdL]
theorem kdL_map {xs:List Nat}{hl:xs.length<=1024}{hk:∀ k ∈ xs,1<=k/\k<=3}:(kdL xs hl hk).map (·.1.2)=xs:=by
 apply List.ext_getElem
 ·simp[kdL]
 ·intro i h1 h2;simp[kdL]
theorem backward_stops (F:Fence)(n:Nat)(h7:F.fn 80)(hro:F.round=none)(hn:1<=n)(Bs b m0:Nat)(v:Value)(xs:List Nat)(hl:xs.length<=1024)(hk:∀ k ∈ xs,1<=k/\k<=3)(w:World)
  (hBs:Bs<w.heap.size) (hBb:Bs≠b) (hc:w.cell? ⟨Bs,0,none⟩=some v) (hI:InG w m0 v xs) (hb:b<m0) :
  SeqStopsK F n Tryd.prog 80 #[.pointer (some ⟨Bs,0,none⟩)] encK (Kq w.heap.size b) (fun ys=>ys=(kdL xs hl hk).reverse) (fun pre=>∃rest,(kdL xs hl hk).reverse=pre++rest) xs.length w:=fun l J Jx W hW _ _ hY h0=>by
 have hc':=(hW.cell (p:=⟨Bs,0,none⟩) hBs).trans hc;have hI2:=hI.below hW;obtain⟨ao,cap,rfl,h|⟨g,off,rfl,hm,hg,hcs⟩⟩:=hI2
 ·subst h;exact(backward0_in F n h7 hro l Bs cap ao J W hc' h0).mono fun e W' ⟨he,hj⟩=>⟨he,.inl ⟨_,rfl,hj⟩⟩
 ·have hg0:g<w.heap.size\/xs=[]:=by
   obtain⟨ao',cap',e',h' | ⟨g',off',e2,hm',hg',_⟩⟩:=hI
   ·exact .inr h'
   ·cases e';cases e2;exact .inl hg'
  rcases hg0 with hg0|rfl
  ·have hlen:=kdL_len (hl:=hl) (hk:=hk);rw[<-hlen] at hc' hY;refine(backward1_in F n h7 hro hn l Bs w.heap.size b g off cap (kdL xs hl hk) (by rw[hlen];exact hl) (fun j h=>by rw[kdL_at j h]) hg0 (by omega) hBs hBb J Jx hY W hc' (fun j h=>?_) h0).mono ?_
   ·rw[kdL_at j h];exact hcs j _ (List.getElem?_eq_getElem _)
   ·rintro e W' ⟨he,⟨ys,rfl,hj⟩|⟨pre,⟨k,hk',rfl⟩,hj⟩⟩
    ·exact⟨he,.inl ⟨_,by unfold cameL;rw[List.take_of_length_le (by simp)],hj⟩⟩
    ·exact⟨he,.inr ⟨_,⟨_,(List.take_append_drop k _).symm⟩,hj⟩⟩
  ·exact(backward0_in F n h7 hro l Bs cap _ J W hc' h0).mono fun e W' ⟨he,hj⟩=>⟨he,.inl ⟨_,rfl,hj⟩⟩
attribute [local go_sem] Oper.semAt_some
structure Kb2 (b q:Nat)(w w':World):Prop where
 os:w'.os=w.os
 tape:w'.tape=w.tape
 output:w'.output=w.output
 size:w.heap.size<=w'.heap.size
 block:∀ k,k<w.heap.size->k≠b->k≠q->w'.heap[k]?=w.heap[k]?
theorem Kb.grown {b B:Nat}{w W W':World}{row:Option Nat}(h:Kb b w W)(hg:W.grownBy W' row)(hB:w.heap.size<=B)(hr:∀ r,row=some r->B<=r/\∃o:Obj,W.heap[r]?=some o/\o.isCells=false):Kb b w W' :=
 ⟨hg.os.trans h.os,hg.tape.trans h.tape,hg.output.trans h.output,Nat.le_trans h.size hg.size,fun k hk hn=>(hg.block k (Nat.lt_of_lt_of_le hk h.size) (fun e=>by have:=(hr k e.symm).1;omega)).trans (h.block k hk hn)⟩
theorem Kb2.grown {b q B:Nat}{w W W':World}{row:Option Nat}(h:Kb2 b q w W)(hg:W.grownBy W' row)(hB:w.heap.size<=B)(hr:∀ r,row=some r->B<=r/\∃o:Obj,W.heap[r]?=some o/\o.isCells=false):Kb2 b q w W' :=
 ⟨hg.os.trans h.os,hg.tape.trans h.tape,hg.output.trans h.output,Nat.le_trans h.size hg.size,fun k hk hn hm=>(hg.block k (Nat.lt_of_lt_of_le hk h.size) (fun e=>by have:=(hr k e.symm).1;omega)).trans (h.block k hk hn hm)⟩
theorem cells_kept {B:Nat}{W W':World}{row:Option Nat}(hg:W.grownBy W' row)(hr:∀ r,row=some r->B<=r/\∃o:Obj,W.heap[r]?=some o/\o.isCells=false){k:Nat}{cs:Array Value}{t:TypeId}(h:W.heap[k]?=some (.cells cs t (0,0))):W'.heap[k]?=some (.cells cs t (0,0)) :=
 (hg.block k (lt_of_block h) (fun e=>by obtain⟨_,o,ho,hc⟩:=hr k e.symm;rw[h] at ho;cases ho;cases hc)).trans h
theorem Kb.keepsFrom {b B:Nat}{W W':World}(h:Kb b W W')(hb:b<B):KeepsFrom B W W':=⟨h.size,fun k o hB hk _=>(h.block k (Array.getElem?_eq_some_iff.1 hk).1 (by omega)).trans hk⟩
theorem Kb.kq {b m:Nat}{W W':World}(h:Kb b W W')(hm:m<=W.heap.size):Kq m b W W':=⟨h.size,fun k hk hn=>h.block k (by omega) hn⟩
theorem kq_put {m b:Nat}(W:World)(l:Nat)(o o':Obj)(hl:m<=l):Kq m b W (W.putObj l o') :=
 ⟨by simp[World.putObj],fun k hk _=>World.putObj_heap_other (by omega)⟩
theorem Kb.put {b:Nat}{a w:World}(h:Kb b a w){l:Nat}(hl:a.heap.size<=l)(o':Obj):Kb b a (w.putObj l o') :=
 ⟨h.os,h.tape,h.output,by simpa [World.putObj] using h.size,fun k hk hn=>(World.putObj_heap_other (by omega)).trans (h.block k hk hn)⟩
theorem out_end {b D q n:Nat}{w W:World}{r:Nat ⊕ StG}(hK:Kb b w W)(hD:w.heap.size<=D)(hbD:b<D)(hqD:q≠D)(hq:W.heap[q]?=some (.cells #[.int .i64 (n:Nat)] 34 (0,0)))
  (hr:match r with | .inl m=>m=n/\n≠0 | .inr u=>n=0/\StB W b u) :
  PostEG b r w (.returned (.int .i64 (n:Nat))) (W.putObj D (.deferred none))/\(W.putObj D (.deferred none)).cell? ⟨q,0,none⟩=some (.int .i64 (n:Nat)):=by
 refine⟨⟨hK.put hD _,?_⟩,?_⟩
 ·cases r with
  | inl m=>obtain⟨rfl,h⟩:=hr;exact⟨rfl,h⟩
  | inr u=>obtain⟨rfl,h⟩:=hr;exact⟨rfl,(World.putObj_heap_other (by omega)).trans h⟩
 ·have h:(W.putObj D (.deferred none)).heap[q]?=some (.cells #[.int .i64 (n:Nat)] 34 (0,0)):=(World.putObj_heap_other hqD).trans hq;rw[cell_of_row _ _ _ _ _ _ h];rfl
theorem Kb.setNew {b:Nat}{a w:World}(h:Kb b a w){p:Addr}(hp:a.heap.size<=p.block)(u:Value):Kb b a (w.setCell p u) :=
 ⟨h.os,h.tape,h.output,by simpa using h.size,fun k hk hn=>(heap_setCell_other w p k u (fun e=>by omega)).trans (h.block k hk hn)⟩
theorem pass_c (c:Cd)(hr:rgtB c=true)(b o a d:Nat)(s:StG)(w:World)(W:WdR c o a d)(S:StOkG s)(hB:StB w b s)(ak:Option Addr)(ck:Nat)(hC:Lsv w ak (isV c.ks)) :
  Calls Tryd.prog 39 #[.pointer (some ⟨b,0,none⟩),wdV o a d,.slice ak c.ks.length ck] w (PostEG b (passF c o a d s) w):=by
 obtain⟨g,hg⟩:∃g,g=w.heap.size:=⟨_,rfl⟩
 obtain⟨w1,hw1⟩:∃w1,w1=((w.alloc (.cells #[.pointer (some ⟨b,0,none⟩)] 86)).alloc (bxW o a d)).alloc (.cells #[.int .i64 0] 34):=⟨_,rfl⟩
 have hs1:w1.heap.size=g+3:=by rw[hw1,hg];simp
 have B1:Below w.heap.size w w1:=by rw[hw1];exact bG2 _ (bG2 _ (bG _ _))
 have e0:w1.heap[g]?=some (.cells #[.pointer (some ⟨b,0,none⟩)] 86 (0,0)):=by rw[hw1,hg];exact(Below.heap_alloc _ _ _ (by simp;omega)).trans (h2G _ _ _)
 have e1:w1.heap[g+1]?=some (bxW o a d):=by rw[hw1,hg];exact hA2b _ _ _ _
 have e2:w1.heap[g+2]?=some (.cells #[.int .i64 0] 34 (0,0)):=by rw[hw1,hg];exact hA3 _ _ _ _
 have hlt:=hB.lt;have hB1:StB w1 b s:=(B1.block b hlt).trans hB;have C1:=hC.below B1;have hbg:b<g:=by rw[hg];exact hlt
 have HG:=Lib.hid hg;have hF:=fits_c o a d s.2 W.ol;refine(callsIn_wide (n:=6)).1 ?_;refine callsIn_of_wp_marks Tryd.func39 rfl (by simp[Fence.wide]) ?_ rfl;refine wpIn_wide.2 ?_;simp only[Tryd.ntmps39,List.size_toArray,List.length_cons,List.length_nil,Nat.reduceAdd,Nat.reduceSub,Array.replicate_succ,
   Array.replicate_zero,List.push_toArray,List.append_toArray,List.nil_append,List.cons_append]
 have c0:w1.cell? ⟨g,0,none⟩=some (.pointer (some ⟨b,0,none⟩)):=by rw[cell_of_row _ _ _ _ _ _ e0];rfl
 have k0:w1.cell? ⟨g+1,0,none⟩=some (.int .i64 (o:Nat)):=by rw[cell_of_row _ _ _ _ _ _ e1];rfl
 have k1:w1.cell? ⟨g+1,1,none⟩=some (.int .i64 (a:Nat)):=by rw[cell_of_row _ _ _ _ _ _ e1];rfl
 have k2:w1.cell? ⟨g+1,2,none⟩=some (.int .i64 (d:Nat)):=by rw[cell_of_row _ _ _ _ _ _ e1];rfl
 have r33:=(blk_cell hB1 33).trans (stC_rd s);go_upto_region 1 with fail;rw[<-hw1,<-HG.out];clear hw1;have K1:Kb b w w1:=Kb.ofBelowG B1;have HM:Hid (∀ w2,Below w1.heap.size w1 w2->w2.cell? ⟨g+1,0,none⟩=some (.int .i64 (o:Nat))/\w2.cell? ⟨g+1,1,none⟩=some (.int .i64 (a:Nat))/\w2.cell? ⟨g+1,2,none⟩=some (.int .i64 (d:Nat))/\w2.cell? ⟨g,0,none⟩=some (.pointer (some ⟨b,0,none⟩))/\w2.cell? ⟨b,33,none⟩=some (.int .i64 (s.2:Nat))):=fun w2 B=>⟨(B.cell (p:=⟨g+1,0,none⟩) (by show g+1 < _;omega)).trans k0,(B.cell (p:=⟨g+1,1,none⟩) (by show g+1 < _;omega)).trans k1,(B.cell (p:=⟨g+1,2,none⟩) (by show g+1 < _;omega)).trans k2,(B.cell (p:=⟨g,0,none⟩) (by show g < _;omega)).trans c0,(B.cell (p:=⟨b,33,none⟩) (by show b < _;omega)).trans r33⟩;have hPF:=pass_takes c o a d s;have HS1:=Lib.hid hs1;have E2:Hid (∀ w2,Below w1.heap.size w1 w2->w2.heap[g+1+1]?=some (.cells #[.int .i64 0] 34 (0,0))/\w2.cell? ⟨g+1+1,0,none⟩=some (.int .i64 0)/\w2.frozen? ⟨g+1+1,0,none⟩=false):=fun w2 B=>by
  have h:=(B.block (g+1+1) (by omega)).trans e2;exact⟨h,by rw[cell_of_row _ _ _ _ _ _ h];rfl,frozen_of_row _ _ _ _ _ h⟩
 clear e0 e1 e2 hs1 hB hg hlt;cases hfit:fitE o a s.2
 ·rw[hfit] at hF hPF;rw[if_neg (by decide)] at hPF;obtain⟨q0,q1,q2,q3,q4⟩:=HM.out w1.drew ((Below.refl _ w1).drew);clear k0 k1 k2 c0 r33;go_region_held3 (fun wx=>wx.cell? ⟨g+1,0,none⟩=some (.int .i64 (o:Nat))/\wx.cell? ⟨g+1,1,none⟩=some (.int .i64 (a:Nat))/\wx.cell? ⟨g+1,2,none⟩=some (.int .i64 (d:Nat))/\wx.cell? ⟨g,0,none⟩=some (.pointer (some ⟨b,0,none⟩))/\wx.cell? ⟨b,33,none⟩=some (.int .i64 (s.2:Nat))) (go_keep) (first|(go_at_call 59;refine(hF _).mono ?_;rintro e w2 ⟨rfl,B2⟩;have BB2:=((Below.refl _ w1).drew).trans B2;obtain⟨m0,m1,m2,m3,m4⟩:=HM.out w2 BB2));obtain⟨j0,j1,j2⟩:=E2.out w2 BB2;have hE:=heap_setCell_same w2 (g+1+1) 0 _ _ (.int .i64 201) j0;have u0:(w2.setCell ⟨g+1+1,0,none⟩ (.int .i64 201)).cell? ⟨g+1+1,0,none⟩=some (.int .i64 201):=by rw[cell_of_row _ _ _ _ _ _ hE];rfl
  have HZ:Hid (PostEG b (passF c o a d s) w (.returned (.int .i64 201)) (w2.setCell ⟨g+1+1,0,none⟩ (.int .i64 201))):=by
   show PostEG _ _ _ _ _;rw[hPF];exact⟨(K1.trans (Kb.ofBelowG BB2)).setNew (by show _<=g+1+1;have:=HG.out;omega) _,rfl,by decide⟩
  clear hE j0;go_wp2;refine⟨.int .i64 201,?_,HZ.out⟩;simp[results,Tryd.f39,go_sem,u0]
 ·rw[hfit] at hF hPF;rw[if_pos rfl] at hPF;obtain⟨q0,q1,q2,q3,q4⟩:=HM.out w1.drew ((Below.refl _ w1).drew);clear k0 k1 k2 c0 r33;go_region_held3 (fun wx=>wx.cell? ⟨g+1,0,none⟩=some (.int .i64 (o:Nat))/\wx.cell? ⟨g+1,1,none⟩=some (.int .i64 (a:Nat))/\wx.cell? ⟨g+1,2,none⟩=some (.int .i64 (d:Nat))/\wx.cell? ⟨g,0,none⟩=some (.pointer (some ⟨b,0,none⟩))/\wx.cell? ⟨b,33,none⟩=some (.int .i64 (s.2:Nat))) (go_keep) (first|(go_at_call 59;refine(hF _).mono ?_;rintro e w2 ⟨rfl,B2⟩;have BB2:=((Below.refl _ w1).drew).trans B2;obtain⟨m0,m1,m2,m3,m4⟩:=HM.out w2 BB2));clear q0 q1 q2 q3 q4 B2 hF;have HE3:=effect_c c hr o a d W w2 ak ck (C1.below BB2);go_upto_region 4 with (first|(go_at_call 60;refine HE3.mono ?_;rintro e w3 ⟨vp,vq,rfl,HP3,HQ3,B3⟩;have BB3:=BB2.trans (B3.mono BB2.size);have BS3:=Nat.le_trans BB2.size B3.size))
  have HP3c:=HP3;obtain⟨ao,cap,rfl,-⟩:=HP3c;obtain⟨w4,hw4⟩:∃w4,w4=w3.alloc (.cells #[.slice ao (effE c o a d).1.length cap] 25):=⟨_,rfl⟩
  go_wp2_with (first|(go_at_call 61;refine(backward_c _ _ _ _).mono ?_;rintro e w4' ⟨rfl,rfl⟩));obtain⟨g3,hg3⟩:∃g3,g3=w3.heap.size:=⟨_,rfl⟩
  rw[<-hw4,<-hg3];have hs1:=HS1.out;have hs2:=BB2.size;have B4:Below w3.heap.size w3 w4:=by rw[hw4];exact bG _ _
  have BB4:Below w1.heap.size w1 w4:=BB3.trans (B4.mono BS3);have hc4:w4.cell? ⟨g3,0,none⟩=some (.slice ao (effE c o a d).1.length cap):=by rw[hw4,hg3,cell_of_row _ _ _ _ _ _ (h1G _ _)];rfl
  have hs4:w4.heap.size=g3+1:=by rw[hw4,hg3];simp
  have hg3l:g+3<=g3:=by have:=HS1.out;omega
  refine(wpIn_wide (n:=6)).1 ?_;refine wpIn_rangeFunc_ownG (α:=Kd) rfl (by omega) (gf:=80) (lb:=#[.pointer (some ⟨g3,0,none⟩)]) rfl (by simp[Fence.wide]) (enters_of Tryd.func80 (by kernel_rfl) rfl)
   (backward_stops Fence.wide 5 (by simp[Fence.wide]) rfl (by omega) g3 b w2.heap.size _ _ (eff_len W) (eff_pop hr W) w4 (by omega) (by omega) hc4 (HP3.below B4) (by omega)) Kq.trans (fun W l o o' hl _ _ _=>kq_put W l o o' hl) (Below.refl _ _) (fun _=>rfl)
   (fun pre W=>Kb b w4 W/\∃t,takesF o (pre.map (·.1.2)) s=.inr t/\StB W b t)
   (fun cd pre W=>cd=.ret/\∃n,n≠0/\takesF o (pre.map (·.1.2)) s=.inl n/\Kb2 b (g+1+1) w4 W/\W.heap[g+1+1]?=some (.cells #[.int .i64 (n:Nat)] 34 (0,0)))
   (fun p A B row hs hg hr=>⟨hs.1.grown hg (Nat.le_refl _) hr,hs.2.imp fun t ht=>⟨ht.1,cells_kept hg hr ht.2⟩⟩)
   (fun cd p A B row hs hg hr=>⟨hs.1,hs.2.imp fun n hn=>⟨hn.1,hn.2.1,hn.2.2.1.grown hg (Nat.le_refl _) hr,cells_kept hg hr hn.2.2.2⟩⟩)
   ⟨Kb.refl _ _,s,rfl,(BB4.block b (by omega)).trans hB1⟩ ?a1 ?assign ?body ?done ?stop
  case assign =>
   intro l x W K hK;unfold encK
   gi_wp2
   exact hK
  case body =>
   rintro l pre x WdG ⟨hK,t,ht,hBt⟩ _;have StG:=(takes_ok S ht).1;obtain⟨n0,-,-,n3,-⟩:=HM.out w4 BB4;obtain⟨r0,r1,r2⟩:=E2.out w4 BB4;have z0:WdG.cell? ⟨g,0,none⟩=some (.pointer (some ⟨b,0,none⟩)):=(World.cell?_of_block (a:=⟨g,0,none⟩) (hK.block g (by omega) (by omega))).trans n3;have z1:WdG.cell? ⟨g+1,0,none⟩=some (.int .i64 (o:Nat)):=(World.cell?_of_block (a:=⟨g+1,0,none⟩) (hK.block (g+1) (by omega) (by omega))).trans n0;have zr:WdG.heap[g+1+1]?=some (.cells #[.int .i64 0] 34 (0,0)):=(hK.block (g+1+1) (by omega) (by omega)).trans r0;have T:=take_c b o x.1.2 t WdG StG x.2.2 hBt;have hts:=takes_app o [x.1.2] (pre.map (·.1.2)) s;rw[ht] at hts;have hts2:takesF o ((pre++[x]).map (·.1.2)) s=match takeF o x.1.2 t with | .inl n=>.inl n | .inr u=>.inr u:=by
    rw[List.map_append,List.map_cons,List.map_nil,hts];rfl
   have hg4:g+1+1<w4.heap.size:=by omega
   have hgb:g+1+1≠b:=by omega
   have hb4:b<w4.heap.size:=by omega
   obtain⟨xk,hxk⟩:∃xk,xk=x.1.2:=⟨_,rfl⟩
   rw[<-hxk] at T hts2;have hKs:=hK.size;unfold PostEG at T;cases htk:takeF o xk t with
   | inl n =>
    rw[htk] at T hts2
    dsimp only at T hts2
    have HZ:Hid (∀ w5,Kb b WdG w5->n≠0->w5.cell? ⟨g+1+1,0,none⟩=some (.int .i64 0)/\w5.frozen? ⟨g+1+1,0,none⟩=false /\
      (KeepsFrom w4.heap.size WdG (w5.setCell ⟨g+1+1,0,none⟩ (.int .i64 (n:Nat)))/\(Code.ret=Code.ret/\∃m,m≠0/\takesF o ((pre++[x]).map (·.1.2)) s=.inl m/\Kb2 b (g+1+1) w4 (w5.setCell ⟨g+1+1,0,none⟩ (.int .i64 (n:Nat)))/\(w5.setCell ⟨g+1+1,0,none⟩ (.int .i64 (n:Nat))).heap[g+1+1]?=some (.cells #[.int .i64 (m:Nat)] 34 (0,0))))):=fun w5 K5 hn=>by
     have h5:=(K5.block (g+1+1) (by omega) hgb).trans zr;refine⟨by rw[cell_of_row _ _ _ _ _ _ h5];rfl,frozen_of_row _ _ _ _ _ h5,⟨by simpa using K5.size,fun k ob hB hk _=>(heap_setCell_other _ _ _ _ (by show k≠g+1+1;omega)).trans ((K5.block k (Array.getElem?_eq_some_iff.1 hk).1 (by omega)).trans hk)⟩,rfl,n,hn,hts2,?_,heap_setCell_same _ _ 0 _ _ _ h5⟩;have KK:=hK.trans K5;exact⟨KK.os,KK.tape,KK.output,by simpa using KK.size,fun k hk h1 h2=>(heap_setCell_other _ _ _ _ h2).trans (KK.block k hk h1)⟩
    have hn1:¬(n:Int)=0->(((n:Nat):Int) != 0)=true:=fun h=>by simpa using h
    have HX:=Lib.hid hxk;rw[<-hxk];clear hxk hts hts2 htk zr hK hKs StG hBt r0 r1 r2 n0 n3 HP3 HQ3 hc4 hs4 hw4 hg3 hs1 hs2 B4 BB4 BB3 BB2 B3 BS3 hB1 C1 K1 B1 hPF HM E2 HS1 ht m0 m1 m2 m3 m4 HE3 hC
    gi_wp2_with (first|(refine⟨trivial,?_⟩;gi_at_call 62;refine(CallsIn.inRound l (callsIn_wide.2 T)).mono ?_;rintro e w5 ⟨K5,rfl,hn⟩;obtain⟨v1,v2,v3⟩:=HZ.out w5 K5 hn;have hn2:=hn1 (by omega);clear hn1 hn HZ T z0 z1 K5))
    exact⟨v3.1,rfl,v3.2.2⟩
   | inr u =>
    rw[htk] at T hts2
    dsimp only at T hts2
    have HZ:Hid (∀ w5,Kb b WdG w5->StB w5 b u->(KeepsFrom w4.heap.size WdG w5/\Kq w4.heap.size b WdG w5/\Kb b w4 w5/\∃t,takesF o ((pre++[x]).map (·.1.2)) s=.inr t/\StB w5 b t)):=fun w5 K5 h5 =>
     ⟨K5.keepsFrom hb4,K5.kq hKs,hK.trans K5,u,hts2,h5⟩
    have HX:=Lib.hid hxk;rw[<-hxk];clear hxk hts hts2 htk zr hK hKs StG hBt r0 r1 r2 n0 n3 HP3 HQ3 hc4 hs4 hw4 hg3 hs1 hs2 B4 BB4 BB3 BB2 B3 BS3 hB1 C1 K1 B1 hPF HM E2 HS1 ht m0 m1 m2 m3 m4 HE3 hC
    gi_wp2_with (first|(refine⟨trivial,?_⟩;gi_at_call 62;refine(CallsIn.inRound l (callsIn_wide.2 T)).mono ?_;rintro e w5 ⟨K5,rfl,h5⟩;have v3:=HZ.out w5 K5 h5;clear HZ T z0 z1 K5 h5))
    exact v3
  case done =>
   rintro D xs WdG hD rfl ⟨hK,t,ht,hBt⟩ hKD;have ht2:takesF o (effE c o a d).1.reverse s=.inr t:=by
    rw[<-ht,List.map_reverse,kdL_map]
   rw[ht2] at hPF
   dsimp only at hPF
   have StG:=(takes_ok S ht).1;have hrt:=(takes_ok S ht).2;have hqp:=eff_push hr W;have hfo:=opn_int hfit;obtain⟨aq,capq,rfl,hq⟩:=HQ3;obtain⟨n0,n1,n2,n3,-⟩:=HM.out w4 BB4;obtain⟨r0,r1,r2⟩:=E2.out w4 BB4;have KW:Kb b w WdG:=(K1.trans (Kb.ofBelowG BB4)).trans hK;have hDl:=lt_of_block hKD;have hql:=eff_plen W;generalize (effE c o a d).2=qs at *
   -- what stands all along the second loop
   have hgD:g+1+1<D/\g+1<D/\g<D/\b<D:=by omega
   have hqp2:=hqp;have HT:Hid (∀ W',Kb b WdG W'->Kb b w W'/\W'.heap[D]?=some (.deferred (some []))/\W'.cell? ⟨g,0,none⟩=some (.pointer (some ⟨b,0,none⟩))/\W'.cell? ⟨g+1,0,none⟩=some (.int .i64 (o:Nat))/\W'.cell? ⟨g+1,1,none⟩=some (.int .i64 (a:Nat))/\W'.cell? ⟨g+1,2,none⟩=some (.int .i64 (d:Nat)) /\
     W'.heap[g+1+1]?=some (.cells #[.int .i64 0] 34 (0,0))/\W'.cell? ⟨g+1+1,0,none⟩=some (.int .i64 0)/\W'.frozen? ⟨g+1+1,0,none⟩=false/\(∀ j x,qs[j]?=some x->∃gq off,aq=some ⟨gq,off,none⟩/\W'.cell? ⟨gq,off+j,none⟩=some (.int .i64 (x:Nat)))):=fun W' K'=>by
    have h4:=hK.trans K';have hh:=(h4.block (g+1+1) (by omega) (by omega)).trans r0;refine⟨KW.trans K',(K'.block D hDl (by omega)).trans hKD,(World.cell?_of_block (a:=⟨g,0,none⟩) (h4.block g (by omega) (by omega))).trans n3,(World.cell?_of_block (a:=⟨g+1,0,none⟩) (h4.block (g+1) (by omega) (by omega))).trans n0,(World.cell?_of_block (a:=⟨g+1,1,none⟩) (h4.block (g+1) (by omega) (by omega))).trans n1,(World.cell?_of_block (a:=⟨g+1,2,none⟩) (h4.block (g+1) (by omega) (by omega))).trans n2,hh,by rw[cell_of_row _ _ _ _ _ _ hh];rfl,frozen_of_row _ _ _ _ _ hh,fun j x hx=>?_⟩;have hq4:=(InG.below ⟨aq,capq,rfl,hq⟩ B4)
    obtain⟨a',c',e',h' | ⟨gq,off,h1,h2,h3,h5⟩⟩:=hq4
    ·subst h';simp at hx
    ·cases e';exact⟨gq,off,h1,(World.cell?_of_block (a:=⟨gq,off+j,none⟩) (h4.block gq h3 (by omega))).trans (h5 j x hx)⟩
   have HOut:Hid (∀ W' n,Kb b WdG W'->W'.heap[g+1+1]?=some (.cells #[.int .i64 (n:Nat)] 34 (0,0))->True):=fun _ _ _ _=>trivial;obtain⟨tl,tr⟩:=t;simp only at hPF hrt;have hPo:=push_cG;clear hc4 hs4 hw4 hg3 hs1 hs2 B4 BB4 BB3 BB2 B3 BS3 hB1 C1 K1 B1 HM E2 HS1 ht m0 m1 m2 m3 m4 HE3 hC HP3 hq n0 n1 n2 n3 r0 r1 r2 ht2;go_wp2_with fail;go_loopw [41] (fun v wr=>∃j:Nat,v=.int .i64 (j:Nat)/\j<=qs.length/\Kb b WdG wr/\StB wr b (tl++qs.take j,tr)/\StOkG (tl++qs.take j,tr)) (fun v _=>qs.length-(intOf v).toNat)
   case atStart=>exact⟨0,by go_num,by omega,Kb.refl _ _,by simpa using hBt,by simpa using StG⟩
   case round =>
    obtain⟨j,rfl,hj,KR,BR,SR⟩:=hrel;obtain⟨h1,h2,z0,y0,y1,y2,h7,h8,h9,h10⟩:=HT.out wr KR;have H2:=Lib.hid h2;have H7:=Lib.hid h7;have HK:=Lib.hid h1;clear h1 h2 h7;by_cases hlt:j<qs.length
    ·have hjI:(j:Int)<(qs.length:Int):=by omega
     obtain⟨gq,off,rfl,hqc⟩:=h10 j _ (List.getElem?_eq_getElem hlt);have hkq:=hqp _ (List.getElem_mem hlt);have HP:=hPo b (tl++qs.take j,tr) qs[j] wr SR hkq BR;have htk:tl++qs.take (j+1)=tl++qs.take j++[qs[j]]:=by rw[List.take_succ_eq_append_getElem hlt,List.append_assoc]
     clear h10;by_cases hroom:(tl++qs.take j).length<1024
     ·unfold PostPu at HP
      dsimp only at HP
      simp only[if_pos hroom,<-htk] at HP;have SN:StOkG (tl++qs.take (j+1),tr):=⟨by rw[htk,List.length_append];simp only[List.length_cons,List.length_nil];omega,fun k hk=>by
       rw[htk] at hk;rcases List.mem_append.1 hk with hk|hk
       ·exact SR.kd k hk
       ·simp at hk;subst hk;exact hkq,SR.rd⟩
      have HN:=Lib.hid htk;have HSN:=Lib.hid SN;have hstep:=fun w5 (K5:Kb b wr w5)=>KR.trans K5;clear htk SN SR BR hkq hroom hPF KR hPo;generalize qs[j]=xk at *;go_wp2_with (first|(go_at_call 63;refine HP.mono ?_;rintro e w5 ⟨K5,rfl,B5⟩));go_roundw
      case rel=>(try ((repeat apply Exists.intro);refine⟨?_,rfl⟩));exact⟨j+1,by go_num,by omega,hstep w5 K5,B5,HSN.out⟩
      case measure=>simp[intOf];omega
     ·unfold PostPu at HP
      dsimp only at HP
      simp only[if_neg hroom] at HP;have hfull:passF c o a d s=.inl 201:=by
       have htk:(qs.take j).length=j:=by rw[List.length_take];omega
       simp only[List.length_append,htk] at hroom;rw[hPF,if_neg (by omega)]
      have HZ:Hid (∀ w5,Kb b wr w5->w5.cell? ⟨g+1+1,0,none⟩=some (.int .i64 0)/\w5.frozen? ⟨g+1+1,0,none⟩=false/\(w5.setCell ⟨g+1+1,0,none⟩ (.int .i64 201)).heap[D]?=some (.deferred (some [])) /\
        PostEG b (passF c o a d s) w (.returned (.int .i64 201)) ((w5.setCell ⟨g+1+1,0,none⟩ (.int .i64 201)).putObj D (.deferred none))/\((w5.setCell ⟨g+1+1,0,none⟩ (.int .i64 201)).putObj D (.deferred none)).cell? ⟨g+1+1,0,none⟩=some (.int .i64 201)):=fun w5 K5=>by
       obtain⟨h1',h2',-,-,-,-,h7',h8',h9',-⟩:=HT.out w5 (KR.trans K5);refine⟨h8',h9',(heap_setCell_other _ _ _ _ (by show D≠g+1+1;omega)).trans h2',?_⟩;rw[hfull];exact out_end (n:=201) (h1'.setNew (by show _<=g+1+1;have:=HG.out;omega) _) (by have:=HG.out;omega) (by omega) (by omega) (heap_setCell_same _ _ 0 _ _ _ h7') ⟨rfl,by decide⟩
      clear htk SR BR hkq hroom hPF KR hPo hfull HT;generalize qs[j]=xk at *;go_wp2_with (first|(go_at_call 63;refine HP.mono ?_;rintro e w5 ⟨K5,rfl⟩;obtain⟨v1,v2,v3,v4,v5⟩:=HZ.out w5 K5;clear HP HZ z0 y0 y1 y2 h8 h9 hqc));refine⟨by simp,.inl ⟨_,_,rfl,run_takeDeferred v3,?_⟩⟩;refine⟨.int .i64 201,?_,v4⟩;simp[results,Tryd.f39,go_sem,v5]
    ·have hjI:¬(j:Int)<(qs.length:Int):=by omega
     obtain rfl:j=qs.length:=by omega
     rw[List.take_length] at BR SR;have hok:passF c o a d s=.inr (tl++qs,opnE o tr):=by
      rw[hPF,if_pos (by have:=SR.len;simp only[List.length_append] at this;omega)]
     have c33:=(blk_cell BR 33).trans (stC_rd (tl++qs,tr));have f33:=blk_frz BR 33;simp only at c33;have HO:=opens_c o a d W.ol;have hrd:=SR.rd;simp only at hrd;rw[<-hrt] at hfo;have hwr:IntKind.i64.wrap ((tr:Int)+opnI o)=((opnE o tr:Nat):Int):=by
      rw[hfo,IntKind.wrap_i64]
      have:=opn_le (o:=o) (a:=a) (r:=tr) (by rw[hrt];exact hfit) hrd
      omega
     generalize opnI o=oi at *;generalize opnE o tr=nr at *;clear hrt hfo;have hbr:=BR.lt;have hgb:g+1+1<wr.heap.size:=lt_of_block H7.out;have HZ:Hid (∀ w5,Below wr.heap.size wr w5->w5.cell? ⟨b,33,none⟩=some (.int .i64 (tr:Nat))/\w5.frozen? ⟨b,33,none⟩=false /\
       (w5.cell? ⟨g,0,none⟩=some (.pointer (some ⟨b,0,none⟩))/\w5.cell? ⟨g+1,0,none⟩=some (.int .i64 (o:Nat))/\w5.cell? ⟨g+1,1,none⟩=some (.int .i64 (a:Nat))/\w5.cell? ⟨g+1,2,none⟩=some (.int .i64 (d:Nat))) /\
       ((w5.setCell ⟨b,33,none⟩ (.int .i64 (nr:Nat))).cell? ⟨g,0,none⟩=some (.pointer (some ⟨b,0,none⟩))/\(w5.setCell ⟨b,33,none⟩ (.int .i64 (nr:Nat))).cell? ⟨g+1,0,none⟩=some (.int .i64 (o:Nat))/\(w5.setCell ⟨b,33,none⟩ (.int .i64 (nr:Nat))).cell? ⟨g+1,1,none⟩=some (.int .i64 (a:Nat))/\(w5.setCell ⟨b,33,none⟩ (.int .i64 (nr:Nat))).cell? ⟨g+1,2,none⟩=some (.int .i64 (d:Nat))) /\
       (w5.setCell ⟨b,33,none⟩ (.int .i64 (nr:Nat))).cell? ⟨g+1+1,0,none⟩=some (.int .i64 0)/\(w5.setCell ⟨b,33,none⟩ (.int .i64 (nr:Nat))).frozen? ⟨g+1+1,0,none⟩=false /\
       ((w5.setCell ⟨b,33,none⟩ (.int .i64 (nr:Nat))).setCell ⟨g+1+1,0,none⟩ (.int .i64 0)).heap[D]?=some (.deferred (some [])) /\
       PostEG b (passF c o a d s) w (.returned (.int .i64 0)) (((w5.setCell ⟨b,33,none⟩ (.int .i64 (nr:Nat))).setCell ⟨g+1+1,0,none⟩ (.int .i64 0)).putObj D (.deferred none))/\(((w5.setCell ⟨b,33,none⟩ (.int .i64 (nr:Nat))).setCell ⟨g+1+1,0,none⟩ (.int .i64 0)).putObj D (.deferred none)).cell? ⟨g+1+1,0,none⟩=some (.int .i64 0)):=fun w5 B5=>by
      have b5:StB w5 b (tl++qs,tr):=(B5.block b hbr).trans BR;have K5:Kb b WdG w5:=KR.trans (Kb.ofBelowG B5);have K6:Kb b WdG (w5.setCell ⟨b,33,none⟩ (.int .i64 (nr:Nat))):=K5.set 33 _;obtain⟨i1,i2,i3,i4,i5,i6,i7,i8,i9,-⟩:=HT.out _ K5;obtain⟨l1,l2,l3,l4,l5,l6,l7,l8,l9,-⟩:=HT.out _ K6;have b6:StB (w5.setCell ⟨b,33,none⟩ (.int .i64 (nr:Nat))) b (tl++qs,nr):=by
       have:=blk_set (n:=33) b5 (.int .i64 (nr:Nat))
       rw[stC_rdset] at this;exact this
      have b7:StB ((w5.setCell ⟨b,33,none⟩ (.int .i64 (nr:Nat))).setCell ⟨g+1+1,0,none⟩ (.int .i64 0)) b (tl++qs,nr):=(heap_setCell_other _ _ _ _ (by show b≠g+1+1;omega)).trans b6;refine⟨(blk_cell b5 33).trans (stC_rd _),blk_frz b5 33,⟨i3,i4,i5,i6⟩,⟨l3,l4,l5,l6⟩,l8,l9,(heap_setCell_other _ _ _ _ (by show D≠g+1+1;omega)).trans l2,?_⟩;rw[hok];exact out_end (n:=0) (l1.setNew (by show _<=g+1+1;have:=HG.out;omega) _) (by have:=HG.out;omega) (by omega) (by omega) (heap_setCell_same _ _ 0 _ _ _ l7) ⟨rfl,b7⟩
     clear HT h10 hPo hPF BR SR KR hqp hqp2 hlt hj hok H2 H7 HK;go_upto_region 15 with fail
     -- BEHIND THE LOOPS
     refine wp_region_noPanic ?_;refine wp_region_held_drew (S:=(fun wx=>wx.cell? ⟨g,0,none⟩=some (.pointer (some ⟨b,0,none⟩))/\wx.cell? ⟨g+1,0,none⟩=some (.int .i64 (o:Nat))/\wx.cell? ⟨g+1,1,none⟩=some (.int .i64 (a:Nat))/\wx.cell? ⟨g+1,2,none⟩=some (.int .i64 (d:Nat)))) (by kernel_rfl) ⟨z0,y0,y1,y2⟩ (fun hHeld=>?_);refine wpAnyH_take (i:=0) (v:=?v1) rfl (by kernel_rfl) (by kernel_rfl) (by kernel_rfl) (fun _ _ _ h=>h) (Or.inl ⟨by rfl,?hy1⟩) (by assumption) ?rest1
     case hy1=>(intro w hSw;(try dsimp only at hSw);obtain⟨s1,s2,s3,s4⟩:=hSw;go_simp;all_goals (with_reducible rfl))
     simp only[Act.put,List.getElem_toArray,List.getElem_cons_zero,List.getElem_cons_succ,List.setIfInBounds_toArray,List.set_cons_zero,List.set_cons_succ];refine wpAnyH_take (i:=1) (v:=?v2) rfl (by kernel_rfl) (by kernel_rfl) (by kernel_rfl) (fun _ _ _ h=>h) (Or.inl ⟨by rfl,?hy2⟩) (by assumption) ?rest2
     case hy2=>(intro w hSw;(try dsimp only at hSw);go_simp;all_goals (with_reducible rfl))
     simp only[Act.put,List.getElem_toArray,List.getElem_cons_zero,List.getElem_cons_succ,List.setIfInBounds_toArray,List.set_cons_zero,List.set_cons_succ];refine wpAnyH_take (i:=2) (v:=?v3) rfl (by kernel_rfl) (by kernel_rfl) (by kernel_rfl) (fun _ _ _ h=>h) (Or.inl ⟨by rfl,?hy3⟩) (by assumption) ?rest3
     case hy3=>(intro w hSw;(try dsimp only at hSw);go_simp;all_goals (with_reducible rfl))
     simp only[Act.put,List.getElem_toArray,List.getElem_cons_zero,List.getElem_cons_succ,List.setIfInBounds_toArray,List.set_cons_zero,List.set_cons_succ];refine wpAnyH_take (i:=4) (v:=?v4) rfl (by kernel_rfl) (by kernel_rfl) (by kernel_rfl) (fun _ _ _ h=>h) (Or.inl ⟨by rfl,?hy4⟩) (by assumption) ?rest4
     case hy4=>(intro w hSw;(try dsimp only at hSw);obtain⟨s1,s2,s3,s4⟩:=hSw;go_simp;all_goals (with_reducible rfl))
     simp only[Act.put,List.getElem_toArray,List.getElem_cons_zero,List.getElem_cons_succ,List.setIfInBounds_toArray,List.set_cons_zero,List.set_cons_succ];refine wpAnyH_ready (rs:=[3,5]) (by kernel_rfl) (by simp) ?_;refine AllReadyH.cons rfl (fun K hK=>?_) (AllReadyH.cons rfl (fun K hK=>?_) AllReadyH.nil)
     ·skip
      go_simp
      refine hK.out _ _ hHeld (fun hHeld=>?_);clear hK K;refine wpAnyH_ready (rs:=[5]) (by kernel_rfl) (by simp) ?_;refine AllReadyH.cons rfl (fun K hK=>?_) AllReadyH.nil
      go_simp
      go_wp2_with (first|(go_at_call 64;refine(HO _).mono ?_;rintro e w5 ⟨rfl,B5⟩;obtain⟨v1,v2,v3,v4,v5,v6,v7,v8,v9⟩:=HZ.out w5 (by first|exact((Below.refl _ wr).drew).trans B5|exact B5)));refine hK.out _ _ v3 (fun hHeld=>?_);clear hK K;refine wpAnyH_take (i:=6) (v:=?v5) rfl (by kernel_rfl) (by kernel_rfl) (by kernel_rfl) (fun _ _ _ h=>h) (Or.inl ⟨by rfl,?hy5⟩) (by assumption) ?rest5
      case hy5=>(intro w hSw;(try dsimp only at hSw);go_simp;all_goals (with_reducible rfl))
      simp only[Act.put,List.getElem_toArray,List.getElem_cons_zero,List.getElem_cons_succ,List.setIfInBounds_toArray,List.set_cons_zero,List.set_cons_succ];refine wpAnyH_take (i:=7) (v:=?v6) rfl (by kernel_rfl) (by kernel_rfl) (by kernel_rfl) (fun _ _ _ h=>h) (Or.inl ⟨by rfl,?hy6⟩) (by assumption) ?rest6
      case hy6=>(intro w hSw;(try dsimp only at hSw);go_simp;all_goals (with_reducible rfl))
      simp only[Act.put,List.getElem_toArray,List.getElem_cons_zero,List.getElem_cons_succ,List.setIfInBounds_toArray,List.set_cons_zero,List.set_cons_succ];refine wpAnyH_take (i:=8) (v:=?v7) rfl (by kernel_rfl) (by kernel_rfl) (by kernel_rfl) (fun _ _ _ h=>h) (Or.inl ⟨by rfl,?hy7⟩) (by assumption) ?rest7
      case hy7=>(intro w hSw;(try dsimp only at hSw);go_simp;all_goals (with_reducible rfl))
      simp only[Act.put,List.getElem_toArray,List.getElem_cons_zero,List.getElem_cons_succ,List.setIfInBounds_toArray,List.set_cons_zero,List.set_cons_succ];refine wpAnyH_ready (rs:=[9]) (by kernel_rfl) (by simp) ?_;refine AllReadyH.cons rfl (fun K hK=>?_) AllReadyH.nil
      go_simp
      refine hK.out _ _ v4 (fun hHeld=>?_);clear hK K;refine wpAnyH_done (by kernel_rfl) ?_ _;refine NoPanic.normal ?_;go_wp2;refine⟨by simp,.inl ⟨_,_,rfl,run_takeDeferred v7,?_⟩⟩;refine⟨.int .i64 0,?_,v8⟩;simp[results,Tryd.f39,go_sem,v9]
     ·skip
      go_simp
      go_wp2_with (first|(go_at_call 64;refine(HO _).mono ?_;rintro e w5 ⟨rfl,B5⟩;obtain⟨v1,v2,v3,v4,v5,v6,v7,v8,v9⟩:=HZ.out w5 (by first|exact((Below.refl _ wr).drew).trans B5|exact B5)));refine hK.out _ _ v3 (fun hHeld=>?_);clear hK K;refine wpAnyH_ready (rs:=[3]) (by kernel_rfl) (by simp) ?_;refine AllReadyH.cons rfl (fun K hK=>?_) AllReadyH.nil
      go_simp
      refine hK.out _ _ hHeld (fun hHeld=>?_);clear hK K;refine wpAnyH_take (i:=6) (v:=?v8) rfl (by kernel_rfl) (by kernel_rfl) (by kernel_rfl) (fun _ _ _ h=>h) (Or.inl ⟨by rfl,?hy8⟩) (by assumption) ?rest8
      case hy8=>(intro w hSw;(try dsimp only at hSw);go_simp;all_goals (with_reducible rfl))
      simp only[Act.put,List.getElem_toArray,List.getElem_cons_zero,List.getElem_cons_succ,List.setIfInBounds_toArray,List.set_cons_zero,List.set_cons_succ];refine wpAnyH_take (i:=7) (v:=?v9) rfl (by kernel_rfl) (by kernel_rfl) (by kernel_rfl) (fun _ _ _ h=>h) (Or.inl ⟨by rfl,?hy9⟩) (by assumption) ?rest9
      case hy9=>(intro w hSw;(try dsimp only at hSw);go_simp;all_goals (with_reducible rfl))
      simp only[Act.put,List.getElem_toArray,List.getElem_cons_zero,List.getElem_cons_succ,List.setIfInBounds_toArray,List.set_cons_zero,List.set_cons_succ];refine wpAnyH_take (i:=8) (v:=?v10) rfl (by kernel_rfl) (by kernel_rfl) (by kernel_rfl) (fun _ _ _ h=>h) (Or.inl ⟨by rfl,?hy10⟩) (by assumption) ?rest10
      case hy10=>(intro w hSw;(try dsimp only at hSw);go_simp;all_goals (with_reducible rfl))
      simp only[Act.put,List.getElem_toArray,List.getElem_cons_zero,List.getElem_cons_succ,List.setIfInBounds_toArray,List.set_cons_zero,List.set_cons_succ];refine wpAnyH_ready (rs:=[9]) (by kernel_rfl) (by simp) ?_;refine AllReadyH.cons rfl (fun K hK=>?_) AllReadyH.nil
      go_simp
      refine hK.out _ _ v4 (fun hHeld=>?_);clear hK K;refine wpAnyH_done (by kernel_rfl) ?_ _;refine NoPanic.normal ?_;go_wp2;refine⟨by simp,.inl ⟨_,_,rfl,run_takeDeferred v7,?_⟩⟩;refine⟨.int .i64 0,?_,v8⟩;simp[results,Tryd.f39,go_sem,v9]
  case stop =>
   rintro D cd pre WdG hD ⟨rest,hrest⟩ ⟨rfl,n,hn,htk,hK2,hcell⟩ hKD;have hall:takesF o (effE c o a d).1.reverse s=.inl n:=by
    have e:(effE c o a d).1.reverse=pre.map (·.1.2)++rest.map (·.1.2):=by
     rw[<-List.map_append,<-hrest,List.map_reverse,kdL_map]
    rw[e,takes_app,htk]
   rw[hall] at hPF
   dsimp only at hPF
   have hgw:=HG.out;have KW:Kb b w w4:=K1.trans (Kb.ofBelowG BB4);have KD:Kb b w WdG:=⟨hK2.os.trans KW.os,hK2.tape.trans KW.tape,hK2.output.trans KW.output,Nat.le_trans KW.size hK2.size,fun k hk h=>(hK2.block k (by have:=KW.size;omega) h (by omega)).trans (KW.block k hk h)⟩
   have hDl:=lt_of_block hKD;obtain⟨v1,v2⟩:=out_end (r:=passF c o a d s) (n:=n) (q:=g+1+1) (D:=D) KD (by omega) (by omega) (by omega) hcell (by rw[hPF];exact⟨rfl,hn⟩);clear hPF HM E2
   gi_wp2
   refine⟨by simp,.inl ⟨_,_,rfl,run_takeDeferred hKD,?_⟩⟩;refine⟨.int .i64 (n:Nat),?_,v1⟩;simp[results,Tryd.f39,go_sem,v2]
end Go.Proofs.YtejnhibajmncaaaDoor

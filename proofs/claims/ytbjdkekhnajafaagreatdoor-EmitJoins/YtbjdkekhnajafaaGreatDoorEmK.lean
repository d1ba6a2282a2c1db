import Derived.Test.YtbjdkekhnajafaaGreatDoorEmA
set_option maxRecDepth 100000
set_option maxHeartbeats 8000000
namespace Go.Proofs.YtbjdkekhnajafaaGreatDoor
open Go.ChangeShapes Go.WideShapes Go.ChangeAt Go.RowKit
set_option linter.unusedVariables false
set_option linter.unusedSimpArgs false
structure Grw (s s':Em)(n:Nat):Prop where
 mes:s'.mes<=s.mes+n
 ws:s.ws.length<=s'.ws.length
 ks:s'.ks.length=s.ks.length
 dp:s.dp<=1000000001->s'.dp<=1000000001
theorem Grw.trans {a b c:Em}{n m:Nat}(h:Grw a b n)(k:Grw b c m):Grw a c (n+m):=⟨by have:=h.mes;have:=k.mes;omega,Nat.le_trans h.ws k.ws,k.ks.trans h.ks,fun x=>k.dp (h.dp x)⟩
theorem Grw.le {a b:Em}{n m:Nat}(h:Grw a b n)(hm:n<=m):Grw a b m:=⟨by have:=h.mes;omega,h.ws,h.ks,h.dp⟩
theorem gr_lay (s:Em)(op a b:Nat):Grw s (s.lay op a b) 1:=⟨by rw[Em.mes_lay];omega,by simp[Em.lay],rfl,id⟩
theorem gr_land (s:Em)(i:Nat):Grw s (s.land i) 0:=⟨by rw[Em.mes_land];omega,by simp[Em.land],rfl,id⟩
theorem gr_cel (s:Em)(i:Nat)(k:Int):Grw s (s.cel i k) 0:=⟨Nat.le_refl _,Nat.le_refl _,by simp[Em.cel],id⟩
theorem gr_con (s:Em)(n:Int)(kd u:Nat)(hu:u<=1000000000):Grw s (s.con n kd u) 2:=⟨s.mes_con n kd u,by simp[Em.con,Em.push,Em.kc],rfl,fun h=>by show max s.dp (u+1)<=_;omega⟩
def PosQ (w:World)(o:Nat->Nat)(rb:Nat)(lv:Value)(s s':Em)(n:Nat)(e:Ending)(w':World):Prop:=e=.returned (.tuple #[])/\(∃o',EmW w' o' rb lv s'/\Step I17 w o w' o')/\Grw s s' n
theorem to_ok {x:Wo}{n:Nat}(h:x.ok)(hn:n<=268435455):(x.to n).ok:=by
 obtain⟨h1,h2,h3⟩:=h;unfold Wo.to;split
 ·exact⟨h1,h2,hn⟩
 ·exact⟨h1,hn,h3⟩
theorem modify_at {l:List Wo}{i:Nat}(h:i<l.length)(f:Wo->Wo):l.modify i f=l.set i (f (l[i])):=by
 apply List.ext_getElem?;intro j;rw[List.getElem?_modify,List.getElem?_set];by_cases e:i=j
 ·subst e;simp[h]
 ·simp[e]
theorem land_d (i:Nat)(u:FrameMode)(w:World)(o:Nat->Nat)(rb:Nat)(lv:Value)(ls:List Int)(s:Em)(hi:i<s.ws.length)(hm:s.mes<=100000000)(X:EmX w o lv ls)(h:EmW w o rb lv s) :
  CallsD Tryz.prog 150 #[.pointer (some ⟨rb,0,none⟩),.int .i64 (i:Nat)] u w fun e u' w'=>u'=u/\PosE w o rb lv (s.land i) (.tuple #[]) e w':=by
 have h':=h;obtain⟨h1,h2,h3,vw,vc,vn,vk,mc,mn,q0,q1,q2,q3,q4,q5,q6⟩:=h;obtain⟨⟨c0,c1,c2,c3,c4,c5,c6,c7⟩,cf⟩:=cells8 q0.1;obtain⟨g,cap,rfl,og,-,-,hgl,hc,hf⟩:=q1.pos (by omega);have hx:=h1 s.ws[i] (List.getElem_mem hi);have ci:w.cell? ⟨g,i,none⟩=some (.int .u64 (encW s.ws[i])):=by
  rw[hc i (by omega)];simp[woV,hi]
 have bd:=encW_bd hx;have pt:=encW_parts hx;have HP:=parts_any (encW s.ws[i]) w X.tab bd.1 bd.2;rw[pt.1,pt.2.1,pt.2.2] at HP;have hl:s.ws.length<=100000000:=by unfold Em.mes at hm;omega
 have ho:=to_ok hx (n:=s.ws.length) (by omega);have HS:Hid (∀ w',Below w.heap.size w w'->EmW (w'.setCell ⟨g,i,none⟩ (.int .u64 (encW (s.ws[i].to s.ws.length)))).drew o rb lv (s.land i)/\Step I17 w o (w'.setCell ⟨g,i,none⟩ (.int .u64 (encW (s.ws[i].to s.ws.length)))).drew o):=fun w' B=>by
  have x0:=Step.ofBelow (I:=fun _=>False) o B;have r1:=((q1.step x0 id).store i (.int .u64 (encW (s.ws[i].to s.ws.length)))).step ((Step.refl (fun _=>False) _ o).drew) id;have x1:Step (fun k=>k=2) w o (w'.setCell ⟨g,i,none⟩ (.int .u64 (encW (s.ws[i].to s.ws.length)))).drew o:=((Step.ofBelow o B).setCell ⟨g,i,none⟩ _ og).drew;have e:(s.land i).ws=s.ws.set i (s.ws[i].to s.ws.length):=modify_at hi _;refine⟨⟨fun x hx2=>?_,h2,h3,_,vc,vn,vk,mc,mn,q0.step x1 (by decide),?_,q2.step x1 (by decide),q3.step x1 (by decide),q4.step x1 (by decide),q5.step x1 (by decide),q6.step x1 (by decide)⟩,x1.mono (I17_of (by decide))⟩
  ·rw[e] at hx2;rcases List.mem_or_eq_of_mem_set hx2 with hx2|hx2
   ·exact h1 x hx2
   ·rw[hx2];exact ho
  ·have e2:woV (s.land i).ws=(woV s.ws).set i (.int .u64 (encW (s.ws[i].to s.ws.length))):=by rw[e];simp[woV]
   have e3:(s.land i).ws.length=s.ws.length:=by rw[e];simp
   rw[e2,e3];exact r1
 have HW:∀ (a b:Nat) (wx:World),Tab wx->a<=268435455->b<=268435455->Calls Tryz.prog 98 #[.int .i64 (s.ws[i].op:Nat),.int .i64 (a:Nat),.int .i64 (b:Nat)] wx fun e w'=>e=.returned (.tuple #[.int .u64 (encW ⟨s.ws[i].op,a,b⟩),.int .i64 0])/\w'=wx:=fun a b wx T ha hb=>word_yes (s.ws[i].op:Int) (a:Int) (b:Int) wx T (by omega) (by have:=hx.1;omega) (by omega) (by omega) (by omega) (by omega);have HN:∀ w',Below w.heap.size w w'->Calls Tryz.prog 223 #[.pointer (some ⟨rb,0,none⟩)] w' fun e w''=>e=.returned (.int .i64 (s.ws.length:Nat))/\w''=w':=fun w' B=>next_c w' o rb lv s (h'.below B);have hiI:(i:Int)<(s.ws.length:Int):=by omega
 have hfx:Hid (∀ w',Below w.heap.size w w'->w'.cell? ⟨rb,0,none⟩=some (.slice (some ⟨g,0,none⟩) s.ws.length cap)/\w'.cell? ⟨g,i,none⟩=some (.int .u64 (encW s.ws[i]))/\w'.frozen? ⟨g,i,none⟩=false/\Tab w'):=fun w' B=>by
  refine⟨(B.cell (p:=⟨rb,0,none⟩) q0.lt).trans c0,(B.cell (p:=⟨g,i,none⟩) hgl).trans ci,?_,(X.below B).tab⟩;have e:=B.block g hgl
  have:=hf i
  unfold World.frozen? at this ⊢;rw[e];exact this
 have htn:∀ x:Wo,x.to s.ws.length=if x.op=17 then ⟨x.op,x.a,s.ws.length⟩ else ⟨x.op,s.ws.length,x.b⟩:=fun x=>rfl;rw[htn] at HS;clear htn ho X q0 q1 q2 q3 q4 q5 q6 h' c1 c2 c3 c4 c5 c6 c7 cf hc hf pt bd h1 h2 h3 hm;obtain⟨hx1,hx2,hx3⟩:=hx;generalize hxx:s.ws[i]=x at *;clear hxx;obtain⟨op,a,b⟩:=x;simp only at HP HW HS hx1 hx2 hx3
 go_enter_d Tryz.func150,Tryz.ntmps150
 go_upto_region 1 with (first|(go_at_call 169;refine HP.mono ?_;rintro e w1 ⟨rfl,B1⟩))
 have HN1:=HN w1 B1;obtain⟨d0,d1,d2,d3⟩:=hfx.out w1 B1;obtain⟨e0,e1,e2,e3⟩:=hfx.out w1.drew B1.drew;by_cases hop:op=17
 ·subst hop;rw[if_pos rfl] at HS;have HZ:=Lib.hid (HS.out w1 B1);have HW1:=HW a s.ws.length w1.drew e3 hx2 (by omega);generalize encW ⟨17,a,s.ws.length⟩=ev at *;clear HS HP HN hfx HW;go_upto_region 4 with (first|(go_at_call 223;refine HN1.mono ?_;rintro e w2 ⟨rfl,hww⟩;subst hww))
  go_region_with (first|(go_at_call 98;refine HW1.mono ?_;rintro e w3 ⟨rfl,hww⟩;subst hww))
  all_goals
   go_end0
   exact⟨rfl,o,HZ.out⟩
 ·rw[if_neg hop] at HS;have HZ:=Lib.hid (HS.out w1 B1);have HW1:=HW s.ws.length b w1.drew e3 (by omega) hx3;have hopI:¬(op:Int)=17:=by omega
  generalize encW ⟨op,s.ws.length,b⟩=ev at *;clear HS HP HN hfx HW hop;go_upto_region 4 with (first|(go_at_call 223;refine HN1.mono ?_;rintro e w2 ⟨rfl,hww⟩;subst hww))
  go_region_with (first|(go_at_call 98;refine HW1.mono ?_;rintro e w3 ⟨rfl,hww⟩;subst hww))
  all_goals
   go_end0
   exact⟨rfl,o,HZ.out⟩
def Does (rb:Nat)(lv:Value)(ls:List Int)(K:World->(Nat->Nat)->Prop)(F:FuncId)(c:Array Value)(t:Em->Em)(n:Nat):Prop :=
 ∀ w o s,EmX w o lv ls->EmW w o rb lv s->K w o->s.mes+n<=100000000->s.dp<=1000000001->s.ks.length=ls.length->Calls Tryz.prog F c w (PosQ w o rb lv s (t s) n)
abbrev Keeps (K:World->(Nat->Nat)->Prop):Prop:=∀ {w o w' o'},K w o->Step I17 w o w' o'->K w' o'
abbrev Ent (F:FuncId):Prop:=∀ (args:Array Value) (w:World),(callFunc F args).run Tryz.prog w=.ok (.enter F args) w
theorem firstWay_c (op:Nat)(F:FuncId)(c:Array Value)(t:Em->Em)(n:Nat)(K:World->(Nat->Nat)->Prop)(hK:Keeps K)(HE:Ent F)(w:World)(o:Nat->Nat)(rb:Nat)(lv:Value)(ls:List Int)(H:Does rb lv ls K F c t n)(s:Em)(hop:op<=255)(hm:s.mes+n+2<=100000000)(hd:s.dp<=1000000001)(hks:s.ks.length=ls.length)(X:EmX w o lv ls)(h:EmW w o rb lv s)(k:K w o) :
  Calls Tryz.prog 151 #[.pointer (some ⟨rb,0,none⟩),.int .i64 (op:Nat),.func (.func F) #[] c] w fun e w'=>e=.returned (.int .i64 ((t (s.lay op 0 0)).ws.length:Nat))/\(∃o',EmW w' o' rb lv (((t (s.lay op 0 0)).lay 13 0 0).land s.ws.length)/\Step I17 w o w' o')/\Grw s (((t (s.lay op 0 0)).lay 13 0 0).land s.ws.length) (n+2)/\Grw (s.lay op 0 0) (t (s.lay op 0 0)) n:=by
 have HL:=lay_c op 0 0 w o rb lv ls s hop (by omega) (by omega) (by omega) X h;have g1:=gr_lay s op 0 0
 go_enter_defers Tryz.func151,Tryz.ntmps151
 go_upto_region 2 with (first|(go_at_call 47;refine HL.mono ?_;rintro e w1 ⟨rfl,o1,E1,S1⟩))
 have X1:=X.step S1 (by decide);have HC:=H w1 o1 (s.lay op 0 0) X1 E1 (hK k S1) (by have:=g1.mes;omega) (g1.dp hd) (g1.ks.trans hks);clear HL;go_wp2_with fail;refine HC.mono ?_;rintro e w2 ⟨rfl,⟨o2,E2,S2⟩,g2⟩;have hw1:(s.lay op 0 0).ws.length=s.ws.length+1:=by simp[Em.lay]
 have g3:=gr_lay (t (s.lay op 0 0)) 13 0 0;have X2:=X1.step S2 (by decide);have HL2:=lay_c 13 0 0 w2 o2 rb lv ls (t (s.lay op 0 0)) (by omega) (by omega) (by omega) (by have:=g1.mes;have:=g2.mes;omega) X2 E2;clear HC HE;obtain⟨s2,hs2⟩:∃s2,s2=t (s.lay op 0 0):=⟨_,rfl⟩
 rw[<-hs2] at E2 g2 g3 HL2;have HS2:=Lib.hid hs2;clear hs2;go_wp2_with fail;refine HL2.mono ?_;rintro e w3 ⟨rfl,o3,E3,S3⟩;have X3:=X2.step S3 (by decide);have hlt:s.ws.length<(s2.lay 13 0 0).ws.length:=by have:=g2.ws;have:=g3.ws;omega
 have HD:=land_d s.ws.length .returning w3 o3 rb lv ls (s2.lay 13 0 0) hlt (by have:=g1.mes;have:=g2.mes;have:=g3.mes;omega) X3 E3;have HF:Hid (∀ w4 o4,EmW w4 o4 rb lv ((s2.lay 13 0 0).land s.ws.length)->Step I17 w3 o3 w4 o4->(∃o',EmW w4 o' rb lv ((s2.lay 13 0 0).land s.ws.length)/\Step I17 w o w4 o')/\Grw s ((s2.lay 13 0 0).land s.ws.length) (n+2)/\Grw (s.lay op 0 0) s2 n):=fun w4 o4 E4 S4 =>
  ⟨⟨o4,E4,((S1.trans S2).trans S3).trans S4⟩,(((g1.trans g2).trans g3).trans (gr_land _ _)).le (by omega),g2⟩
 clear HL2;go_wp2;refine leaves_cons (f:=150) (args:=#[.pointer (some ⟨rb,0,none⟩),.int .i64 (s.ws.length:Nat)]) (by simp) (by simp[go_sem]) ?_;refine HD.mono ?_;rintro e u' w4 ⟨rfl,rfl,o4,E4,S4⟩;exact⟨_,results_tmp rfl _ _ _,by rw[<-HS2.out];rfl,by rw[<-HS2.out];exact HF.out w4 o4 E4 S4⟩
theorem fork_c (op:Nat)(F1 F2:FuncId)(c1 c2:Array Value)(t1 t2:Em->Em)(n1 n2:Nat)(K:World->(Nat->Nat)->Prop)(hK:Keeps K)(HE1:Ent F1)(HE2:Ent F2)(w:World)(o:Nat->Nat)(rb:Nat)(lv:Value)(ls:List Int)(H1:Does rb lv ls K F1 c1 t1 n1)(H2:Does rb lv ls K F2 c2 t2 n2)(s:Em)(hop:op<=255)(hm:s.mes+(n1+n2+2)<=100000000)(hd:s.dp<=1000000001)(hks:s.ks.length=ls.length)(X:EmX w o lv ls)(h:EmW w o rb lv s)(k:K w o) :
  Calls Tryz.prog 91 #[.pointer (some ⟨rb,0,none⟩),.int .i64 (op:Nat),.func (.func F1) #[] c1,.func (.func F2) #[] c2] w (PosQ w o rb lv s (s.fork op t1 t2) (n1+n2+2)):=by
 have HW:=firstWay_c op F1 c1 t1 n1 K hK HE1 w o rb lv ls H1 s hop (by omega) hd hks X h k;have hfk:Hid (s.fork op t1 t2=(t2 (((t1 (s.lay op 0 0)).lay 13 0 0).land s.ws.length)).land (t1 (s.lay op 0 0)).ws.length):=rfl;have hw1:(s.lay op 0 0).ws.length=s.ws.length+1:=by simp[Em.lay]
 have hw2:((((t1 (s.lay op 0 0)).lay 13 0 0).land s.ws.length)).ws.length=(t1 (s.lay op 0 0)).ws.length+1:=by simp[Em.lay,Em.land]
 go_enter_defers Tryz.func91,Tryz.ntmps91
 go_upto_region 1 with (first|(go_at_call 151;refine HW.mono ?_;rintro e w1 ⟨rfl,⟨o1,E1,S1⟩,g1,g1b⟩))
 clear HW;generalize ((t1 (s.lay op 0 0)).lay 13 0 0).land s.ws.length=s1 at *;generalize (t1 (s.lay op 0 0)).ws.length=j at *;have X1:=X.step S1 (by decide);have HC:=H2 w1 o1 s1 X1 E1 (hK k S1) (by have:=g1.mes;omega) (g1.dp hd) (g1.ks.trans hks);go_wp2_with fail;refine HC.mono ?_;rintro e w2 ⟨rfl,⟨o2,E2,S2⟩,g2⟩;have X2:=X1.step S2 (by decide);clear HC HE2;generalize t2 s1=s2 at *;have HD:=land_d j .returning w2 o2 rb lv ls s2 (by have:=g2.ws;omega) (by have:=g1.mes;have:=g2.mes;omega) X2 E2;have HF:Hid (∀ w4 o4,EmW w4 o4 rb lv (s2.land j)->Step I17 w2 o2 w4 o4->(∃o',EmW w4 o' rb lv (s.fork op t1 t2)/\Step I17 w o w4 o')/\Grw s (s.fork op t1 t2) (n1+n2+2)):=fun w4 o4 E4 S4=>by
  rw[hfk.out];exact⟨⟨o4,E4,(S1.trans S2).trans S4⟩,((g1.trans g2).trans (gr_land _ _)).le (by omega)⟩
 go_wp2;refine leaves_cons (f:=150) (args:=#[.pointer (some ⟨rb,0,none⟩),.int .i64 (j:Nat)]) (by simp) (by simp[go_sem]) ?_;refine HD.mono ?_;rintro e u' w4 ⟨rfl,rfl,o4,E4,S4⟩;exact⟨_,results_none rfl _ _ _,rfl,HF.out w4 o4 E4 S4⟩
theorem callKind_c (n:Int)(w:World):Calls Tryz.prog 146 #[.int .i64 n] w fun e w'=>e=.returned (.int .i64 (cakN n))/\w'=w:=by
 by_cases h1:n=1
 ·subst h1;go_enter Tryz.func146,Tryz.ntmps146;go_wp2;go_ret;exact⟨rfl,rfl⟩
 ·by_cases h2:n=2
  ·subst h2;go_enter Tryz.func146,Tryz.ntmps146;go_wp2;go_ret;exact⟨rfl,rfl⟩
  ·by_cases h3:n=10
   ·subst h3;go_enter Tryz.func146,Tryz.ntmps146;go_wp2;go_ret;exact⟨rfl,rfl⟩
   ·have e:cakN n=1:=by simp[cakN,h1,h2,h3]
    rw[e];go_enter Tryz.func146,Tryz.ntmps146;go_wp2;go_ret;exact⟨rfl,rfl⟩
theorem quantKind_c (n:Int)(w:World):Calls Tryz.prog 147 #[.int .i64 n] w fun e w'=>e=.returned (.int .i64 (qukN n))/\w'=w:=by
 by_cases h1:n=1
 ·subst h1;go_enter Tryz.func147,Tryz.ntmps147;go_wp2;go_ret;exact⟨rfl,rfl⟩
 ·by_cases h2:n=2
  ·subst h2;go_enter Tryz.func147,Tryz.ntmps147;go_wp2;go_ret;exact⟨rfl,rfl⟩
  ·have e:qukN n=1:=by simp[qukN,h1,h2]
   rw[e];go_enter Tryz.func147,Tryz.ntmps147;go_wp2;go_ret;exact⟨rfl,rfl⟩
theorem len_one {f:Fs}(h:f.len=1):∃x,f=Fs.ex x .nil:=by
 cases f using Fs.on with
 | nil=>simp[Fs.len] at h
 | cons k n nm a ks r =>
  cases r using Fs.on with
  | nil=>exact⟨⟨k,n,nm,a,ks⟩,rfl⟩
  | cons=>simp[Fs.len] at h
theorem len_two {f:Fs}(h:f.len=2):∃x y,f=Fs.ex x (Fs.ex y .nil):=by
 cases f using Fs.on with
 | nil=>simp[Fs.len] at h
 | cons k n nm a ks r =>
  obtain⟨y,rfl⟩:=len_one (f:=r) (by simp[Fs.len] at h;exact h);exact⟨⟨k,n,nm,a,ks⟩,y,rfl⟩
theorem len_three {f:Fs}(h:f.len=3):∃x y z,f=Fs.ex x (Fs.ex y (Fs.ex z .nil)):=by
 cases f using Fs.on with
 | nil=>simp[Fs.len] at h
 | cons k n nm a ks r =>
  obtain⟨y,z,rfl⟩:=len_two (f:=r) (by simp[Fs.len] at h;exact h);exact⟨⟨k,n,nm,a,ks⟩,y,z,rfl⟩
theorem doc_len {k n:Int}{nm:List UInt8}{len:Nat}(h:docF k n nm len=true):(k=19->len=3)/\(k=26->len=1)/\(8<=k->k<=18->len=2)/\(k=21->len=2/\1<=n/\n<=6)/\(k=20->1<=n/\n<=10)/\(k=5\/k=3->0<=n)/\(k=22\/k=23->len=0)/\(k=1\/k=2\/k=3\/k=5->len=0):=by
 unfold docF at h;refine⟨fun e=>?_,fun e=>?_,fun e1 e2=>?_,fun e=>?_,fun e=>?_,fun e=>?_,fun e=>?_,fun e=>?_⟩
 ·subst e;simp at h;omega
 ·subst e;simp at h;omega
 ·rw[if_neg (by omega),if_neg (by omega),if_neg (by omega),if_neg (by omega),if_pos (by omega)] at h;simp at h;omega
 ·subst e;simp at h;omega
 ·subst e;simp at h;omega
 ·rcases e with rfl|rfl<;>simp at h<;>omega
 ·rcases e with rfl|rfl<;>simp at h<;>omega
 ·rcases e with rfl|rfl|rfl|rfl<;>simp at h<;>omega
theorem ekid0 {P:Nat->Prop}{w:World}{y:Ex}{r:Fs}{ao:Option Addr}(h:SlN w P (Fs.ex y r) ao):∃b off ak ck,ao=some ⟨b,off,none⟩/\w.cell? ⟨b,off,none⟩=some (.int .i64 y.k)/\w.cell? ⟨b,off+1,none⟩=some (.int .i64 y.n)/\w.cell? ⟨b,off+2,none⟩=some (stv y.nm)/\w.cell? ⟨b,off+3,none⟩=some (.slice ak y.kids.len ck)/\SlN w P y.kids ak:=by
 obtain⟨b,off,ak,ck,h1,h2,h3,h4,h5,h6⟩:=SlN.kidP (x:=.nil) (r:=r) (y:=y) h 0 rfl;exact⟨b,off,ak,ck,h1,h2,h3,h4,h5,h6⟩
theorem ekid1 {P:Nat->Prop}{w:World}{x y:Ex}{r:Fs}{ao:Option Addr}(h:SlN w P (Fs.ex x (Fs.ex y r)) ao):∃b off ak ck,ao=some ⟨b,off,none⟩/\w.cell? ⟨b,off+4,none⟩=some (.int .i64 y.k)/\w.cell? ⟨b,off+5,none⟩=some (.int .i64 y.n)/\w.cell? ⟨b,off+6,none⟩=some (stv y.nm)/\w.cell? ⟨b,off+7,none⟩=some (.slice ak y.kids.len ck)/\SlN w P y.kids ak:=by
 obtain⟨b,off,ak,ck,h1,h2,h3,h4,h5,h6⟩:=SlN.kidP (x:=one x) (r:=r) (y:=y) h 1 rfl;exact⟨b,off,ak,ck,h1,h2,h3,h4,h5,h6⟩
theorem cells4e {w:World}{b:Nat}{x0 x1 x2 x3:Value}{t:TypeId}(h:w.heap[b]?=some (.cells #[x0,x1,x2,x3] t)):(w.cell? ⟨b,0,none⟩=some x0/\w.cell? ⟨b,1,none⟩=some x1/\w.cell? ⟨b,2,none⟩=some x2/\w.cell? ⟨b,3,none⟩=some x3)/\∀ j,w.frozen? ⟨b,j,none⟩=false:=by
 refine⟨⟨?_,?_,?_,?_⟩,fun j=>?_⟩<;>simp[World.cell?,World.frozen?,h]
theorem okF_ex {nc:Nat}{x:Ex}{r:Fs}(h:okF nc (Fs.ex x r)):okE nc x/\okF nc r:=⟨⟨h.1,h.2.1⟩,h.2.2⟩
theorem esize_ex (x:Ex)(r:Fs):(Fs.ex x r).size=x.kids.size+r.size+1:=rfl
theorem kdF_ex (x:Ex)(r:Fs):kdF (Fs.ex x r)=kdE x::kdF r:=rfl
theorem kindOf_c (nc N:Nat):∀ (e:Ex) (ao:Option Addr) (cap:Nat) (w:World),e.kids.size<N->okE nc e->SnA w e.kids ao ->
  Calls Tryz.prog 87 #[exN e ao cap] w fun r w'=>r=.returned (.int .i64 (kdE e))/\Below w.heap.size w w':=by
 induction N with
 | zero=>intro e ao cap w hs;omega
 | succ N ih =>
  intro e ao cap w hs ho S;obtain⟨k,n,nm,a,ks⟩:=e;obtain⟨⟨hd,-,-⟩,hk⟩:=ho;simp only at hs hd hk S;rw[exN_out];simp only;have hdl:=doc_len hd;by_cases h19:k=19
  ·subst h19;have hlen:ks.len=3:=hdl.1 rfl;rw[hlen];obtain⟨x,y,z,hks⟩:=len_three hlen;have S':=S;rw[hks] at S' hk hs;obtain⟨w1,hw1⟩:∃w1,w1=w.alloc (.cells #[.int .i64 19,.int .i64 n,stv nm,.slice ao 3 cap] 34):=⟨_,rfl⟩
   obtain⟨g,hg⟩:∃g,g=w.heap.size:=⟨_,rfl⟩
   have B1:Below w.heap.size w w1:=by rw[hw1];exact b1 _ _
   have C1:w1.heap[g]?=some (.cells #[.int .i64 19,.int .i64 n,stv nm,.slice ao 3 cap] 34):=by rw[hw1,hg];exact heap_alloc_new _ _
   obtain⟨⟨c0,c1,c2,c3⟩,-⟩:=cells4e C1;have HG:=Lib.hid hg;have HB:=Lib.hid B1;obtain⟨b,off,ak,ck,rfl,x0,x1,x2,x3,Sy⟩:=ekid1 (S'.below B1);have hv:kdE ⟨19,n,nm,a,ks⟩=kdE y:=by simp only[kdE,hks,kdF_ex];simp[kdN]
   rw[hv];have HC:=ih y ak ck w1 (by simp only[esize_ex] at hs;omega) (okF_ex (okF_ex hk).2).1 Sy;rw[exN_out] at HC;clear B1 S S' hks hk hs hg C1 hv hdl hd;go_enter Tryz.func87,Tryz.ntmps87;go_upto_region 1 with fail;rw[<-hw1,<-HG.out];clear hw1;go_wp2_with fail;refine HC.mono ?_;rintro r w2 ⟨rfl,B2⟩;go_wp2;go_ret;exact⟨rfl,HB.out.trans (B2.mono HB.out.size)⟩
  by_cases h26:k=26
  ·subst h26;have hlen:ks.len=1:=hdl.2.1 rfl;rw[hlen];obtain⟨x,hks⟩:=len_one hlen;have S':=S;rw[hks] at S' hk hs;obtain⟨w1,hw1⟩:∃w1,w1=w.alloc (.cells #[.int .i64 26,.int .i64 n,stv nm,.slice ao 1 cap] 34):=⟨_,rfl⟩
   obtain⟨g,hg⟩:∃g,g=w.heap.size:=⟨_,rfl⟩
   have B1:Below w.heap.size w w1:=by rw[hw1];exact b1 _ _
   have C1:w1.heap[g]?=some (.cells #[.int .i64 26,.int .i64 n,stv nm,.slice ao 1 cap] 34):=by rw[hw1,hg];exact heap_alloc_new _ _
   obtain⟨⟨c0,c1,c2,c3⟩,-⟩:=cells4e C1;have HG:=Lib.hid hg;have HB:=Lib.hid B1;obtain⟨b,off,ak,ck,rfl,x0,x1,x2,x3,Sy⟩:=ekid0 (S'.below B1);have hv:kdE ⟨26,n,nm,a,ks⟩=kdE x:=by simp only[kdE,hks,kdF_ex];simp[kdN]
   rw[hv];have HC:=ih x ak ck w1 (by simp only[esize_ex] at hs;omega) (okF_ex hk).1 Sy;rw[exN_out] at HC;clear B1 S S' hks hk hs hg C1 hv hdl hd;go_enter Tryz.func87,Tryz.ntmps87;go_upto_region 1 with fail;rw[<-hw1,<-HG.out];clear hw1;go_wp2_with fail;refine HC.mono ?_;rintro r w2 ⟨rfl,B2⟩;go_wp2;go_ret;exact⟨rfl,HB.out.trans (B2.mono HB.out.size)⟩
  by_cases h20:k=20
  ·subst h20;have hv:kdE ⟨20,n,nm,a,ks⟩=cakN n:=by simp[kdE,kdN]
   rw[hv];obtain⟨w1,hw1⟩:∃w1,w1=w.alloc (.cells #[.int .i64 20,.int .i64 n,stv nm,.slice ao ks.len cap] 34):=⟨_,rfl⟩
   obtain⟨g,hg⟩:∃g,g=w.heap.size:=⟨_,rfl⟩
   have B1:Below w.heap.size w w1:=by rw[hw1];exact b1 _ _
   have C1:w1.heap[g]?=some (.cells #[.int .i64 20,.int .i64 n,stv nm,.slice ao ks.len cap] 34):=by rw[hw1,hg];exact heap_alloc_new _ _
   obtain⟨⟨c0,c1,c2,c3⟩,-⟩:=cells4e C1;have HG:=Lib.hid hg;have HB:=Lib.hid B1;have HC:=callKind_c n w1;clear B1 S hk hs hg C1 hv hdl hd;go_enter Tryz.func87,Tryz.ntmps87;go_upto_region 1 with fail;rw[<-hw1,<-HG.out];clear hw1;go_wp2_with fail;refine HC.mono ?_;rintro r w2 ⟨rfl,hww⟩;subst hww;go_wp2;go_ret;exact⟨rfl,HB.out⟩
  by_cases h21:k=21
  ·subst h21;have hv:kdE ⟨21,n,nm,a,ks⟩=qukN n:=by simp[kdE,kdN]
   rw[hv];obtain⟨w1,hw1⟩:∃w1,w1=w.alloc (.cells #[.int .i64 21,.int .i64 n,stv nm,.slice ao ks.len cap] 34):=⟨_,rfl⟩
   obtain⟨g,hg⟩:∃g,g=w.heap.size:=⟨_,rfl⟩
   have B1:Below w.heap.size w w1:=by rw[hw1];exact b1 _ _
   have C1:w1.heap[g]?=some (.cells #[.int .i64 21,.int .i64 n,stv nm,.slice ao ks.len cap] 34):=by rw[hw1,hg];exact heap_alloc_new _ _
   obtain⟨⟨c0,c1,c2,c3⟩,-⟩:=cells4e C1;have HG:=Lib.hid hg;have HB:=Lib.hid B1;have HC:=quantKind_c n w1;clear B1 S hk hs hg C1 hv hdl hd;go_enter Tryz.func87,Tryz.ntmps87;go_upto_region 1 with fail;rw[<-hw1,<-HG.out];clear hw1;go_wp2_with fail;refine HC.mono ?_;rintro r w2 ⟨rfl,hww⟩;subst hww;go_wp2;go_ret;exact⟨rfl,HB.out⟩
  by_cases h1:k=1
  ·subst h1;have hv:kdE ⟨1,n,nm,a,ks⟩=1:=by simp[kdE,kdN]
   rw[hv];obtain⟨w1,hw1⟩:∃w1,w1=w.alloc (.cells #[.int .i64 1,.int .i64 n,stv nm,.slice ao ks.len cap] 34):=⟨_,rfl⟩
   obtain⟨g,hg⟩:∃g,g=w.heap.size:=⟨_,rfl⟩
   have B1:Below w.heap.size w w1:=by rw[hw1];exact b1 _ _
   have C1:w1.heap[g]?=some (.cells #[.int .i64 1,.int .i64 n,stv nm,.slice ao ks.len cap] 34):=by rw[hw1,hg];exact heap_alloc_new _ _
   obtain⟨⟨c0,c1,c2,c3⟩,-⟩:=cells4e C1;have HG:=Lib.hid hg;have HB:=Lib.hid B1;clear B1 S hk hs hg C1 hv hd hdl ih;go_enter Tryz.func87,Tryz.ntmps87;go_upto_region 1 with fail;rw[<-hw1,<-HG.out];clear hw1;go_wp2;go_ret;exact⟨rfl,HB.out⟩
  by_cases h2:k=2
  ·subst h2;have hv:kdE ⟨2,n,nm,a,ks⟩=2:=by simp[kdE,kdN]
   rw[hv];obtain⟨w1,hw1⟩:∃w1,w1=w.alloc (.cells #[.int .i64 2,.int .i64 n,stv nm,.slice ao ks.len cap] 34):=⟨_,rfl⟩
   obtain⟨g,hg⟩:∃g,g=w.heap.size:=⟨_,rfl⟩
   have B1:Below w.heap.size w w1:=by rw[hw1];exact b1 _ _
   have C1:w1.heap[g]?=some (.cells #[.int .i64 2,.int .i64 n,stv nm,.slice ao ks.len cap] 34):=by rw[hw1,hg];exact heap_alloc_new _ _
   obtain⟨⟨c0,c1,c2,c3⟩,-⟩:=cells4e C1;have HG:=Lib.hid hg;have HB:=Lib.hid B1;clear B1 S hk hs hg C1 hv hd hdl ih;go_enter Tryz.func87,Tryz.ntmps87;go_upto_region 1 with fail;rw[<-hw1,<-HG.out];clear hw1;go_wp2;go_ret;exact⟨rfl,HB.out⟩
  by_cases h3:k=3
  ·subst h3;have hv:kdE ⟨3,n,nm,a,ks⟩=3:=by simp[kdE,kdN]
   rw[hv];obtain⟨w1,hw1⟩:∃w1,w1=w.alloc (.cells #[.int .i64 3,.int .i64 n,stv nm,.slice ao ks.len cap] 34):=⟨_,rfl⟩
   obtain⟨g,hg⟩:∃g,g=w.heap.size:=⟨_,rfl⟩
   have B1:Below w.heap.size w w1:=by rw[hw1];exact b1 _ _
   have C1:w1.heap[g]?=some (.cells #[.int .i64 3,.int .i64 n,stv nm,.slice ao ks.len cap] 34):=by rw[hw1,hg];exact heap_alloc_new _ _
   obtain⟨⟨c0,c1,c2,c3⟩,-⟩:=cells4e C1;have HG:=Lib.hid hg;have HB:=Lib.hid B1;clear B1 S hk hs hg C1 hv hd hdl ih;go_enter Tryz.func87,Tryz.ntmps87;go_upto_region 1 with fail;rw[<-hw1,<-HG.out];clear hw1;go_wp2;go_ret;exact⟨rfl,HB.out⟩
  by_cases h5:k=5
  ·subst h5;have hv:kdE ⟨5,n,nm,a,ks⟩=3:=by simp[kdE,kdN]
   rw[hv];obtain⟨w1,hw1⟩:∃w1,w1=w.alloc (.cells #[.int .i64 5,.int .i64 n,stv nm,.slice ao ks.len cap] 34):=⟨_,rfl⟩
   obtain⟨g,hg⟩:∃g,g=w.heap.size:=⟨_,rfl⟩
   have B1:Below w.heap.size w w1:=by rw[hw1];exact b1 _ _
   have C1:w1.heap[g]?=some (.cells #[.int .i64 5,.int .i64 n,stv nm,.slice ao ks.len cap] 34):=by rw[hw1,hg];exact heap_alloc_new _ _
   obtain⟨⟨c0,c1,c2,c3⟩,-⟩:=cells4e C1;have HG:=Lib.hid hg;have HB:=Lib.hid B1;clear B1 S hk hs hg C1 hv hd hdl ih;go_enter Tryz.func87,Tryz.ntmps87;go_upto_region 1 with fail;rw[<-hw1,<-HG.out];clear hw1;go_wp2;go_ret;exact⟨rfl,HB.out⟩
  by_cases h6:k=6
  ·subst h6;have hv:kdE ⟨6,n,nm,a,ks⟩=1:=by simp[kdE,kdN]
   rw[hv];obtain⟨w1,hw1⟩:∃w1,w1=w.alloc (.cells #[.int .i64 6,.int .i64 n,stv nm,.slice ao ks.len cap] 34):=⟨_,rfl⟩
   obtain⟨g,hg⟩:∃g,g=w.heap.size:=⟨_,rfl⟩
   have B1:Below w.heap.size w w1:=by rw[hw1];exact b1 _ _
   have C1:w1.heap[g]?=some (.cells #[.int .i64 6,.int .i64 n,stv nm,.slice ao ks.len cap] 34):=by rw[hw1,hg];exact heap_alloc_new _ _
   obtain⟨⟨c0,c1,c2,c3⟩,-⟩:=cells4e C1;have HG:=Lib.hid hg;have HB:=Lib.hid B1;clear B1 S hk hs hg C1 hv hd hdl ih;go_enter Tryz.func87,Tryz.ntmps87;go_upto_region 1 with fail;rw[<-hw1,<-HG.out];clear hw1;go_wp2;go_ret;exact⟨rfl,HB.out⟩
  by_cases h7:k=7
  ·subst h7;have hv:kdE ⟨7,n,nm,a,ks⟩=2:=by simp[kdE,kdN]
   rw[hv];obtain⟨w1,hw1⟩:∃w1,w1=w.alloc (.cells #[.int .i64 7,.int .i64 n,stv nm,.slice ao ks.len cap] 34):=⟨_,rfl⟩
   obtain⟨g,hg⟩:∃g,g=w.heap.size:=⟨_,rfl⟩
   have B1:Below w.heap.size w w1:=by rw[hw1];exact b1 _ _
   have C1:w1.heap[g]?=some (.cells #[.int .i64 7,.int .i64 n,stv nm,.slice ao ks.len cap] 34):=by rw[hw1,hg];exact heap_alloc_new _ _
   obtain⟨⟨c0,c1,c2,c3⟩,-⟩:=cells4e C1;have HG:=Lib.hid hg;have HB:=Lib.hid B1;clear B1 S hk hs hg C1 hv hd hdl ih;go_enter Tryz.func87,Tryz.ntmps87;go_upto_region 1 with fail;rw[<-hw1,<-HG.out];clear hw1;go_wp2;go_ret;exact⟨rfl,HB.out⟩
  by_cases h8:k=8
  ·subst h8;have hv:kdE ⟨8,n,nm,a,ks⟩=1:=by simp[kdE,kdN]
   rw[hv];obtain⟨w1,hw1⟩:∃w1,w1=w.alloc (.cells #[.int .i64 8,.int .i64 n,stv nm,.slice ao ks.len cap] 34):=⟨_,rfl⟩
   obtain⟨g,hg⟩:∃g,g=w.heap.size:=⟨_,rfl⟩
   have B1:Below w.heap.size w w1:=by rw[hw1];exact b1 _ _
   have C1:w1.heap[g]?=some (.cells #[.int .i64 8,.int .i64 n,stv nm,.slice ao ks.len cap] 34):=by rw[hw1,hg];exact heap_alloc_new _ _
   obtain⟨⟨c0,c1,c2,c3⟩,-⟩:=cells4e C1;have HG:=Lib.hid hg;have HB:=Lib.hid B1;clear B1 S hk hs hg C1 hv hd hdl ih;go_enter Tryz.func87,Tryz.ntmps87;go_upto_region 1 with fail;rw[<-hw1,<-HG.out];clear hw1;go_wp2;go_ret;exact⟨rfl,HB.out⟩
  by_cases h9:k=9
  ·subst h9;have hv:kdE ⟨9,n,nm,a,ks⟩=1:=by simp[kdE,kdN]
   rw[hv];obtain⟨w1,hw1⟩:∃w1,w1=w.alloc (.cells #[.int .i64 9,.int .i64 n,stv nm,.slice ao ks.len cap] 34):=⟨_,rfl⟩
   obtain⟨g,hg⟩:∃g,g=w.heap.size:=⟨_,rfl⟩
   have B1:Below w.heap.size w w1:=by rw[hw1];exact b1 _ _
   have C1:w1.heap[g]?=some (.cells #[.int .i64 9,.int .i64 n,stv nm,.slice ao ks.len cap] 34):=by rw[hw1,hg];exact heap_alloc_new _ _
   obtain⟨⟨c0,c1,c2,c3⟩,-⟩:=cells4e C1;have HG:=Lib.hid hg;have HB:=Lib.hid B1;clear B1 S hk hs hg C1 hv hd hdl ih;go_enter Tryz.func87,Tryz.ntmps87;go_upto_region 1 with fail;rw[<-hw1,<-HG.out];clear hw1;go_wp2;go_ret;exact⟨rfl,HB.out⟩
  by_cases h10:k=10
  ·subst h10;have hv:kdE ⟨10,n,nm,a,ks⟩=1:=by simp[kdE,kdN]
   rw[hv];obtain⟨w1,hw1⟩:∃w1,w1=w.alloc (.cells #[.int .i64 10,.int .i64 n,stv nm,.slice ao ks.len cap] 34):=⟨_,rfl⟩
   obtain⟨g,hg⟩:∃g,g=w.heap.size:=⟨_,rfl⟩
   have B1:Below w.heap.size w w1:=by rw[hw1];exact b1 _ _
   have C1:w1.heap[g]?=some (.cells #[.int .i64 10,.int .i64 n,stv nm,.slice ao ks.len cap] 34):=by rw[hw1,hg];exact heap_alloc_new _ _
   obtain⟨⟨c0,c1,c2,c3⟩,-⟩:=cells4e C1;have HG:=Lib.hid hg;have HB:=Lib.hid B1;clear B1 S hk hs hg C1 hv hd hdl ih;go_enter Tryz.func87,Tryz.ntmps87;go_upto_region 1 with fail;rw[<-hw1,<-HG.out];clear hw1;go_wp2;go_ret;exact⟨rfl,HB.out⟩
  by_cases h11:k=11
  ·subst h11;have hv:kdE ⟨11,n,nm,a,ks⟩=1:=by simp[kdE,kdN]
   rw[hv];obtain⟨w1,hw1⟩:∃w1,w1=w.alloc (.cells #[.int .i64 11,.int .i64 n,stv nm,.slice ao ks.len cap] 34):=⟨_,rfl⟩
   obtain⟨g,hg⟩:∃g,g=w.heap.size:=⟨_,rfl⟩
   have B1:Below w.heap.size w w1:=by rw[hw1];exact b1 _ _
   have C1:w1.heap[g]?=some (.cells #[.int .i64 11,.int .i64 n,stv nm,.slice ao ks.len cap] 34):=by rw[hw1,hg];exact heap_alloc_new _ _
   obtain⟨⟨c0,c1,c2,c3⟩,-⟩:=cells4e C1;have HG:=Lib.hid hg;have HB:=Lib.hid B1;clear B1 S hk hs hg C1 hv hd hdl ih;go_enter Tryz.func87,Tryz.ntmps87;go_upto_region 1 with fail;rw[<-hw1,<-HG.out];clear hw1;go_wp2;go_ret;exact⟨rfl,HB.out⟩
  by_cases h12:k=12
  ·subst h12;have hv:kdE ⟨12,n,nm,a,ks⟩=1:=by simp[kdE,kdN]
   rw[hv];obtain⟨w1,hw1⟩:∃w1,w1=w.alloc (.cells #[.int .i64 12,.int .i64 n,stv nm,.slice ao ks.len cap] 34):=⟨_,rfl⟩
   obtain⟨g,hg⟩:∃g,g=w.heap.size:=⟨_,rfl⟩
   have B1:Below w.heap.size w w1:=by rw[hw1];exact b1 _ _
   have C1:w1.heap[g]?=some (.cells #[.int .i64 12,.int .i64 n,stv nm,.slice ao ks.len cap] 34):=by rw[hw1,hg];exact heap_alloc_new _ _
   obtain⟨⟨c0,c1,c2,c3⟩,-⟩:=cells4e C1;have HG:=Lib.hid hg;have HB:=Lib.hid B1;clear B1 S hk hs hg C1 hv hd hdl ih;go_enter Tryz.func87,Tryz.ntmps87;go_upto_region 1 with fail;rw[<-hw1,<-HG.out];clear hw1;go_wp2;go_ret;exact⟨rfl,HB.out⟩
  by_cases h13:k=13
  ·subst h13;have hv:kdE ⟨13,n,nm,a,ks⟩=2:=by simp[kdE,kdN]
   rw[hv];obtain⟨w1,hw1⟩:∃w1,w1=w.alloc (.cells #[.int .i64 13,.int .i64 n,stv nm,.slice ao ks.len cap] 34):=⟨_,rfl⟩
   obtain⟨g,hg⟩:∃g,g=w.heap.size:=⟨_,rfl⟩
   have B1:Below w.heap.size w w1:=by rw[hw1];exact b1 _ _
   have C1:w1.heap[g]?=some (.cells #[.int .i64 13,.int .i64 n,stv nm,.slice ao ks.len cap] 34):=by rw[hw1,hg];exact heap_alloc_new _ _
   obtain⟨⟨c0,c1,c2,c3⟩,-⟩:=cells4e C1;have HG:=Lib.hid hg;have HB:=Lib.hid B1;clear B1 S hk hs hg C1 hv hd hdl ih;go_enter Tryz.func87,Tryz.ntmps87;go_upto_region 1 with fail;rw[<-hw1,<-HG.out];clear hw1;go_wp2;go_ret;exact⟨rfl,HB.out⟩
  by_cases h14:k=14
  ·subst h14;have hv:kdE ⟨14,n,nm,a,ks⟩=2:=by simp[kdE,kdN]
   rw[hv];obtain⟨w1,hw1⟩:∃w1,w1=w.alloc (.cells #[.int .i64 14,.int .i64 n,stv nm,.slice ao ks.len cap] 34):=⟨_,rfl⟩
   obtain⟨g,hg⟩:∃g,g=w.heap.size:=⟨_,rfl⟩
   have B1:Below w.heap.size w w1:=by rw[hw1];exact b1 _ _
   have C1:w1.heap[g]?=some (.cells #[.int .i64 14,.int .i64 n,stv nm,.slice ao ks.len cap] 34):=by rw[hw1,hg];exact heap_alloc_new _ _
   obtain⟨⟨c0,c1,c2,c3⟩,-⟩:=cells4e C1;have HG:=Lib.hid hg;have HB:=Lib.hid B1;clear B1 S hk hs hg C1 hv hd hdl ih;go_enter Tryz.func87,Tryz.ntmps87;go_upto_region 1 with fail;rw[<-hw1,<-HG.out];clear hw1;go_wp2;go_ret;exact⟨rfl,HB.out⟩
  by_cases h15:k=15
  ·subst h15;have hv:kdE ⟨15,n,nm,a,ks⟩=2:=by simp[kdE,kdN]
   rw[hv];obtain⟨w1,hw1⟩:∃w1,w1=w.alloc (.cells #[.int .i64 15,.int .i64 n,stv nm,.slice ao ks.len cap] 34):=⟨_,rfl⟩
   obtain⟨g,hg⟩:∃g,g=w.heap.size:=⟨_,rfl⟩
   have B1:Below w.heap.size w w1:=by rw[hw1];exact b1 _ _
   have C1:w1.heap[g]?=some (.cells #[.int .i64 15,.int .i64 n,stv nm,.slice ao ks.len cap] 34):=by rw[hw1,hg];exact heap_alloc_new _ _
   obtain⟨⟨c0,c1,c2,c3⟩,-⟩:=cells4e C1;have HG:=Lib.hid hg;have HB:=Lib.hid B1;clear B1 S hk hs hg C1 hv hd hdl ih;go_enter Tryz.func87,Tryz.ntmps87;go_upto_region 1 with fail;rw[<-hw1,<-HG.out];clear hw1;go_wp2;go_ret;exact⟨rfl,HB.out⟩
  by_cases h16:k=16
  ·subst h16;have hv:kdE ⟨16,n,nm,a,ks⟩=2:=by simp[kdE,kdN]
   rw[hv];obtain⟨w1,hw1⟩:∃w1,w1=w.alloc (.cells #[.int .i64 16,.int .i64 n,stv nm,.slice ao ks.len cap] 34):=⟨_,rfl⟩
   obtain⟨g,hg⟩:∃g,g=w.heap.size:=⟨_,rfl⟩
   have B1:Below w.heap.size w w1:=by rw[hw1];exact b1 _ _
   have C1:w1.heap[g]?=some (.cells #[.int .i64 16,.int .i64 n,stv nm,.slice ao ks.len cap] 34):=by rw[hw1,hg];exact heap_alloc_new _ _
   obtain⟨⟨c0,c1,c2,c3⟩,-⟩:=cells4e C1;have HG:=Lib.hid hg;have HB:=Lib.hid B1;clear B1 S hk hs hg C1 hv hd hdl ih;go_enter Tryz.func87,Tryz.ntmps87;go_upto_region 1 with fail;rw[<-hw1,<-HG.out];clear hw1;go_wp2;go_ret;exact⟨rfl,HB.out⟩
  by_cases h17:k=17
  ·subst h17;have hv:kdE ⟨17,n,nm,a,ks⟩=2:=by simp[kdE,kdN]
   rw[hv];obtain⟨w1,hw1⟩:∃w1,w1=w.alloc (.cells #[.int .i64 17,.int .i64 n,stv nm,.slice ao ks.len cap] 34):=⟨_,rfl⟩
   obtain⟨g,hg⟩:∃g,g=w.heap.size:=⟨_,rfl⟩
   have B1:Below w.heap.size w w1:=by rw[hw1];exact b1 _ _
   have C1:w1.heap[g]?=some (.cells #[.int .i64 17,.int .i64 n,stv nm,.slice ao ks.len cap] 34):=by rw[hw1,hg];exact heap_alloc_new _ _
   obtain⟨⟨c0,c1,c2,c3⟩,-⟩:=cells4e C1;have HG:=Lib.hid hg;have HB:=Lib.hid B1;clear B1 S hk hs hg C1 hv hd hdl ih;go_enter Tryz.func87,Tryz.ntmps87;go_upto_region 1 with fail;rw[<-hw1,<-HG.out];clear hw1;go_wp2;go_ret;exact⟨rfl,HB.out⟩
  by_cases h18:k=18
  ·subst h18;have hv:kdE ⟨18,n,nm,a,ks⟩=2:=by simp[kdE,kdN]
   rw[hv];obtain⟨w1,hw1⟩:∃w1,w1=w.alloc (.cells #[.int .i64 18,.int .i64 n,stv nm,.slice ao ks.len cap] 34):=⟨_,rfl⟩
   obtain⟨g,hg⟩:∃g,g=w.heap.size:=⟨_,rfl⟩
   have B1:Below w.heap.size w w1:=by rw[hw1];exact b1 _ _
   have C1:w1.heap[g]?=some (.cells #[.int .i64 18,.int .i64 n,stv nm,.slice ao ks.len cap] 34):=by rw[hw1,hg];exact heap_alloc_new _ _
   obtain⟨⟨c0,c1,c2,c3⟩,-⟩:=cells4e C1;have HG:=Lib.hid hg;have HB:=Lib.hid B1;clear B1 S hk hs hg C1 hv hd hdl ih;go_enter Tryz.func87,Tryz.ntmps87;go_upto_region 1 with fail;rw[<-hw1,<-HG.out];clear hw1;go_wp2;go_ret;exact⟨rfl,HB.out⟩
  by_cases h22:k=22
  ·subst h22;have hv:kdE ⟨22,n,nm,a,ks⟩=2:=by simp[kdE,kdN]
   rw[hv];obtain⟨w1,hw1⟩:∃w1,w1=w.alloc (.cells #[.int .i64 22,.int .i64 n,stv nm,.slice ao ks.len cap] 34):=⟨_,rfl⟩
   obtain⟨g,hg⟩:∃g,g=w.heap.size:=⟨_,rfl⟩
   have B1:Below w.heap.size w w1:=by rw[hw1];exact b1 _ _
   have C1:w1.heap[g]?=some (.cells #[.int .i64 22,.int .i64 n,stv nm,.slice ao ks.len cap] 34):=by rw[hw1,hg];exact heap_alloc_new _ _
   obtain⟨⟨c0,c1,c2,c3⟩,-⟩:=cells4e C1;have HG:=Lib.hid hg;have HB:=Lib.hid B1;clear B1 S hk hs hg C1 hv hd hdl ih;go_enter Tryz.func87,Tryz.ntmps87;go_upto_region 1 with fail;rw[<-hw1,<-HG.out];clear hw1;go_wp2;go_ret;exact⟨rfl,HB.out⟩
  by_cases h23:k=23
  ·subst h23;have hv:kdE ⟨23,n,nm,a,ks⟩=2:=by simp[kdE,kdN]
   rw[hv];obtain⟨w1,hw1⟩:∃w1,w1=w.alloc (.cells #[.int .i64 23,.int .i64 n,stv nm,.slice ao ks.len cap] 34):=⟨_,rfl⟩
   obtain⟨g,hg⟩:∃g,g=w.heap.size:=⟨_,rfl⟩
   have B1:Below w.heap.size w w1:=by rw[hw1];exact b1 _ _
   have C1:w1.heap[g]?=some (.cells #[.int .i64 23,.int .i64 n,stv nm,.slice ao ks.len cap] 34):=by rw[hw1,hg];exact heap_alloc_new _ _
   obtain⟨⟨c0,c1,c2,c3⟩,-⟩:=cells4e C1;have HG:=Lib.hid hg;have HB:=Lib.hid B1;clear B1 S hk hs hg C1 hv hd hdl ih;go_enter Tryz.func87,Tryz.ntmps87;go_upto_region 1 with fail;rw[<-hw1,<-HG.out];clear hw1;go_wp2;go_ret;exact⟨rfl,HB.out⟩
  by_cases h24:k=24
  ·subst h24;have hv:kdE ⟨24,n,nm,a,ks⟩=2:=by simp[kdE,kdN]
   rw[hv];obtain⟨w1,hw1⟩:∃w1,w1=w.alloc (.cells #[.int .i64 24,.int .i64 n,stv nm,.slice ao ks.len cap] 34):=⟨_,rfl⟩
   obtain⟨g,hg⟩:∃g,g=w.heap.size:=⟨_,rfl⟩
   have B1:Below w.heap.size w w1:=by rw[hw1];exact b1 _ _
   have C1:w1.heap[g]?=some (.cells #[.int .i64 24,.int .i64 n,stv nm,.slice ao ks.len cap] 34):=by rw[hw1,hg];exact heap_alloc_new _ _
   obtain⟨⟨c0,c1,c2,c3⟩,-⟩:=cells4e C1;have HG:=Lib.hid hg;have HB:=Lib.hid B1;clear B1 S hk hs hg C1 hv hd hdl ih;go_enter Tryz.func87,Tryz.ntmps87;go_upto_region 1 with fail;rw[<-hw1,<-HG.out];clear hw1;go_wp2;go_ret;exact⟨rfl,HB.out⟩
  by_cases h25:k=25
  ·subst h25;have hv:kdE ⟨25,n,nm,a,ks⟩=2:=by simp[kdE,kdN]
   rw[hv];obtain⟨w1,hw1⟩:∃w1,w1=w.alloc (.cells #[.int .i64 25,.int .i64 n,stv nm,.slice ao ks.len cap] 34):=⟨_,rfl⟩
   obtain⟨g,hg⟩:∃g,g=w.heap.size:=⟨_,rfl⟩
   have B1:Below w.heap.size w w1:=by rw[hw1];exact b1 _ _
   have C1:w1.heap[g]?=some (.cells #[.int .i64 25,.int .i64 n,stv nm,.slice ao ks.len cap] 34):=by rw[hw1,hg];exact heap_alloc_new _ _
   obtain⟨⟨c0,c1,c2,c3⟩,-⟩:=cells4e C1;have HG:=Lib.hid hg;have HB:=Lib.hid B1;clear B1 S hk hs hg C1 hv hd hdl ih;go_enter Tryz.func87,Tryz.ntmps87;go_upto_region 1 with fail;rw[<-hw1,<-HG.out];clear hw1;go_wp2;go_ret;exact⟨rfl,HB.out⟩
  exfalso;rcases docF_kind hd with h|h|h|h|h|h|h|h|h|h|h|h|h|h|h|h|h|h|h|h|h|h|h|h|h<;>contradiction
end Go.Proofs.YtbjdkekhnajafaaGreatDoor

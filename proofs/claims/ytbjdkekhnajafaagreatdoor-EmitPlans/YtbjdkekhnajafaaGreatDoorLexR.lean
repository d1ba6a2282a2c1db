import Derived.Test.YtbjdkekhnajafaaGreatDoorTrE
set_option maxRecDepth 100000
set_option maxHeartbeats 8000000
namespace Go.Proofs.YtbjdkekhnajafaaGreatDoor
set_option linter.unusedVariables false
set_option linter.unusedSimpArgs false
structure Wt where
 t:List UInt8
 o:Nat
 q:Nat
abbrev Ow:=Option Wt
def putO (x:List UInt8):Ow->Ow
 | none=>none
 | some s=>if 2000<s.t.length+x.length then none else some ⟨s.t++x,s.o,s.q⟩
def entO:Ow->Ow
 | none=>none
 | some s=>if 64<s.o+1 then none else some ⟨s.t,s.o+1,s.q⟩
def leaO:Ow->Ow
 | none=>none
 | some s=>some ⟨s.t,s.o-1,s.q⟩
def qenO:Ow->Ow
 | none=>none
 | some s=>if 4<s.q+1 then none else some ⟨s.t,s.o,s.q+1⟩
def qleO:Ow->Ow
 | none=>none
 | some s=>some ⟨s.t,s.o,s.q-1⟩
def absO (s:St):Ow:=if roomB s then some ⟨s.t,s.a,s.b⟩ else none
theorem room_iff (s:St):roomB s=true ↔ s.t.length<=2000/\s.m<=64/\s.n<=4:=by
 unfold roomB;simp only[Bool.not_eq_true',Bool.or_eq_false_iff,decide_eq_false_iff_not];omega
theorem abs_some {s:St}(h:s.t.length<=2000/\s.m<=64/\s.n<=4):absO s=some ⟨s.t,s.a,s.b⟩:=by unfold absO;rw[if_pos ((room_iff s).2 h)]
theorem abs_none {s:St}(h:¬(s.t.length<=2000/\s.m<=64/\s.n<=4)):absO s=none:=by unfold absO;rw[if_neg (fun e=>h ((room_iff s).1 e))]
theorem abs_put (x:List UInt8)(s:St):putO x (absO s)=absO (s.lay x):=by
 by_cases h:s.t.length<=2000/\s.m<=64/\s.n<=4
 ·rw[abs_some h];by_cases h2:2000<s.t.length+x.length
  ·rw[abs_none (s:=s.lay x) (by simp only[St.lay,List.length_append];omega)];simp[putO,h2]
  ·rw[abs_some (s:=s.lay x) (by simp only[St.lay,List.length_append];omega)];simp[putO,h2,St.lay]
 ·rw[abs_none h,abs_none (s:=s.lay x) (by simp only[St.lay,List.length_append];omega)];rfl
theorem abs_ent (s:St):entO (absO s)=absO s.ent:=by
 by_cases h:s.t.length<=2000/\s.m<=64/\s.n<=4
 ·rw[abs_some h];by_cases h2:64<s.a+1
  ·rw[abs_none (s:=s.ent) (by simp only[St.ent];omega)];simp[entO,h2]
  ·rw[abs_some (s:=s.ent) (by simp only[St.ent];omega)];simp[entO,h2,St.ent]
 ·rw[abs_none h,abs_none (s:=s.ent) (by simp only[St.ent];omega)];rfl
theorem abs_lea (s:St):leaO (absO s)=absO s.lea:=by
 by_cases h:s.t.length<=2000/\s.m<=64/\s.n<=4
 ·rw[abs_some h,abs_some (s:=s.lea) h];rfl
 ·rw[abs_none h,abs_none (s:=s.lea) h];rfl
theorem abs_qen (s:St):qenO (absO s)=absO s.qent:=by
 by_cases h:s.t.length<=2000/\s.m<=64/\s.n<=4
 ·rw[abs_some h];by_cases h2:4<s.b+1
  ·rw[abs_none (s:=s.qent) (by simp only[St.qent];omega)];simp[qenO,h2]
  ·rw[abs_some (s:=s.qent) (by simp only[St.qent];omega)];simp[qenO,h2,St.qent]
 ·rw[abs_none h,abs_none (s:=s.qent) (by simp only[St.qent];omega)];rfl
theorem abs_qle (s:St):qleO (absO s)=absO s.qlea:=by
 by_cases h:s.t.length<=2000/\s.m<=64/\s.n<=4
 ·rw[abs_some h,abs_some (s:=s.qlea) h];rfl
 ·rw[abs_none h,abs_none (s:=s.qlea) h];rfl
def oPlain (k n:Int)(nm:List UInt8)(K:Sep->Ow->Ow)(s:Ow):Ow :=
 if k=1 then putO (Go.Lib.itoa n) s
 else if k=2 then putO (Go.Lib.formatBool (n==1)) s
 else if k=3 then putO ([64]++Go.Lib.itoa n) s
 else if k=4\/k=23 then putO nm s
 else if k=22 then putO [118,101,114,116,105,99,101,115] s
 else K (opS k) s
def oList (x y:List UInt8)(K:Sep->Ow->Ow)(s:Ow):Ow:=putO y (leaO (K comS (putO x (entO s))))
def oNode (k n:Int)(nm:List UInt8)(K:Sep->Ow->Ow)(s:Ow):Ow :=
 if k=7 then leaO (K (fun _=>([110,111,116,32],3)) (entO s))
 else if k=6 then leaO (K (fun _=>([45],7)) (entO s))
 else if k=19 then leaO (K ifS (entO s))
 else if k=21 then qleO (leaO (K (quS n nm) (entO (qenO s))))
 else if k=20 then oList [40] [41] K (putO (cword n) s)
 else if k=24 then oList [40] [41] K (putO [97,114,111,117,110,100] s)
 else if k=25 then oList [123] [125] K s
 else oPlain k n nm K s
def oPart (k n:Int)(nm:List UInt8)(len:Nat)(set:Bool)(K:Sep->Ow->Ow)(s:Ow):Ow :=
 if (numB k n&&namB k nm&&kidB k n len&&(isSetK k==set))=true then oNode k n nm K s else none
def oE (k n:Int)(nm:List UInt8)(len:Nat)(set:Bool)(asked:Nat)(K:Sep->Ow->Ow)(s:Ow):Ow :=
 if rowOf k<asked then putO [41] (leaO (oPart k n nm len false K (putO [40] (entO s)))) else oPart k n nm len set K s
def oFs:Fs->Bool->Sep->Nat->Ow->Ow
 | ⟨none⟩,_,_,_,s=>s
 | ⟨some ⟨k,n,nm,a,ks,r⟩⟩,first,f,i,s=>oFs r false f (i+1) (oE k n nm ks.len first (f i).2 (fun g s=>oFs ks (k==21) g 0 s) (putO (f i).1 s))
def oEx (e:Ex)(set:Bool)(s:Ow):Ow:=oPart e.k e.n e.nm e.kids.len set (fun g s=>oFs e.kids (e.k==21) g 0 s) s
def okS:Fs->Bool->Bool
 | ⟨none⟩,_=>true
 | ⟨some ⟨k,n,nm,a,ks,r⟩⟩,first=>(numB k n&&namB k nm&&kidB k n ks.len&&(isSetK k==first))&&okS ks (k==21)&&okS r false
theorem lay_lay (s:St)(x y:List UInt8):(s.lay x).lay y=s.lay (x++y):=by simp[St.lay]
theorem leaf_len {k n:Int}{m:Nat}(h:kidB k n m=true)(hk:k=1\/k=2\/k=3\/k=4\/k=22\/k=23):m=0:=by
 unfold kidB at h;rcases hk with rfl|rfl|rfl|rfl|rfl|rfl<;>simpa using h
theorem lea_lay (s:St)(x:List UInt8):s.lea.lay x=(s.lay x).lea:=rfl
theorem node_abs {k n:Int}{nm:List UInt8}{K:Sep->St->St}{K':Sep->Ow->Ow}(hK:∀ g s,(k=21->(g 0).2=0)->K' g (absO s)=absO (K g s))(s:St):oNode k n nm K' (absO s)=absO (wNode k n nm K s):=by
 unfold oNode wNode;by_cases h7:k=7
 ·simp only[h7,if_true];rw[abs_ent,hK _ _ (by omega),abs_lea]
 ·by_cases h6:k=6
  ·simp only[h7,h6,if_true,if_false];rw[if_neg (by omega),if_neg (by omega),abs_ent,hK _ _ (by omega),abs_lea]
  ·by_cases h19:k=19
   ·rw[if_neg h7,if_neg h6,if_pos h19,if_neg h7,if_neg h6,if_pos h19,abs_ent,hK _ _ (by omega),abs_lea]
   ·by_cases h21:k=21
    ·rw[if_neg h7,if_neg h6,if_neg h19,if_pos h21,if_neg h7,if_neg h6,if_neg h19,if_pos h21,abs_qen,abs_ent,hK _ _ (fun _=>rfl),abs_lea,abs_qle];rfl
    ·rw[if_neg h7,if_neg h6,if_neg h19,if_neg h21,if_neg h7,if_neg h6,if_neg h19,if_neg h21];by_cases h20:k=20
     ·rw[if_pos h20,if_pos h20];unfold oList wList;rw[abs_put,abs_ent,abs_put,hK _ _ (by omega),abs_lea,abs_put,lea_lay]
     ·rw[if_neg h20,if_neg h20];by_cases h24:k=24
      ·rw[if_pos h24,if_pos h24];unfold oList wList;rw[abs_put,abs_ent,abs_put,hK _ _ (by omega),abs_lea,abs_put,lea_lay]
      ·rw[if_neg h24,if_neg h24];by_cases h25:k=25
       ·rw[if_pos h25,if_pos h25];unfold oList wList;rw[abs_ent,abs_put,hK _ _ (by omega),abs_lea,abs_put,lea_lay]
       ·rw[if_neg h25,if_neg h25];unfold oPlain wPlain;by_cases h1:k=1
        ·rw[if_pos h1,if_pos h1,abs_put]
        ·rw[if_neg h1,if_neg h1];by_cases h2:k=2
         ·rw[if_pos h2,if_pos h2,abs_put]
         ·rw[if_neg h2,if_neg h2];by_cases h3:k=3
          ·rw[if_pos h3,if_pos h3,abs_put,lay_lay]
          ·rw[if_neg h3,if_neg h3];by_cases h4:k=4\/k=23
           ·rw[if_pos h4,if_pos h4,abs_put]
           ·rw[if_neg h4,if_neg h4];by_cases h22:k=22
            ·rw[if_pos h22,if_pos h22,abs_put]
            ·rw[if_neg h22,if_neg h22,hK _ _ (by omega)]
theorem node_none {k n:Int}{nm:List UInt8}{K':Sep->Ow->Ow}(hK:∀ g s,(k=21->(g 0).2=0)->K' g (absO s)=none)(hk:¬(k=1\/k=2\/k=3\/k=4\/k=22\/k=23))(s:St):oNode k n nm K' (absO s)=none:=by
 unfold oNode;by_cases h7:k=7
 ·rw[if_pos h7,abs_ent,hK _ _ (by omega)];rfl
 ·by_cases h6:k=6
  ·rw[if_neg h7,if_pos h6,abs_ent,hK _ _ (by omega)];rfl
  ·by_cases h19:k=19
   ·rw[if_neg h7,if_neg h6,if_pos h19,abs_ent,hK _ _ (by omega)];rfl
   ·by_cases h21:k=21
    ·rw[if_neg h7,if_neg h6,if_neg h19,if_pos h21,abs_qen,abs_ent,hK _ _ (fun _=>rfl)];rfl
    ·rw[if_neg h7,if_neg h6,if_neg h19,if_neg h21];by_cases h20:k=20
     ·rw[if_pos h20];unfold oList;rw[abs_put,abs_ent,abs_put,hK _ _ (by omega)];rfl
     ·rw[if_neg h20];by_cases h24:k=24
      ·rw[if_pos h24];unfold oList;rw[abs_put,abs_ent,abs_put,hK _ _ (by omega)];rfl
      ·rw[if_neg h24];by_cases h25:k=25
       ·rw[if_pos h25];unfold oList;rw[abs_ent,abs_put,hK _ _ (by omega)];rfl
       ·rw[if_neg h25];unfold oPlain;rw[if_neg (by omega),if_neg (by omega),if_neg (by omega),if_neg (by omega),if_neg (by omega),hK _ _ (by omega)]
theorem node_gone {k n:Int}{nm:List UInt8}{K:Sep->Ow->Ow}(hK:∀ g,K g none=none):oNode k n nm K none=none:=by
 simp only[oNode,oList,oPlain,entO,putO,qenO,hK,leaO,qleO];simp only[ite_self]
theorem e_gone {k n:Int}{nm:List UInt8}{len asked:Nat}{set:Bool}{K:Sep->Ow->Ow}(hK:∀ g,K g none=none):oE k n nm len set asked K none=none:=by
 have h:∀ b,oPart k n nm len b K none=none:=fun b=>by unfold oPart;rw[node_gone hK,ite_self]
 unfold oE;rw[h];simp only[entO,putO,h,leaO,ite_self]
theorem fs_gone:∀ (f:Fs) (b:Bool) (g:Sep) (i:Nat),oFs f b g i none=none
 | ⟨none⟩,b,g,i=>rfl
 | ⟨some ⟨k,n,nm,a,ks,r⟩⟩,b,g,i=>by
  simp only[oFs,putO];rw[e_gone (fun g=>fs_gone ks (k==21) g 0)];exact fs_gone r false g (i+1)
theorem leaf_no {k:Int}(h:isSetK k=true):rowOf k=8:=by
 unfold isSetK at h;simp only[Bool.or_eq_true,beq_iff_eq] at h;rcases h with ((rfl|rfl)|rfl)|rfl<;>rfl
theorem fs_abs:∀ (f:Fs) (first:Bool) (g:Sep) (i:Nat) (s:St),(first=true->(g i).2=0)->oFs f first g i (absO s)=bif okS f first then absO (wFs f g i s) else none
 | ⟨none⟩,first,g,i,s,h=>by simp only[oFs,okS,wFs,cond_true]
 | ⟨some ⟨k,n,nm,a,ks,r⟩⟩,first,g,i,s,h=>by
  simp only[oFs,okS,wFs];rw[abs_put];have IHr:=fun s=>fs_abs r false g (i+1) s (fun e=>by cases e);have part:∀ (set:Bool) (s:St),oPart k n nm ks.len set (fun g s=>oFs ks (k==21) g 0 s) (absO s)=if ((numB k n&&namB k nm&&kidB k n ks.len&&(isSetK k==set))&&okS ks (k==21))=true then absO (wNode k n nm (fun g s=>wFs ks g 0 s) s) else none:=fun set s=>by
   unfold oPart;by_cases hv:(numB k n&&namB k nm&&kidB k n ks.len&&(isSetK k==set))=true
   ·rw[if_pos hv];by_cases ho:okS ks (k==21)=true
    ·rw[if_pos (by rw[hv,ho];rfl)];exact node_abs (fun g s hg=>by
      show oFs ks (k==21) g 0 (absO s)=_;rw[fs_abs ks (k==21) g 0 s (fun e=>hg (by simpa using e)),ho,cond_true]) s
    ·rw[if_neg (by intro e;simp only[Bool.and_eq_true] at e;exact ho e.2)];refine node_none (fun g s hg=>?_) ?_ s
     ·show oFs ks (k==21) g 0 (absO s)=_;rw[fs_abs ks (k==21) g 0 s (fun e=>hg (by simpa using e)),show okS ks (k==21)=false by simpa using ho,cond_false]
     ·intro hk;have hkid:kidB k n ks.len=true:=by simp only[Bool.and_eq_true] at hv;exact hv.1.2
      have hl:=leaf_len hkid hk;cases ks using Fs.on with
      | nil=>exact ho (by simp only[okS])
      | cons _ _ _ _ _ _=>simp[Fs.len] at hl
   ·rw[if_neg hv,if_neg (by intro e;simp only[Bool.and_eq_true] at e hv;exact hv e.1)]
  by_cases hv:((numB k n&&namB k nm&&kidB k n ks.len&&(isSetK k==first))&&okS ks (k==21))=true
  ·have e1:oE k n nm ks.len first (g i).2 (fun g s=>oFs ks (k==21) g 0 s) (absO (s.lay (g i).1))=absO (wE k n nm (g i).2 (fun g s=>wFs ks g 0 s) (s.lay (g i).1)):=by
    unfold oE wE;by_cases hr:rowOf k<(g i).2
    ·have hf:first=false:=by
      cases first with
      | false=>rfl
      | true=>have:=h rfl;omega
     subst hf;rw[if_pos hr,if_pos hr,abs_ent,abs_put,part,if_pos hv,abs_lea,abs_put,lea_lay]
    ·rw[if_neg hr,if_neg hr,part,if_pos hv]
   rw[e1,IHr,hv,Bool.true_and]
  ·rw[show ((numB k n&&namB k nm&&kidB k n ks.len&&(isSetK k==first))&&okS ks (k==21))=false from Bool.eq_false_iff.2 hv,Bool.false_and,cond_false];have e1:oE k n nm ks.len first (g i).2 (fun g s=>oFs ks (k==21) g 0 s) (absO (s.lay (g i).1))=none:=by
    unfold oE;by_cases hr:rowOf k<(g i).2
    ·have hf:first=false:=by
      cases first with
      | false=>rfl
      | true=>have:=h rfl;omega
     subst hf;rw[if_pos hr,abs_ent,abs_put,part,if_neg hv];rfl
    ·rw[if_neg hr,part,if_neg hv]
   rw[e1];exact fs_gone r false g (i+1)
theorem ble_no {a b:Nat}(h:¬a<=b):Nat.ble a b=false:=Bool.eq_false_iff.2 fun e=>h (Nat.le_of_ble_eq_true e)
theorem hFs_eq:∀ (f:Fs) (first:Bool) (c:Nat),c<=2000->hFs f first c=bif okS f first&&Nat.ble (c+f.size) 2000 then some (c+f.size) else none
 | ⟨none⟩,first,c,hc=>by
  have h1:Nat.ble c 2000=true:=Nat.ble_eq_true_of_le hc;simp only[hFs,okS,Fs.size,Nat.add_zero,h1,Bool.true_and,cond_true]
 | ⟨some ⟨k,n,nm,a,ks,r⟩⟩,first,c,hc=>by
  simp only[hFs,okS,Fs.size];by_cases hs:isSetK k=first
  ·rw[if_neg (by simp[hs])];by_cases h1:2000<c+1
   ·rw[if_pos h1,ble_no (show ¬c+(ks.size+r.size+1)<=2000 by omega),Bool.and_false,cond_false]
   ·rw[if_neg h1];by_cases hv:(numB k n&&namB k nm&&kidB k n ks.len)=true
    ·rw[if_pos hv,hFs_eq ks (k==21) (c+1) (by omega),show (isSetK k==first)=true by simp[hs],hv,Bool.true_and,Bool.true_and];by_cases ho:okS ks (k==21)=true
     ·rw[ho,Bool.true_and,Bool.true_and];by_cases h2:c+1+ks.size<=2000
      ·rw[Nat.ble_eq_true_of_le h2,cond_true];simp only;rw[hFs_eq r false (c+1+ks.size) h2,show c+(ks.size+r.size+1)=c+1+ks.size+r.size by omega]
      ·rw[ble_no h2,cond_false,ble_no (show ¬c+(ks.size+r.size+1)<=2000 by omega),Bool.and_false,cond_false]
     ·rw[show okS ks (k==21)=false by simpa using ho];simp
    ·rw[if_neg hv,show (numB k n&&namB k nm&&kidB k n ks.len)=false by simpa using hv];simp
  ·rw[if_pos (by simpa using hs),show (isSetK k==first)=false by simpa using hs];simp
def sepL:Fs->Sep->Nat->Nat
 | ⟨none⟩,_,_=>0
 | ⟨some ⟨_,_,_,_,_,r⟩⟩,g,i=>(g i).1.length+sepL r g (i+1)
theorem sep_one {f:Fs}{g:Sep}{i:Nat}(h:0<f.len):(g i).1.length<=sepL f g i:=by
 cases f using Fs.on with
 | nil=>simp[Fs.len] at h
 | cons k n nm a ks r=>simp only[sepL];omega
theorem sep_two {f:Fs}{g:Sep}{i:Nat}(h:1<f.len):(g (i+1)).1.length<=sepL f g i:=by
 cases f using Fs.on with
 | nil=>simp[Fs.len] at h
 | cons k n nm a ks r =>
  have h2:0<r.len:=by simp only[Fs.len] at h;omega
  have:=sep_one (g:=g) (i:=i+1) h2
  simp only[sepL];omega
theorem itoa_pos (n:Int):0<(Go.Lib.itoa n).length:=by
 unfold Go.Lib.itoa;split
 ·simp
 ·rw[Go.Lib.decDigits_length];exact Go.Lib.nDigits_pos _
theorem node_lb {k n:Int}{nm:List UInt8}{f:Fs}{K:Sep->St->St}(hv:(numB k n&&namB k nm&&kidB k n f.len)=true)(hK:∀ g s,s.t.length+f.size+sepL f g 0<=(K g s).t.length)(s:St):s.t.length+f.size+1<=(wNode k n nm K s).t.length:=by
 simp only[Bool.and_eq_true] at hv;obtain⟨⟨hn,hm⟩,hk⟩:=hv;have leaf:(k=1\/k=2\/k=3\/k=4\/k=22\/k=23)->f.size=0:=fun h=>by
  have:=leaf_len hk h
  cases f using Fs.on with
  | nil=>rfl
  | cons _ _ _ _ _ _=>simp[Fs.len] at this
 unfold wNode;by_cases h7:k=7
 ·rw[if_pos h7];have hl:0<f.len:=by rw[h7] at hk;simp[kidB] at hk;omega
  have h1:=hK (fun _=>([110,111,116,32],3)) s.ent;have h2:=sep_one (g:=fun _=>([110,111,116,32],3)) (i:=0) hl;simp only[St.lea,St.ent,List.length_cons,List.length_nil] at h1 h2 ⊢;omega
 rw[if_neg h7];by_cases h6:k=6
 ·rw[if_pos h6];have hl:0<f.len:=by rw[h6] at hk;simp[kidB] at hk;omega
  have h1:=hK (fun _=>([45],7)) s.ent;have h2:=sep_one (g:=fun _=>([45],7)) (i:=0) hl;simp only[St.lea,St.ent,List.length_cons,List.length_nil] at h1 h2 ⊢;omega
 rw[if_neg h6];by_cases h19:k=19
 ·rw[if_pos h19];have hl:0<f.len:=by rw[h19] at hk;simp[kidB] at hk;omega
  have h1:=hK ifS s.ent;have h2:=sep_one (g:=ifS) (i:=0) hl;have h3:(ifS 0).1.length=3:=rfl;simp only[St.lea,St.ent] at h1 ⊢;omega
 rw[if_neg h19];by_cases h21:k=21
 ·rw[if_pos h21];have hl:0<f.len:=by rw[h21] at hk;simp[kidB] at hk;omega
  have h1:=hK (quS n nm) s.ent.qent;have h2:=sep_one (g:=quS n nm) (i:=0) hl;have h3:1<=(quS n nm 0).1.length:=by simp[quS];omega
  simp only[St.lea,St.ent,St.qent,St.qlea] at h1 ⊢;omega
 rw[if_neg h21];have lst:∀ (x y:List UInt8) (s':St),1<=x.length->s'.t.length+f.size+1<=(wList x y K s').t.length:=fun x y s' hx=>by
  have h1:=hK comS (s'.ent.lay x);simp only[wList,St.lea,St.lay,St.ent,List.length_append] at h1 ⊢;omega
 by_cases h20:k=20
 ·rw[if_pos h20]
  have:=lst [40] [41] (s.lay (cword n)) (by simp)
  simp only[St.lay,List.length_append] at this ⊢;omega
 rw[if_neg h20];by_cases h24:k=24
 ·rw[if_pos h24]
  have:=lst [40] [41] (s.lay [97,114,111,117,110,100]) (by simp)
  simp only[St.lay,List.length_append] at this ⊢;omega
 rw[if_neg h24];by_cases h25:k=25
 ·rw[if_pos h25];exact lst [123] [125] s (by simp)
 rw[if_neg h25];unfold wPlain;by_cases h1:k=1
 ·rw[if_pos h1,leaf (.inl h1)]
  have:=itoa_pos n
  simp only[St.lay,List.length_append];omega
 rw[if_neg h1];by_cases h2:k=2
 ·rw[if_pos h2,leaf (by omega)]
  have:0<(Go.Lib.formatBool (n==1)).length:=by cases (n==1)<;>decide
  simp only[St.lay,List.length_append];omega
 rw[if_neg h2];by_cases h3:k=3
 ·rw[if_pos h3,leaf (by omega)];simp only[St.lay,List.length_append,List.length_cons,List.length_nil];omega
 rw[if_neg h3];by_cases h4:k=4\/k=23
 ·rw[if_pos h4,leaf (by omega)]
  have:0<nm.length:=by
   have hm2:nameB nm=true:=by
    unfold namB at hm;rw[if_pos (by simp only[Bool.or_eq_true,beq_iff_eq];omega)] at hm;exact hm
   cases nm with
   | nil=>simp[nameB] at hm2
   | cons _ _=>simp
  simp only[St.lay,List.length_append];omega
 rw[if_neg h4];by_cases h22:k=22
 ·rw[if_pos h22,leaf (by omega)];simp only[St.lay,List.length_append,List.length_cons,List.length_nil];omega
 rw[if_neg h22];have hop:(opOf k).isSome=true/\f.len=2:=by
  have h5:¬k=23:=fun e=>h4 (.inr e);have h6':¬k=4:=fun e=>h4 (.inl e);have h9:(opOf k).isSome=true/\(f.len:Int)=2:=by simpa [kidB,h1,h2,h3,h5,h6',h22,h6,h7,h24,h21,h19,h20,h25] using hk
  exact⟨h9.1,by omega⟩
 have h8:=hK (opS k) s;have h9:(opS k 1).1.length<=sepL f (opS k) 0:=sep_two (i:=0) (by omega);have h10:2<=(opS k 1).1.length:=by
  unfold opS;cases ho:opOf k with
  | none=>rw[ho] at hop;cases hop.1
  | some x=>simp
 omega
theorem fs_lb:∀ (f:Fs) (first:Bool) (g:Sep) (i:Nat) (s:St),okS f first=true->s.t.length+f.size+sepL f g i<=(wFs f g i s).t.length
 | ⟨none⟩,first,g,i,s,h=>by simp[Fs.size,sepL,wFs]
 | ⟨some ⟨k,n,nm,a,ks,r⟩⟩,first,g,i,s,h=>by
  simp only[okS,Bool.and_eq_true] at h;obtain⟨⟨⟨hv,hs⟩,hk⟩,hr⟩:=h;have h1:=fun s'=>node_lb (s:=s') (k:=k) (n:=n) (nm:=nm) (f:=ks) (K:=fun g s=>wFs ks g 0 s) (by simp only[Bool.and_eq_true];exact hv) (fun g s=>fs_lb ks _ g 0 s hk);have h2:(s.lay (g i).1).t.length+ks.size+1<=(wE k n nm (g i).2 (fun g s=>wFs ks g 0 s) (s.lay (g i).1)).t.length:=by
   unfold wE;split
   ·have:=h1 ((s.lay (g i).1).ent.lay [40])
    simp only[St.lea,St.lay,St.ent,List.length_append] at this ⊢;omega
   ·exact h1 _
  have h3:=fs_lb r false g (i+1) (wE k n nm (g i).2 (fun g s=>wFs ks g 0 s) (s.lay (g i).1)) hr;simp only[wFs,Fs.size,sepL,St.lay,List.length_append] at h2 h3 ⊢;omega
def refA (e:Ex):Option (List UInt8):=(oEx e false (some ⟨[],0,0⟩)).map (·.t)
theorem abs_s0:absO s0=some ⟨[],0,0⟩:=rfl
theorem refA_eq (e:Ex):refA e=writA e:=by
 unfold refA writA oEx oPart;rw[<-abs_s0];by_cases hs:isSetK e.k=true
 ·rw[if_pos hs,if_neg (by simp[hs])];rfl
 ·have hs2:isSetK e.k=false:=by simpa using hs
  rw[if_neg hs];have hE1:hE e 0=if (numB e.k e.n&&namB e.k e.nm&&kidB e.k e.n e.kids.len)=true then hFs e.kids (e.k==21) (0+1) else none:=by unfold hE;rw[if_neg (by omega)]
  rw[hE1];by_cases hv:(numB e.k e.n&&namB e.k e.nm&&kidB e.k e.n e.kids.len)=true
  ·rw[if_pos (show (numB e.k e.n&&namB e.k e.nm&&kidB e.k e.n e.kids.len&&(isSetK e.k==false))=true by rw[hv,hs2];rfl),if_pos hv,hFs_eq _ _ _ (by omega)];have hw:wEx e 0 s0=wNode e.k e.n e.nm (fun g s=>wFs e.kids g 0 s) s0:=by unfold wEx wE;rw[if_neg (by omega)]
   by_cases ho:okS e.kids (e.k==21)=true
   ·rw[node_abs (K:=fun g s=>wFs e.kids g 0 s) (fun g s hg=>by
     show oFs e.kids (e.k==21) g 0 (absO s)=_;rw[fs_abs e.kids (e.k==21) g 0 s (fun e=>hg (by simpa using e)),ho,cond_true]) s0,ho,Bool.true_and,<-hw]
    by_cases hr:roomB (wEx e 0 s0)=true
    ·have hlb:=node_lb hv (fun g s=>fs_lb e.kids (e.k==21) g 0 s ho) s0;rw[<-hw] at hlb;have hrr:=(room_iff _).1 hr;have hs0:s0.t.length=0:=rfl;rw[show Nat.ble (0+1+e.kids.size) 2000=true from Nat.ble_eq_true_of_le (by omega),cond_true];simp only[absO,hr,if_true];rfl
    ·rw[show absO (wEx e 0 s0)=none from if_neg hr];cases hd:Nat.ble (0+1+e.kids.size) 2000 with
     | false=>rfl
     | true=>simp only[cond_true];rw[if_neg hr];rfl
   ·have ho2:okS e.kids (e.k==21)=false:=by simpa using ho
    rw[ho2,Bool.false_and,cond_false,node_none (fun g s hg=>by
     show oFs e.kids (e.k==21) g 0 (absO s)=_;rw[fs_abs e.kids (e.k==21) g 0 s (fun e=>hg (by simpa using e)),ho2,cond_false]) (fun hk=>by
      have hkid:kidB e.k e.n e.kids.len=true:=by simp only[Bool.and_eq_true] at hv;exact hv.2
      have hl:=leaf_len hkid hk;cases hke:e.kids using Fs.on with
      | nil=>rw[hke] at ho;exact ho (by simp only[okS])
      | cons _ _ _ _ _ _=>rw[hke] at hl;simp[Fs.len] at hl) s0]
    rfl
  ·rw[if_neg (show ¬(numB e.k e.n&&namB e.k e.nm&&kidB e.k e.n e.kids.len&&(isSetK e.k==false))=true from fun h=>hv (by rw[Bool.and_eq_true] at h;exact h.1)),if_neg hv];rfl
open Go.ChangeShapes Go.WideShapes Go.ChangeAt Go.RowKit
def WR (w:World)(o:Nat->Nat)(wb:Nat)(t:List UInt8)(oo qq:Int)(ok:Bool):Prop :=
 ∃v,Blk w o 1 wb (.cells #[v,.int .i64 oo,.int .i64 qq,.bool ok] 267 (0,0))/\Row w o 2 5 1 v t.length (byL t)
def WQ (w:World)(o:Nat->Nat)(wb:Nat):Ow->Prop
 | some s=>WR w o wb s.t (s.o:Nat) (s.q:Nat) true/\s.t.length<=2000/\s.o<=64/\s.q<=4
 | none=>∃t oo qq,WR w o wb t oo qq false/\t.length<=2000
theorem WR.step {I:Nat->Prop}{w w':World}{o o':Nat->Nat}{wb:Nat}{t:List UInt8}{oo qq:Int}{ok:Bool}(h:WR w o wb t oo qq ok)(s:Step I w o w' o')(h1:¬I 1)(h2:¬I 2):WR w' o' wb t oo qq ok:=by
 obtain⟨v,hb,hr⟩:=h;exact⟨v,hb.step s h1,hr.step s h2⟩
theorem WQ.step {I:Nat->Prop}{w w':World}{o o':Nat->Nat}{wb:Nat}{st:Ow}(h:WQ w o wb st)(s:Step I w o w' o')(h1:¬I 1)(h2:¬I 2):WQ w' o' wb st:=by
 match st,h with
 | some x,h=>exact⟨h.1.step s h1 h2,h.2⟩
 | none,⟨t,oo,qq,h,hl⟩=>exact⟨t,oo,qq,h.step s h1 h2,hl⟩
theorem WQ.raw {w:World}{o:Nat->Nat}{wb:Nat}{st:Ow}(h:WQ w o wb st):∃t oo qq ok,WR w o wb t oo qq ok/\t.length<=2000:=by
 match st,h with
 | some x,h=>exact⟨_,_,_,_,h.1,h.2.1⟩
 | none,⟨t,oo,qq,h,hl⟩=>exact⟨t,oo,qq,_,h,hl⟩
theorem WR.cells {w:World}{o:Nat->Nat}{wb:Nat}{t:List UInt8}{oo qq:Int}{ok:Bool}(h:WR w o wb t oo qq ok):w.cell? ⟨wb,1,none⟩=some (.int .i64 oo)/\w.cell? ⟨wb,2,none⟩=some (.int .i64 qq)/\w.cell? ⟨wb,3,none⟩=some (.bool ok)/\∀ j,w.frozen? ⟨wb,j,none⟩=false:=by
 obtain⟨v,hb,hr⟩:=h;obtain⟨c0,c1,c2,c3,cf⟩:=Blk.cells4 hb;exact⟨c1,c2,c3,cf⟩
theorem WR.set {w:World}{o:Nat->Nat}{wb:Nat}{t:List UInt8}{oo qq:Int}{ok:Bool}(h:WR w o wb t oo qq ok) :
  (∀ oo',WR (w.setCell ⟨wb,1,none⟩ (.int .i64 oo')) o wb t oo' qq ok)/\(∀ qq',WR (w.setCell ⟨wb,2,none⟩ (.int .i64 qq')) o wb t oo qq' ok)/\(∀ ok',WR (w.setCell ⟨wb,3,none⟩ (.bool ok')) o wb t oo qq ok'):=by
 obtain⟨v,hb,hr⟩:=h;have s:∀ (j:Nat) (u:Value),Step (fun k=>k=1) w o (w.setCell ⟨wb,j,none⟩ u) o:=fun j u=>setStep _ w o ⟨wb,j,none⟩ u hb.2;exact⟨fun oo'=>⟨v,hb.set 1 _,hr.step (s 1 _) (by decide)⟩,fun qq'=>⟨v,hb.set 2 _,hr.step (s 2 _) (by decide)⟩,fun ok'=>⟨v,hb.set 3 _,hr.step (s 3 _) (by decide)⟩⟩
theorem WR.setS {w:World}{o:Nat->Nat}{wb:Nat}{t:List UInt8}{oo qq:Int}{ok:Bool}(h:WR w o wb t oo qq ok)(j:Nat)(u:Value):Step I12 w o (w.setCell ⟨wb,j,none⟩ u) o:=by
 obtain⟨v,hb,hr⟩:=h;exact setStep _ w o ⟨wb,j,none⟩ u (.inl hb.2)
def PutP (w:World)(o:Nat->Nat)(wb:Nat)(t s:List UInt8)(oo qq:Int)(ok:Bool)(e:Ending)(w':World):Prop :=
 e=.returned (.tuple #[])/\∃o',Step I12 w o w' o'/\((2000<t.length+s.length/\WR w' o' wb t oo qq false)\/(t.length+s.length<=2000/\WR w' o' wb (t++s) oo qq ok))
theorem puts_raw {w:World}{o:Nat->Nat}{wb:Nat}{t:List UInt8}{oo qq:Int}{ok:Bool}(s:List UInt8)(h:WR w o wb t oo qq ok)(ht:t.length<=2000)(hs:s.length<=1000000) :
  Calls Tryz.prog 270 #[.pointer (some ⟨wb,0,none⟩),stv s] w (PutP w o wb t s oo qq ok):=by
 have hset:=h.set.2.2 false;have hst:=h.setS 3 (.bool false);obtain⟨v,hb,hr⟩:=h;obtain⟨c0,c1,c2,c3,cf⟩:=Blk.cells4 hb;obtain⟨ao,cap,rfl⟩:=hr.form;have hsz:=size_mk s;by_cases hl:2000<t.length+s.length
 ·have hlI:(2000:Int)<(t.length:Int)+(s.length:Int):=by omega
  have FIN:Hid (∀ wx,wx=w.setCell ⟨wb,3,none⟩ (.bool false)->PutP w o wb t s oo qq ok (.returned (.tuple #[])) wx):=fun wx e=>by subst e;exact⟨rfl,o,hst,.inl ⟨hl,hset⟩⟩
  clear hset hst hb hr;go_enter Tryz.func270,Tryz.ntmps270;go_wp2
  (try simp only[Exit.inBlock,Exit.then])
  refine bodyPost_ret (results_none rfl _ _ _) rfl ?_;exact FIN.out _ rfl
 ·have hlI:¬(2000:Int)<(t.length:Int)+(s.length:Int):=by omega
  obtain⟨ii,hii,hz0,hz1,hz2⟩:=info_parts infoU8;clear hset hst;go_enter Tryz.func270,Tryz.ntmps270;go_wp2_with (first|(at_builtin;refine wpList_append_str rfl (.tmp 20) (.tmp 21) 180 9 rfl 5 ii Tryz.underlying180 Tryz.underlying9 hii hz0 hz1 hz2 o 2 _ t.length (byL t) rfl hr ⟨s.toArray⟩ rfl ?c1 ?c2 ?_)|go_in)
  case c1=>unfold maxLen;omega
  case c2=>omega
  intro v' w' o' hr' hst;obtain⟨ao',cap',rfl⟩:=hr'.form;have hb':=hb.step hst (by decide);obtain⟨d0,d1,d2,d3,df⟩:=Blk.cells4 hb';have hb2:=hb'.set 0 (.slice ao' (t.length+s.length) cap');have s2:Step I12 w' o' (w'.setCell ⟨wb,0,none⟩ (.slice ao' (t.length+s.length) cap')) o':=setStep I12 w' o' ⟨wb,0,none⟩ (.slice ao' (t.length+s.length) cap') (.inl hb'.2);have s3:=(hst.mono (fun k hk=>(.inr hk:I12 k))).trans s2;have s4:Step (fun k=>k=1) w' o' (w'.setCell ⟨wb,0,none⟩ (.slice ao' (t.length+s.length) cap')) o':=setStep _ w' o' ⟨wb,0,none⟩ (.slice ao' (t.length+s.length) cap') hb'.2;have hr2:=hr'.step s4 (by decide);rw[byL_app] at hr2;have hr3:Row (w'.setCell ⟨wb,0,none⟩ (.slice ao' (t.length+s.length) cap')) o' 2 5 1 (.slice ao' (t.length+s.length) cap') (t++s).length (byL (t++s)):=by
   rw[List.length_append];exact hr2
  have FIN:Hid (∀ wx,wx=w'.setCell ⟨wb,0,none⟩ (.slice ao' (t.length+s.length) cap')->PutP w o wb t s oo qq ok (.returned (.tuple #[])) wx):=fun wx e=>by subst e;exact⟨rfl,o',s3,.inr ⟨by omega,_,hb2,hr3⟩⟩
  clear hr2 hst s2 s4 hr' hb hr c0 c1 c2 c3 cf hb2 hr3 s3 hb';go_wp2
  go_end0
  exact FIN.out _ rfl
def PostO (w:World)(o:Nat->Nat)(wb:Nat)(st:Ow)(e:Ending)(w':World):Prop:=e=.returned (.tuple #[])/\∃o',WQ w' o' wb st/\Step I12 w o w' o'
theorem puts_o {w:World}{o:Nat->Nat}{wb:Nat}{st:Ow}(s:List UInt8)(h:WQ w o wb st)(hs:s.length<=1000000) :
  Calls Tryz.prog 270 #[.pointer (some ⟨wb,0,none⟩),stv s] w (PostO w o wb (putO s st)):=by
 match st,h with
 | some x,h =>
  refine(puts_raw s h.1 h.2.1 hs).mono ?_;rintro e w' ⟨rfl,o',st',hh⟩;refine⟨rfl,o',?_,st'⟩;rcases hh with ⟨hl,hw⟩|⟨hl,hw⟩
  ·rw[show putO s (some x)=none by simp[putO,hl]];exact⟨_,_,_,hw,h.2.1⟩
  ·rw[show putO s (some x)=some ⟨x.t++s,x.o,x.q⟩ by simp[putO];omega];exact⟨hw,by simp only[List.length_append];exact hl,h.2.2⟩
 | none,⟨t,oo,qq,h,hl⟩ =>
  refine(puts_raw s h hl hs).mono ?_;rintro e w' ⟨rfl,o',st',hh⟩;refine⟨rfl,o',?_,st'⟩;rcases hh with ⟨hl2,hw⟩|⟨hl2,hw⟩
  ·exact⟨_,_,_,hw,hl⟩
  ·exact⟨_,_,_,hw,by simp only[List.length_append];exact hl2⟩
theorem WQ.ent {w:World}{o:Nat->Nat}{wb:Nat}{st:Ow}(h:WQ w o wb st):∃oo:Int,w.cell? ⟨wb,1,none⟩=some (.int .i64 oo)/\(∀ j,w.frozen? ⟨wb,j,none⟩=false)/\Step I12 w o (w.setCell ⟨wb,1,none⟩ (.int .i64 (wrap64 (oo+1)))) o /\
  ((64<wrap64 (oo+1)/\WQ ((w.setCell ⟨wb,1,none⟩ (.int .i64 (wrap64 (oo+1)))).setCell ⟨wb,3,none⟩ (.bool false)) o wb (entO st))\/(¬64<wrap64 (oo+1)/\WQ (w.setCell ⟨wb,1,none⟩ (.int .i64 (wrap64 (oo+1)))) o wb (entO st))):=by
 match st,h with
 | some x,h =>
  obtain⟨c1,c2,c3,cf⟩:=h.1.cells;refine⟨_,c1,cf,h.1.setS 1 _,?_⟩;have e:wrap64 ((x.o:Nat)+1)=((x.o+1:Nat):Int):=by have:=h.2.2.1;unfold wrap64;omega
  have hw:=h.1.set.1 (wrap64 ((x.o:Nat)+1));by_cases hl:64<x.o+1
  ·refine .inl ⟨by rw[e];omega,?_⟩;rw[show entO (some x)=none by simp[entO,hl]];exact⟨_,_,_,hw.set.2.2 false,h.2.1⟩
  ·refine .inr ⟨by rw[e];omega,?_⟩;rw[show entO (some x)=some ⟨x.t,x.o+1,x.q⟩ by simp[entO,hl]];rw[e] at hw ⊢;exact⟨hw,h.2.1,by show x.o+1<=64;omega,h.2.2.2⟩
 | none,⟨t,oo,qq,h,hl⟩ =>
  obtain⟨c1,c2,c3,cf⟩:=h.cells;refine⟨_,c1,cf,h.setS 1 _,?_⟩;have hw:=h.set.1 (wrap64 (oo+1));by_cases hl2:64<wrap64 (oo+1)
  ·exact .inl ⟨hl2,t,_,_,hw.set.2.2 false,hl⟩
  ·exact .inr ⟨hl2,t,_,_,hw,hl⟩
theorem WQ.qen {w:World}{o:Nat->Nat}{wb:Nat}{st:Ow}(h:WQ w o wb st):∃oo:Int,w.cell? ⟨wb,2,none⟩=some (.int .i64 oo)/\(∀ j,w.frozen? ⟨wb,j,none⟩=false)/\Step I12 w o (w.setCell ⟨wb,2,none⟩ (.int .i64 (wrap64 (oo+1)))) o /\
  ((4<wrap64 (oo+1)/\WQ ((w.setCell ⟨wb,2,none⟩ (.int .i64 (wrap64 (oo+1)))).setCell ⟨wb,3,none⟩ (.bool false)) o wb (qenO st))\/(¬4<wrap64 (oo+1)/\WQ (w.setCell ⟨wb,2,none⟩ (.int .i64 (wrap64 (oo+1)))) o wb (qenO st))):=by
 match st,h with
 | some x,h =>
  obtain⟨c1,c2,c3,cf⟩:=h.1.cells;refine⟨_,c2,cf,h.1.setS 2 _,?_⟩;have e:wrap64 ((x.q:Nat)+1)=((x.q+1:Nat):Int):=by have:=h.2.2.2;unfold wrap64;omega
  have hw:=h.1.set.2.1 (wrap64 ((x.q:Nat)+1));by_cases hl:4<x.q+1
  ·refine .inl ⟨by rw[e];omega,?_⟩;rw[show qenO (some x)=none by simp[qenO,hl]];exact⟨_,_,_,hw.set.2.2 false,h.2.1⟩
  ·refine .inr ⟨by rw[e];omega,?_⟩;rw[show qenO (some x)=some ⟨x.t,x.o,x.q+1⟩ by simp[qenO,hl]];rw[e] at hw ⊢;exact⟨hw,h.2.1,h.2.2.1,by show x.q+1<=4;omega⟩
 | none,⟨t,oo,qq,h,hl⟩ =>
  obtain⟨c1,c2,c3,cf⟩:=h.cells;refine⟨_,c2,cf,h.setS 2 _,?_⟩;have hw:=h.set.2.1 (wrap64 (qq+1));by_cases hl2:4<wrap64 (qq+1)
  ·exact .inl ⟨hl2,t,_,_,hw.set.2.2 false,hl⟩
  ·exact .inr ⟨hl2,t,_,_,hw,hl⟩
def Bal (st st':Ow):Prop:=∀ s',st'=some s'->∃s,st=some s/\s'.o=s.o/\s'.q=s.q
theorem WQ.lea {w:World}{o:Nat->Nat}{wb:Nat}{st:Ow}(h:WQ w o wb st)(hp:∀ s,st=some s->1<=s.o):∃oo:Int,w.cell? ⟨wb,1,none⟩=some (.int .i64 oo)/\(∀ j,w.frozen? ⟨wb,j,none⟩=false)/\Step I12 w o (w.setCell ⟨wb,1,none⟩ (.int .i64 (wrap64 (oo-1)))) o/\WQ (w.setCell ⟨wb,1,none⟩ (.int .i64 (wrap64 (oo-1)))) o wb (leaO st):=by
 match st,h with
 | some x,h =>
  obtain⟨c1,c2,c3,cf⟩:=h.1.cells;refine⟨_,c1,cf,h.1.setS 1 _,?_⟩;have h1:=hp x rfl;have e:wrap64 ((x.o:Nat)-1)=((x.o-1:Nat):Int):=by have:=h.2.2.1;unfold wrap64;omega
  rw[e];exact⟨h.1.set.1 _,h.2.1,by show x.o-1<=64;have:=h.2.2.1;omega,h.2.2.2⟩
 | none,⟨t,oo,qq,h,hl⟩ =>
  obtain⟨c1,c2,c3,cf⟩:=h.cells;exact⟨_,c1,cf,h.setS 1 _,t,_,_,h.set.1 _,hl⟩
theorem WQ.qle {w:World}{o:Nat->Nat}{wb:Nat}{st:Ow}(h:WQ w o wb st)(hp:∀ s,st=some s->1<=s.q):∃oo:Int,w.cell? ⟨wb,2,none⟩=some (.int .i64 oo)/\(∀ j,w.frozen? ⟨wb,j,none⟩=false)/\Step I12 w o (w.setCell ⟨wb,2,none⟩ (.int .i64 (wrap64 (oo-1)))) o/\WQ (w.setCell ⟨wb,2,none⟩ (.int .i64 (wrap64 (oo-1)))) o wb (qleO st):=by
 match st,h with
 | some x,h =>
  obtain⟨c1,c2,c3,cf⟩:=h.1.cells;refine⟨_,c2,cf,h.1.setS 2 _,?_⟩;have h1:=hp x rfl;have e:wrap64 ((x.q:Nat)-1)=((x.q-1:Nat):Int):=by have:=h.2.2.2;unfold wrap64;omega
  rw[e];exact⟨h.1.set.2.1 _,h.2.1,h.2.2.1,by show x.q-1<=4;have:=h.2.2.2;omega⟩
 | none,⟨t,oo,qq,h,hl⟩ =>
  obtain⟨c1,c2,c3,cf⟩:=h.cells;exact⟨_,c2,cf,h.setS 2 _,t,_,_,h.set.2.1 _,hl⟩
theorem WQ.end {w:World}{o:Nat->Nat}{wb:Nat}{st:Ow}(h:WQ w o wb st):w.cell? ⟨wb,3,none⟩=some (.bool st.isSome)/\(∀ j,w.frozen? ⟨wb,j,none⟩=false)/\Step I12 w o (w.setCell ⟨wb,3,none⟩ (.bool false)) o/\WQ (w.setCell ⟨wb,3,none⟩ (.bool false)) o wb none:=by
 match st,h with
 | some x,h =>
  obtain⟨c1,c2,c3,cf⟩:=h.1.cells;exact⟨c3,cf,h.1.setS 3 _,_,_,_,h.1.set.2.2 false,h.2.1⟩
 | none,⟨t,oo,qq,h,hl⟩ =>
  obtain⟨c1,c2,c3,cf⟩:=h.cells;exact⟨c3,cf,h.setS 3 _,_,_,_,h.set.2.2 false,hl⟩
theorem opens_o {w:World}{o:Nat->Nat}{wb:Nat}{st:Ow}(s:List UInt8)(h:WQ w o wb st)(hs:s.length<=1000000) :
  Calls Tryz.prog 272 #[.pointer (some ⟨wb,0,none⟩),stv s] w (PostO w o wb (putO s (entO st))):=by
 obtain⟨oo,c1,cf,S1,hh⟩:=h.ent;obtain⟨w1,hw1⟩:∃w1,w1=w.setCell ⟨wb,1,none⟩ (.int .i64 (wrap64 (oo+1))):=⟨_,rfl⟩
 have d1:w1.cell? ⟨wb,1,none⟩=some (.int .i64 (wrap64 (oo+1))):=by rw[hw1];exact World.cell?_setCell_same _ _ _ c1
 have df:∀ j,w1.frozen? ⟨wb,j,none⟩=false:=fun j=>by rw[hw1];exact(World.frozen?_setCell ..).trans (cf j)
 have d3:w1.cell? ⟨wb,3,none⟩=some (.bool st.isSome):=by rw[hw1];exact(World.cell?_setCell_other _ _ _ _ (by simp)).trans h.end.1
 rw[<-hw1] at hh S1;obtain⟨W,hW⟩:∃W,W=putO s (entO st):=⟨_,rfl⟩
 rw[<-hW];have HW:Hid (W=putO s (entO st)):=hW;clear hW h;rcases hh with ⟨hl,hq⟩|⟨hl,hq⟩
 ·have S2:Step I12 w o (w1.setCell ⟨wb,3,none⟩ (.bool false)) o:=by
   obtain⟨t,oo2,qq,ok,hr,_⟩:=hq.raw;refine S1.trans ?_;obtain⟨v,hb,_⟩:=hr;exact setStep _ w1 o ⟨wb,3,none⟩ _ (.inl hb.2)
  have c2:=puts_o s hq hs;rw[<-HW.out] at c2;clear hq S1 HW;go_enter Tryz.func272,Tryz.ntmps272;go_upto_region 1 with fail;rw[<-hw1];clear hw1;go_upto_region 3 with fail;generalize w1.setCell ⟨wb,3,none⟩ (.bool false)=w2 at *;clear d1 df d3 c1 cf;go_wp2_with fail;refine c2.mono ?_;rintro e w3 ⟨rfl,o3,h3,s3⟩;have S3:=S2.trans s3;clear c2 S2 s3;go_wp2
  go_end0
  exact⟨rfl,o3,h3,S3⟩
 ·have c2:=puts_o s hq hs;rw[<-HW.out] at c2;clear hq HW;go_enter Tryz.func272,Tryz.ntmps272;go_upto_region 1 with fail;rw[<-hw1];clear hw1 c1 cf;go_wp2_with fail;refine c2.mono ?_;rintro e w3 ⟨rfl,o3,h3,s3⟩;have S3:=S1.trans s3;clear c2 S1 s3;go_wp2
  go_end0
  exact⟨rfl,o3,h3,S3⟩
def grt (r:Nat):Bool:=decide (65<=r)&&decide (r<=90)
theorem dig_r (r:Nat)(w:World)(hr:r<256) :
  Calls Tryz.prog 120 #[.int .u8 (r:Nat)] w fun e w'=>e=.returned (.bool (dig r))/\w'=w:=by
 by_cases h1:48<=r
 ·have g1:(48:Int)<=(r:Int):=by omega
  by_cases h2:r<=57
  ·have g2:(r:Int)<=57:=by omega
   have e0:dig r=true:=by simp[dig,h1,h2]
   rw[e0];clear e0;go_enter Tryz.func120,Tryz.ntmps120;go_wp2;go_ret;exact⟨rfl,rfl⟩
  ·have g2:¬(r:Int)<=57:=by omega
   have g3:decide ((r:Int)<=57)=false:=decide_eq_false g2;have e0:dig r=false:=by simp[dig];omega
   rw[e0];clear e0;go_enter Tryz.func120,Tryz.ntmps120;go_wp2;go_ret;exact⟨rfl,rfl⟩
 ·have g1:¬(48:Int)<=(r:Int):=by omega
  have e0:dig r=false:=by simp[dig];omega
  rw[e0];clear e0;go_enter Tryz.func120,Tryz.ntmps120;go_wp2;go_ret;exact⟨rfl,rfl⟩
theorem sml_r (r:Nat)(w:World)(hr:r<256) :
  Calls Tryz.prog 123 #[.int .u8 (r:Nat)] w fun e w'=>e=.returned (.bool (sml r))/\w'=w:=by
 by_cases h1:97<=r
 ·have g1:(97:Int)<=(r:Int):=by omega
  by_cases h2:r<=122
  ·have g2:(r:Int)<=122:=by omega
   have e0:sml r=true:=by simp[sml,h1,h2]
   rw[e0];clear e0;go_enter Tryz.func123,Tryz.ntmps123;go_wp2;go_ret;exact⟨rfl,rfl⟩
  ·have g2:¬(r:Int)<=122:=by omega
   have g3:decide ((r:Int)<=122)=false:=decide_eq_false g2;have e0:sml r=false:=by simp[sml];omega
   rw[e0];clear e0;go_enter Tryz.func123,Tryz.ntmps123;go_wp2;go_ret;exact⟨rfl,rfl⟩
 ·have g1:¬(97:Int)<=(r:Int):=by omega
  have e0:sml r=false:=by simp[sml];omega
  rw[e0];clear e0;go_enter Tryz.func123,Tryz.ntmps123;go_wp2;go_ret;exact⟨rfl,rfl⟩
theorem grt_r (r:Nat)(w:World)(hr:r<256) :
  Calls Tryz.prog 124 #[.int .u8 (r:Nat)] w fun e w'=>e=.returned (.bool (grt r))/\w'=w:=by
 by_cases h1:65<=r
 ·have g1:(65:Int)<=(r:Int):=by omega
  by_cases h2:r<=90
  ·have g2:(r:Int)<=90:=by omega
   have e0:grt r=true:=by simp[grt,h1,h2]
   rw[e0];clear e0;go_enter Tryz.func124,Tryz.ntmps124;go_wp2;go_ret;exact⟨rfl,rfl⟩
  ·have g2:¬(r:Int)<=90:=by omega
   have g3:decide ((r:Int)<=90)=false:=decide_eq_false g2;have e0:grt r=false:=by simp[grt];omega
   rw[e0];clear e0;go_enter Tryz.func124,Tryz.ntmps124;go_wp2;go_ret;exact⟨rfl,rfl⟩
 ·have g1:¬(65:Int)<=(r:Int):=by omega
  have e0:grt r=false:=by simp[grt];omega
  rw[e0];clear e0;go_enter Tryz.func124,Tryz.ntmps124;go_wp2;go_ret;exact⟨rfl,rfl⟩
theorem blk_r (r:Nat)(w:World)(hr:r<256) :
  Calls Tryz.prog 62 #[.int .u8 (r:Nat)] w fun e w'=>e=.returned (.bool (blk r))/\w'=w:=by
 by_cases h0:r=32
 ·subst h0;have e0:blk 32=true:=by rfl
  rw[e0];clear e0;go_enter Tryz.func62,Tryz.ntmps62;go_wp2;go_ret;exact⟨rfl,rfl⟩
 by_cases h1:r=9
 ·subst h1;clear h0;have e0:blk 9=true:=by rfl
  rw[e0];clear e0;go_enter Tryz.func62,Tryz.ntmps62;go_wp2;go_ret;exact⟨rfl,rfl⟩
 by_cases h2:r=10
 ·subst h2;clear h0;clear h1;have e0:blk 10=true:=by rfl
  rw[e0];clear e0;go_enter Tryz.func62,Tryz.ntmps62;go_wp2;go_ret;exact⟨rfl,rfl⟩
 by_cases h3:r=13
 ·subst h3;clear h0;clear h1;clear h2;have e0:blk 13=true:=by rfl
  rw[e0];clear e0;go_enter Tryz.func62,Tryz.ntmps62;go_wp2;go_ret;exact⟨rfl,rfl⟩
 have e0:blk r=false:=by simp[blk];omega
 have g0:¬(r:Int)=32:=by omega
 have g1:¬(r:Int)=9:=by omega
 have g2:¬(r:Int)=10:=by omega
 have g3:¬(r:Int)=13:=by omega
 clear h0 h1 h2 h3;rw[e0];clear e0;go_enter Tryz.func62,Tryz.ntmps62;go_wp2;go_ret;refine⟨?_,rfl⟩;simp[g0,g1,g2,g3]
abbrev wordsV:Array Value:=#[.string ⟨#[97,108,108]⟩,.string ⟨#[97,110,100]⟩,.string ⟨#[97,114,111,117,110,100]⟩,.string ⟨#[98,108,111,99,107]⟩,.string ⟨#[98,111,116,116,108,101,110,101,99,107]⟩,.string ⟨#[99,111,110,110,101,99,116,101,100]⟩,.string ⟨#[99,111,117,110,116]⟩,.string ⟨#[100,101,103,114,101,101]⟩,.string ⟨#[101,108,115,101]⟩,.string ⟨#[102,97,108,115,101]⟩,.string ⟨#[105,102]⟩,.string ⟨#[105,110]⟩,.string ⟨#[108,101,97,115,116]⟩,.string ⟨#[109,97,120]⟩,.string ⟨#[109,105,110]⟩,.string ⟨#[109,111,115,116]⟩,.string ⟨#[110,111,116]⟩,.string ⟨#[111,114]⟩,.string ⟨#[114,101,112]⟩,.string ⟨#[115,105,122,101]⟩,.string ⟨#[115,111,109,101]⟩,.string ⟨#[115,117,109]⟩,.string ⟨#[116,104,101,110]⟩,.string ⟨#[116,111,116,97,108]⟩,.string ⟨#[116,114,117,101]⟩,.string ⟨#[118,97,108,117,101]⟩,.string ⟨#[118,101,114,116,105,99,101,115]⟩]
theorem wordsV_at (k:Nat)(hk:k<27):wordsV[k]?=some (.string (wd k)):=by
 match k,hk with
 | 0,_=>rfl
 | 1,_=>rfl
 | 2,_=>rfl
 | 3,_=>rfl
 | 4,_=>rfl
 | 5,_=>rfl
 | 6,_=>rfl
 | 7,_=>rfl
 | 8,_=>rfl
 | 9,_=>rfl
 | 10,_=>rfl
 | 11,_=>rfl
 | 12,_=>rfl
 | 13,_=>rfl
 | 14,_=>rfl
 | 15,_=>rfl
 | 16,_=>rfl
 | 17,_=>rfl
 | 18,_=>rfl
 | 19,_=>rfl
 | 20,_=>rfl
 | 21,_=>rfl
 | 22,_=>rfl
 | 23,_=>rfl
 | 24,_=>rfl
 | 25,_=>rfl
 | 26,_=>rfl
 | n+27,h=>omega
theorem word_r (s:ByteArray)(w:World)(hs:s.size<=maxLen) :
  Calls Tryz.prog 125 #[.string s] w fun e w'=>e=.returned (.bool (wordB s.data.toList))/\Below w.heap.size w w':=by
 obtain⟨w1,hw1⟩:∃w1,w1=w.alloc (.cells wordsV 9):=⟨_,rfl⟩
 have hce:∀ k,k<27->w1.cell? ⟨w.heap.size,k,none⟩=some (.string (wd k)):=fun k hk=>by
  rw[hw1,cell_of_row _ _ _ _ _ _ (heap_alloc_new w _),wordsV_at k hk]
 have hbe:Below w.heap.size w w1:=by rw[hw1];exact b1 _ _
 have HW:Hid (w1=w.alloc (.cells wordsV 9)):=hw1;have HC:=Lib.hid hce;clear hw1 hce;go_enter Tryz.func125,Tryz.ntmps125;go_upto_region 2 with fail;rw[show w.alloc _=w1 from HW.out.symm];clear HW;go_wp2_with fail;go_loopw [4] (fun v wr=>∃k:Nat,k<=27/\v=.int .i64 (k:Nat)/\(∀ j,j<k->s≠wd j)/\wr=w1) (fun v _=>27-(intOf v).toNat)
 case atStart=>exact⟨0,by omega,by go_num,fun j hj=>by omega,rfl⟩
 case round =>
  obtain⟨k,hk,rfl,hin,rfl⟩:=hrel;by_cases hlt:k<27
  ·have ix:=HC.out k hlt;have hkI:(k:Int)<27:=by omega
   by_cases he:s=wd k
   ·have fin:wordB s.data.toList=true:=wordB_yes k hlt (by rw[he];rfl);rw[<-he] at ix;clear he HC hin;go_wp2;go_ret;exact⟨by rw[fin];rfl,hbe⟩
   ·have hin':∀ j,j<k+1->s≠wd j:=fun j hj=>by
     by_cases e:j=k
     ·subst e;exact he
     ·exact hin j (by omega)
    have heb:((wd k).toList==s.toList)=false:=str_ne (fun e=>he e.symm);generalize wd k=t at ix he heb;clear HC hin;go_wp2;go_roundw
    case rel=>(try ((repeat apply Exists.intro);refine⟨?_,rfl⟩));exact⟨k+1,by omega,by go_num,hin',by trivial⟩
    case measure=>simp[intOf];omega
  ·obtain rfl:k=27:=by omega
   clear HC;have fin:wordB s.data.toList=false:=wordB_no fun j hj e=>hin j hj (bytes_eq.1 (by rw[e];rfl));go_wp2;go_ret;exact⟨by rw[fin];rfl,hbe⟩
theorem name_r (s:ByteArray)(w:World)(hs:s.size<=maxLen) :
  Calls Tryz.prog 126 #[.string s] w fun e w'=>e=.returned (.bool (nameB s.data.toList))/\Below w.heap.size w w':=by
 have hs':=hs;unfold maxLen at hs;have HL:Hid (s.data.toList.length=s.size):=data_len s;by_cases h0:s.size<1
 ·have fin:nameB s.data.toList=false:=by rw[<-Bool.not_eq_true,nameB_iff];rintro ⟨h,_⟩;have:=HL.out;omega
  rw[fin];clear fin;have h0I:(s.size:Int)<1:=by omega
  go_enter Tryz.func126,Tryz.ntmps126;go_wp2;go_ret;exact⟨rfl,b0 _⟩
 ·have h0I:¬(s.size:Int)<1:=by omega
  by_cases h12:12<s.size
  ·have fin:nameB s.data.toList=false:=by rw[<-Bool.not_eq_true,nameB_iff];rintro ⟨_,h,_⟩;have:=HL.out;omega
   rw[fin];clear fin;have h12I:(12:Int)<(s.size:Int):=by omega
   go_enter Tryz.func126,Tryz.ntmps126;go_wp2;go_ret;exact⟨rfl,b0 _⟩
  ·have h12I:¬(12:Int)<(s.size:Int):=by omega
   have hpos:0<s.size:=by omega
   have hpl:0<s.data.toList.length:=by have:=HL.out;omega
   have hb0:(s[0]'hpos).toNat<256:=UInt8.toNat_lt _;cases h1:sml (s[0]'hpos).toNat
   ·have fin:nameB s.data.toList=false:=nameB_not 0 hpl (by rw[data_get s 0 hpos hpl];simp[nmc,h1]);rw[fin];clear fin;go_enter Tryz.func126,Tryz.ntmps126;go_wp2_with (go_at_call 123;refine(sml_r _ _ hb0).mono ?_;rw[h1];rintro e w1 ⟨rfl,rfl⟩);go_ret;exact⟨rfl,b0 _⟩
   ·have H0:Hid (nmc 0 s[0]=true):=by show _=_;simp[nmc,h1]
    go_enter Tryz.func126,Tryz.ntmps126;go_wp2_with (go_at_call 123;refine(sml_r _ _ hb0).mono ?_;rw[h1];rintro e w1 ⟨rfl,rfl⟩);go_loopw [3] (fun v wr=>∃k:Nat,v=.int .i64 (k:Nat)/\k<=s.size/\(∀ j (h:j<s.data.toList.length),j<k->nmc j s.data.toList[j]=true)/\wr=w1) (fun v _=>s.size-(intOf v).toNat)
    case atStart=>exact⟨0,by go_num,by omega,fun j _ h=>by omega,rfl⟩
    case round =>
     obtain⟨k,rfl,hk,hin,rfl⟩:=hrel;by_cases hlt:k<s.size
     ·have hkl:k<s.data.toList.length:=by have:=HL.out;omega
      have hkI:(k:Int)<(s.size:Int):=by omega
      have hbk:(s[k]'hlt).toNat<256:=UInt8.toNat_lt _;have hex:nmc k s.data.toList[k]=nmc k s[k]:=by rw[data_get s k hlt hkl]
      have hcase:nmc k s[k]=(sml (s[k]).toNat||dig (s[k]).toNat||(s[k]).toNat==95):=by
       by_cases hk0:k=0
       ·subst hk0;rw[H0.out,h1];rfl
       ·have hb:(k != 0)=true:=by simpa using hk0
        simp[nmc,hb,Bool.or_assoc]
      have hgo:(sml (s[k]).toNat||dig (s[k]).toNat||(s[k]).toNat==95)=true->∀ j (h:j<s.data.toList.length),j<k+1->nmc j s.data.toList[j]=true:=fun hx j h hj=>by
       by_cases e:j=k
       ·subst e;rw[hex,hcase];exact hx
       ·exact hin j h (by omega)
      have hno:(sml (s[k]).toNat||dig (s[k]).toNat||(s[k]).toNat==95)=false->nameB s.data.toList=false:=fun hx=>nameB_not k hkl (by rw[hex,hcase];exact hx);have HG:Hid (((sml (s[k]).toNat||dig (s[k]).toNat||(s[k]).toNat==95)=true->∀ j (h:j<s.data.toList.length),j<k+1->nmc j s.data.toList[j]=true)/\((sml (s[k]).toNat||dig (s[k]).toNat||(s[k]).toNat==95)=false->nameB s.data.toList=false)):=⟨hgo,hno⟩
      clear hex hcase hgo hno hin;cases h2:sml (s[k]'hlt).toNat
      ·cases h3:dig (s[k]'hlt).toNat
       ·by_cases h4:(s[k]'hlt).toNat=95
        ·have RL:=HG.out.1 (by simp[h4]);have H4:=Lib.hid h4;clear HG h4;go_wp2_with (first|(go_at_call 123;refine(sml_r _ _ hbk).mono ?_;rw[h2];rintro e w1 ⟨rfl,rfl⟩)|(go_at_call 120;refine(dig_r _ _ hbk).mono ?_;rw[h3];rintro e w1 ⟨rfl,rfl⟩;have h4:=H4.out;clear h2 h3 hbk));go_roundw
         case rel=>(try ((repeat apply Exists.intro);refine⟨?_,rfl⟩));exact⟨k+1,by go_num,by omega,RL,by trivial⟩
         case measure=>simp[intOf];omega
        ·have fin:nameB s.data.toList=false:=HG.out.2 (by simp[h2,h3,h4]);have h4I:¬((s[k]'hlt).toNat:Int)=95:=by omega
         have h4b:(((s[k]'hlt).toNat:Int)==95)=false:=by simpa using h4I
         clear HG h4;go_wp2_with (first|(go_at_call 123;refine(sml_r _ _ hbk).mono ?_;rw[h2];rintro e w1 ⟨rfl,rfl⟩)|(go_at_call 120;refine(dig_r _ _ hbk).mono ?_;rw[h3];rintro e w1 ⟨rfl,rfl⟩));go_ret;exact⟨by rw[fin];rfl,b0 _⟩
       ·have RL:=HG.out.1 (by simp[h3]);clear HG;go_wp2_with (first|(go_at_call 123;refine(sml_r _ _ hbk).mono ?_;rw[h2];rintro e w1 ⟨rfl,rfl⟩)|(go_at_call 120;refine(dig_r _ _ hbk).mono ?_;rw[h3];rintro e w1 ⟨rfl,rfl⟩));go_roundw
        case rel=>(try ((repeat apply Exists.intro);refine⟨?_,rfl⟩));exact⟨k+1,by go_num,by omega,RL,by trivial⟩
        case measure=>simp[intOf];omega
      ·have RL:=HG.out.1 (by simp[h2]);clear HG;go_wp2_with (go_at_call 123;refine(sml_r _ _ hbk).mono ?_;rw[h2];rintro e w1 ⟨rfl,rfl⟩);go_roundw
       case rel=>(try ((repeat apply Exists.intro);refine⟨?_,rfl⟩));exact⟨k+1,by go_num,by omega,RL,by trivial⟩
       case measure=>simp[intOf];omega
     ·obtain rfl:k=s.size:=by omega
      have fin:nameB s.data.toList=!wordB s.data.toList:=by
       have hl:=HL.out;cases hw:wordB s.data.toList
       ·exact(nameB_iff _).2 ⟨by omega,by omega,fun j h=>hin j h (by omega),hw⟩
       ·show _=false;rw[<-Bool.not_eq_true,nameB_iff];rintro ⟨_,_,_,h⟩;rw[hw] at h;cases h
      clear hin;go_wp2_with (go_at_call 125;refine(word_r s _ hs').mono ?_;rintro e w1 ⟨rfl,hbx⟩);go_ret;exact⟨by rw[fin];rfl,hbx⟩
end Go.Proofs.YtbjdkekhnajafaaGreatDoor

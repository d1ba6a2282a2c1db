import Derived.Test.YtbjdkekhnajafaaGreatDoorRdqF
set_option maxRecDepth 100000
set_option maxHeartbeats 8000000
namespace Go.Proofs.YtbjdkekhnajafaaGreatDoor
open Go.ChangeShapes Go.WideShapes Go.ChangeAt Go.RowKit
set_option linter.unusedVariables false
set_option linter.unusedSimpArgs false
theorem digit_of (k:Nat)(hk:k<10):((UInt8.ofNat (48+k)).toNat:Int)=48+(k:Int):=by
 rw[UInt8.toNat_ofNat'];omega
theorem text_dig (w:World)(b k:Nat)(hk:k<10)(hb:w.heap[b]?=some (.cells #[.int .u8 (48+(k:Int))] 5 (0,0))) :
  (convert 180 9 (.slice (some ⟨b,0,none⟩) 1 1)).run Tryz.prog w=.ok (.string ⟨#[UInt8.ofNat (48+k)]⟩) w :=
 run_convert_bytes_back _ 180 9 5 ⟨b,0,none⟩ 1 [UInt8.ofNat (48+k)] Tryz.underlying180 Tryz.underlying5 Tryz.underlying9
  (fun j hj=>by
   have e:j=0:=by simp at hj;omega
   subst e
   have:=digit_of k hk
   simp only[List.getElem_cons_zero];rw[this];show w.cell? ⟨b,0+0,none⟩=_;rw[cell_of_row w b _ _ _ (0,0) hb];rfl)
theorem cat_dig (l:List UInt8)(c:UInt8):(⟨l.toArray⟩:ByteArray)++⟨#[c]⟩=⟨(l++[c]).toArray⟩:=by
 apply ByteArray.ext;simp
def DigOk (n:Nat):Prop:=∀ w:World,Calls Tryz.prog 271 #[.int .i64 (n:Nat)] w fun e w'=>e=.returned (stv (Go.Lib.decDigits n))/\Below w.heap.size w w'
theorem dig_small (n:Nat)(h:n<10):DigOk n:=by
 intro w;rw[Go.Lib.decDigits,dif_pos h];have B0:Below w.heap.size w (w.alloc (.cells #[.int .u8 (48+(n:Int))] 5)):=(Below.refl _ w).alloc (Nat.le_refl _) _;have F0:=text_dig (w.alloc (.cells #[.int .u8 (48+(n:Int))] 5)) w.heap.size n h (heap_alloc_new w _);obtain⟨c,hc⟩:∃c,c=UInt8.ofNat (48+n):=⟨_,rfl⟩
 rw[<-hc] at F0 ⊢;clear hc;have hI:(n:Int)<10:=by omega
 have hw:IntKind.u8.wrap (48+(n:Int))=48+(n:Int):=by show (48+(n:Int)) % 256=_;omega
 go_enter Tryz.func271,Tryz.ntmps271;go_wp2;go_ret;exact⟨rfl,B0⟩
theorem dig_big (n:Nat)(h:¬n<10)(hn:n<=9223372036854775807)(IH:DigOk (n / 10)):DigOk n:=by
 intro w;rw[Go.Lib.decDigits,dif_neg h];have hm:n % 10<10:=Nat.mod_lt _ (by omega);have HT:Hid (∀ (wx:World) (b:Nat),wx.heap[b]?=some (.cells #[.int .u8 (48+((n % 10:Nat):Int))] 5 (0,0))->(convert 180 9 (.slice (some ⟨b,0,none⟩) 1 1)).run Tryz.prog wx=.ok (.string ⟨#[UInt8.ofNat (48+n % 10)]⟩) wx):=fun wx b hb=>text_dig wx b (n % 10) hm hb;have IH:=fun wx=>IH wx;have e1:IntKind.i64.wrap (Int.tdiv (n:Int) 10)=((n / 10:Nat):Int):=by rw[IntKind.wrap_i64,show Int.tdiv (n:Int) 10=((n / 10:Nat):Int) from rfl];omega
 have e2:IntKind.i64.wrap (Int.tmod (n:Int) 10)=((n % 10:Nat):Int):=by rw[IntKind.wrap_i64,show Int.tmod (n:Int) 10=((n % 10:Nat):Int) from rfl];omega
 have e3:Int.tdiv (n:Int) 10=((n / 10:Nat):Int):=rfl;have e4:Int.tmod (n:Int) 10=((n % 10:Nat):Int):=rfl;obtain⟨q,hq⟩:∃q,q=n / 10:=⟨_,rfl⟩
 obtain⟨r,hr⟩:∃r,r=n % 10:=⟨_,rfl⟩
 rw[<-hq] at IH e1 e3 ⊢;rw[<-hr] at HT e2 e4 hm ⊢;obtain⟨c,hc⟩:∃c,c=UInt8.ofNat (48+r):=⟨_,rfl⟩
 rw[<-hc] at HT ⊢;obtain⟨L,hL⟩:∃L,L=Go.Lib.decDigits q:=⟨_,rfl⟩
 have hl9:L.length<=21:=by
  have h9:=Go.Lib.itoa_length_le (q:Nat) (by omega) (by omega);unfold Go.Lib.itoa at h9;rw[if_neg (by omega),Int.toNat_natCast,<-hL] at h9;exact h9
 have hsm:=size_mk L;rw[<-hL] at IH ⊢;have HN:Hid (n<=9223372036854775807):=hn;have hq1:IntKind.i64.wrap (q:Int)=(q:Int):=by rw[IntKind.wrap_i64];omega
 have hr1:IntKind.i64.wrap (48+(r:Int))=48+(r:Int):=by rw[IntKind.wrap_i64];omega
 clear hq hr hc hL e1 e2;have hI:¬(n:Int)<10:=by omega
 have hw:IntKind.u8.wrap (48+(r:Int))=48+(r:Int):=by show (48+(r:Int)) % 256=_;omega
 have F1:=HT.out ((w.alloc (.cells #[.int .u8 (48+(r:Int))] 5)).drew) w.heap.size (heap_alloc_new w _);have B0:Below w.heap.size w (w.alloc (.cells #[.int .u8 (48+(r:Int))] 5)).drew:=((Below.refl _ w).alloc (Nat.le_refl _) _).drew;have hs0:w.heap.size<(w.alloc (.cells #[.int .u8 (48+(r:Int))] 5)).drew.heap.size:=by show w.heap.size<(w.alloc _).heap.size;simp
 have hbl:((w.alloc (.cells #[.int .u8 (48+(r:Int))] 5)).drew).heap[w.heap.size]?=some (.cells #[.int .u8 (48+(r:Int))] 5 (0,0)):=heap_alloc_new w _;have Hbl:=Lib.hid hbl;clear hbl;have HC:Hid (((⟨L.toArray⟩:ByteArray)++⟨#[c]⟩)=⟨(L++[c]).toArray⟩):=cat_dig L c;go_enter Tryz.func271,Tryz.ntmps271;go_upto_region 3 with fail;go_region_with ((first|(go_at_call 271;refine(IH w.drew).mono ?_;rintro e w1 ⟨rfl,b1⟩;have B1:Below w.heap.size w w1:=(Below.refl _ w).drew.trans b1;have B2:Below w.heap.size w (w1.alloc (.cells #[.int .u8 (48+(r:Int))] 5)):=B1.alloc B1.size _;have F2:=HT.out (w1.alloc (.cells #[.int .u8 (48+(r:Int))] 5)) w1.heap.size (heap_alloc_new w1 _))|(go_at_call 271;refine(IH ((w.alloc (.cells #[.int .u8 (48+(r:Int))] 5)).drew)).mono ?_;rintro e w1 ⟨rfl,b1⟩;have B2:Below w.heap.size w w1:=B0.trans (b1.mono B0.size);have F2:=HT.out w1 w.heap.size ((b1.block _ hs0).trans Hbl.out))))
 all_goals
  rw[HC.out];go_wp2;go_ret;exact⟨rfl,B2⟩
theorem dig_all:∀ (m n:Nat),n<=m->n<=9223372036854775807->DigOk n
 | 0,n,hm,hn=>dig_small n (by omega)
 | m+1,n,hm,hn=>by
  by_cases h:n<10
  ·exact dig_small n h
  ·exact dig_big n h hn (dig_all m (n / 10) (by omega) (by omega))
theorem digits_q (n:Int)(h0:0<=n)(h1:n<=9223372036854775807)(w:World):Calls Tryz.prog 271 #[.int .i64 n] w fun e w'=>e=.returned (stv (Go.Lib.itoa n))/\Below w.heap.size w w':=by
 have h:=dig_all n.toNat n.toNat (Nat.le_refl _) (by omega) w;rw[show ((n.toNat:Nat):Int)=n by omega] at h;have e:Go.Lib.itoa n=Go.Lib.decDigits n.toNat:=by unfold Go.Lib.itoa;rw[if_neg (by omega)]
 rw[e];exact h
theorem sign_at (x:List UInt8 × Nat × Nat × Nat × Nat)(hx:x ∈ opsL):(x.2.2.1=1\/x.2.2.1=2\/x.2.2.1=4\/x.2.2.1=5\/x.2.2.1=6)/\∃i,i<4/\(sgW x.2.2.1)[i]?=some x.1/\(sgK x.2.2.1)[i]?=some x.2.1/\(∀ j,j<i->(sgK x.2.2.1)[j]?≠some x.2.1)/\∀ r,r<x.2.2.1->r≠3->r≠0->∀ j,j<4->(sgK r)[j]?≠some x.2.1:=by
 simp only[opsL,List.mem_cons,List.not_mem_nil,or_false] at hx;rcases hx with rfl|rfl|rfl|rfl|rfl|rfl|rfl|rfl|rfl|rfl|rfl
 ·exact⟨by decide,0,by decide,rfl,rfl,by decide,by decide⟩
 ·exact⟨by decide,0,by decide,rfl,rfl,by decide,by decide⟩
 ·exact⟨by decide,0,by decide,rfl,rfl,by decide,by decide⟩
 ·exact⟨by decide,1,by decide,rfl,rfl,by decide,by decide⟩
 ·exact⟨by decide,3,by decide,rfl,rfl,by decide,by decide⟩
 ·exact⟨by decide,2,by decide,rfl,rfl,by decide,by decide⟩
 ·exact⟨by decide,0,by decide,rfl,rfl,by decide,by decide⟩
 ·exact⟨by decide,1,by decide,rfl,rfl,by decide,by decide⟩
 ·exact⟨by decide,0,by decide,rfl,rfl,by decide,by decide⟩
 ·exact⟨by decide,1,by decide,rfl,rfl,by decide,by decide⟩
 ·exact⟨by decide,2,by decide,rfl,rfl,by decide,by decide⟩
theorem sg_len (r:Nat):(sgK r).length=(sgW r).length/\(sgW r).length<=4:=by
 unfold sgK sgW;split<;>exact⟨rfl,by decide⟩
theorem sign_q {k:Int}{x:List UInt8 × Nat × Nat × Nat × Nat}(h:opOf k=some x)(w:World):Calls Tryz.prog 275 #[.int .i64 k] w fun e w'=>e=.returned (stv x.1)/\Below w.heap.size w w':=by
 have hm:=List.mem_of_find?_eq_some h;have hk:((x.2.1:Nat):Int)=k:=by have:=List.find?_some h;simpa using this
 obtain⟨hr,ix,hix,hw,hkk,hj,hrow⟩:=sign_at x hm;obtain⟨x1,x2,r,x4,x5⟩:=x;simp only at hk hr hw hkk hj hrow ⊢;subst hk;have HW:Hid ((sgW r)[ix]?=some x1):=hw;have HK:Hid ((sgK r)[ix]?=some x2):=hkk;have HJ:Hid (∀ j,j<ix->(sgK r)[j]?≠some x2):=hj;have HR:Hid (∀ r',r'<r->r'≠3->r'≠0->∀ j,j<4->(sgK r')[j]?≠some x2):=hrow;have hr7:r<7:=by omega
 have HR3:Hid (r≠3):=by show r≠3;omega
 have B0:=Below.refl w.heap.size w;clear hw hkk hj hrow hm h;go_enter Tryz.func275,Tryz.ntmps275;go_wp2_with fail;go_loopw [3] (fun v wr=>∃row:Nat,v=.int .i64 (row:Nat)/\1<=row/\row<=r/\Below w.heap.size w wr) (fun v _=>8-(intOf v).toNat)
 case atStart=>exact⟨1,by go_num,by omega,by omega,B0⟩
 case round =>
  clear B0;obtain⟨row,rfl,h1,hle,B1⟩:=hrel;have hrI:(row:Int)<7:=by omega
  by_cases h3:row=3
  ·subst h3;have hlt:3<r:=by have:=HR3.out;omega
   go_wp2;go_roundw
   case rel=>(try ((repeat apply Exists.intro);refine⟨?_,rfl⟩));exact⟨4,by go_num,by omega,by omega,B1⟩
   case measure=>simp[intOf]
  ·have b3:((row:Int)==3)=false:=by simp;omega
   obtain⟨n,hn⟩:∃n,n=(sgW row).length:=⟨_,rfl⟩
   have c:=signs_s wr row n (by omega) hn;have HN:Hid (n=(sgW row).length):=hn;have hn4:n<=4:=by rw[hn];exact(sg_len row).2
   have H3:Hid (row≠3):=h3;clear hn h3 hr;go_wp2_with fail;refine c.mono ?_;rintro e w2 ⟨g1,g2,rfl,sg⟩;have B2:Below w.heap.size w w2:=B1.trans (sg.1.1.mono B1.size);have SG:Hid (g1<w2.heap.size/\g2<w2.heap.size/\(∀ j s,(sgW row)[j]?=some s->w2.cell? ⟨g1,j,none⟩=some (stv s))/\∀ j k,(sgK row)[j]?=some k->w2.cell? ⟨g2,j,none⟩=some (.int .i64 (k:Nat))):=⟨sg.1.2.2.1,sg.2.2.1,sg.1.2.2.2,sg.2.2.2⟩
   clear c sg B1;go_wp2_with fail;go_loopw [6] (fun v wr=>∃i:Nat,v=.int .i64 (i:Nat)/\i<=n/\Hid (row=r->i<=ix)/\wr=w2) (fun v _=>n-(intOf v).toNat)
   case atStart=>exact⟨0,by go_num,by omega,fun _=>Nat.zero_le _,rfl⟩
   case round =>
    obtain⟨i,rfl,hin,HI,rfl⟩:=hrel;by_cases hlt:i<n
    ·have hiI:(i:Int)<(n:Int):=by omega
     have hl:=sg_len row;obtain⟨kk,hkk⟩:∃kk,(sgK row)[i]?=some kk:=⟨_,List.getElem?_eq_getElem (by rw[hl.1,<-HN.out];exact hlt)⟩
     obtain⟨s,hs⟩:∃s,(sgW row)[i]?=some s:=⟨_,List.getElem?_eq_getElem (by rw[<-HN.out];exact hlt)⟩
     have ck:=SG.out.2.2.2 i kk hkk;have cs:=SG.out.2.2.1 i s hs;by_cases hy:row=r/\i=ix
     ·have e1:kk=x2:=by
       have:=HK.out
       rw[<-hy.1,<-hy.2,hkk] at this;injection this
      have e2:s=x1:=by
       have:=HW.out
       rw[<-hy.1,<-hy.2,hs] at this;injection this
      subst e1 e2;clear hy hkk hs hl;go_wp2;go_ret;exact⟨rfl,B2⟩
     ·have hne:kk≠x2:=fun e=>by
       rw[e] at hkk;by_cases hrr:row=r
       ·have hi2:i<ix:=by
         have:=HI.out hrr
         have:i≠ix:=fun e=>hy ⟨hrr,e⟩
         omega
        exact HJ.out i hi2 (by rw[<-hrr];exact hkk)
       ·exact HR.out row (by omega) H3.out (by omega) i (by omega) hkk
      have bne2:((kk:Int)==(x2:Int))=false:=by simp;omega
      have HI2:Hid (row=r->i+1<=ix):=fun e=>by
       have:=HI.out e
       have:i≠ix:=fun e2=>hy ⟨e,e2⟩
       omega
      clear hy hkk hs hl hne HI;go_wp2;go_roundw
      case rel=>(try ((repeat apply Exists.intro);refine⟨?_,rfl⟩));exact⟨i+1,by go_num,by omega,HI2,by trivial⟩
      case measure=>simp[intOf];omega
    ·obtain rfl:i=n:=by omega
     have hlt2:row<r:=by
      by_cases e:row=r
      ·have h5:=HI.out e;have h6:ix<(sgW r).length:=(List.getElem?_eq_some_iff.1 HW.out).1;have h7:=HN.out;rw[e] at h7;omega
      ·omega
     clear HI;go_wp2;go_roundw
     case rel=>(try ((repeat apply Exists.intro);refine⟨?_,rfl⟩));exact⟨row+1,by go_num,by omega,by omega,B2⟩
     case measure=>simp[intOf];omega
abbrev bxX (e:Ex)(ao:Option Addr)(cap:Nat):Obj:=.cells #[.int .i64 e.k,.int .i64 e.n,stv e.nm,.slice ao e.kids.len cap,.int .i64 e.a] 25
def PartQ (N:Nat):Prop:=∀ (e:Ex) (ao:Option Addr) (cap:Nat) (set:Bool) (wb:Nat) (st:Ow) (w:World) (o:Nat->Nat),e.kids.size<N->e.fit->Sl w (L0 o) e.kids ao->WQ w o wb st ->
 Calls Tryz.prog 227 #[.pointer (some ⟨wb,0,none⟩),exV e ao cap,.bool set] w (PostO w o wb (oEx e set st))
theorem WQ.stp0 {w w':World}{o o':Nat->Nat}{wb:Nat}{st:Ow}(h:WQ w o wb st)(s:Step (fun _=>False) w o w' o'):WQ w' o' wb st:=h.step s id id
theorem Sl.stp0 {w w':World}{o o':Nat->Nat}{f:Fs}{ao:Option Addr}(h:Sl w (L0 o) f ao)(s:Step (fun _=>False) w o w' o'):Sl w' (L0 o') f ao:=h.mono (fun i hp hl=>s.block i hl id) s.size (fun i hp hl=>(s.lab i hl).trans hp)
theorem drewStep (w:World)(o:Nat->Nat)(n:Nat):Step (fun _=>False) w o (w.drewN n) o:=(Step.refl _ w o).drewN n
theorem Step.i12 {w w':World}{o o':Nat->Nat}(s:Step (fun _=>False) w o w' o'):Step I12 w o w' o':=s.mono fun _ h=>h.elim
theorem ent_pos {st s:Ow}(h:Bal (entO st) s):∀ x,s=some x->1<=x.o:=fun x hx=>by
 obtain⟨y,hy,h1,_⟩:=h x hx
 match st,hy with
 | some z,hy =>
  simp only[entO] at hy;split at hy
  ·cases hy
  ·injection hy with hy
   subst hy;show 1<=x.o;rw[h1];show 1<=z.o+1;omega
theorem Bal.refl (st:Ow):Bal st st:=fun s h=>⟨s,h,rfl,rfl⟩
theorem Bal.trans {a b c:Ow}(h:Bal a b)(k:Bal b c):Bal a c:=fun s hs=>by
 obtain⟨y,hy,h1,h2⟩:=k s hs;obtain⟨z,hz,h3,h4⟩:=h y hy;exact⟨z,hz,h1.trans h3,h2.trans h4⟩
theorem Bal.put {a b:Ow}(h:Bal a b)(x:List UInt8):Bal a (putO x b):=h.trans fun s hs=>by
 match b,hs with
 | some z,hs =>
  simp only[putO] at hs;split at hs
  ·cases hs
  ·injection hs with hs
   subst hs;exact⟨z,rfl,rfl,rfl⟩
theorem Bal.lea {a b:Ow}(h:Bal (entO a) b):Bal a (leaO b):=fun s hs=>by
 match b,h,hs with
 | some z,h,hs =>
  injection hs with hs
  subst hs;obtain⟨y,hy,h1,h2⟩:=h z rfl
  match a,hy with
  | some u,hy =>
   simp only[entO] at hy;split at hy
   ·cases hy
   ·injection hy with hy
    subst hy;exact⟨u,rfl,by show z.o-1=u.o;rw[h1];show u.o+1-1=_;omega,h2⟩
theorem Bal.qle {a b:Ow}(h:Bal (qenO a) b):Bal a (qleO b):=fun s hs=>by
 match b,h,hs with
 | some z,h,hs =>
  injection hs with hs
  subst hs;obtain⟨y,hy,h1,h2⟩:=h z rfl
  match a,hy with
  | some u,hy =>
   simp only[qenO] at hy;split at hy
   ·cases hy
   ·injection hy with hy
    subst hy;exact⟨u,rfl,h1,by show z.q-1=u.q;rw[h2];show u.q+1-1=_;omega⟩
theorem qen_pos {st s:Ow}(h:Bal (qenO st) s):∀ x,s=some x->1<=x.q:=fun x hx=>by
 obtain⟨y,hy,_,h1⟩:=h x hx
 match st,hy with
 | some z,hy =>
  simp only[qenO] at hy;split at hy
  ·cases hy
  ·injection hy with hy
   subst hy;show 1<=x.q;rw[h1];show 1<=z.q+1;omega
theorem node_bal {k n:Int}{nm:List UInt8}{K:Sep->Ow->Ow}(hK:∀ g s,Bal s (K g s))(s:Ow):Bal s (oNode k n nm K s):=by
 have lst:∀ (x y:List UInt8) (s:Ow),Bal s (oList x y K s):=fun x y s=>(Bal.lea (((Bal.refl (entO s)).put x).trans (hK _ _))).put y;unfold oNode;split
 ·exact Bal.lea (hK _ _)
 ·split
  ·exact Bal.lea (hK _ _)
  ·split
   ·exact Bal.lea (hK _ _)
   ·split
    ·exact Bal.qle (Bal.lea (hK _ _))
    ·split
     ·exact((Bal.refl s).put _).trans (lst _ _ _)
     ·split
      ·exact((Bal.refl s).put _).trans (lst _ _ _)
      ·split
       ·exact lst _ _ _
       ·unfold oPlain;split
        ·exact(Bal.refl s).put _
        ·split
         ·exact(Bal.refl s).put _
         ·split
          ·exact(Bal.refl s).put _
          ·split
           ·exact(Bal.refl s).put _
           ·split
            ·exact(Bal.refl s).put _
            ·exact hK _ _
theorem part_bal {k n:Int}{nm:List UInt8}{len:Nat}{set:Bool}{K:Sep->Ow->Ow}(hK:∀ g s,Bal s (K g s))(s:Ow):Bal s (oPart k n nm len set K s):=by
 unfold oPart;split
 ·exact node_bal hK s
 ·intro x hx;cases hx
theorem e_bal {k n:Int}{nm:List UInt8}{len asked:Nat}{set:Bool}{K:Sep->Ow->Ow}(hK:∀ g s,Bal s (K g s))(s:Ow):Bal s (oE k n nm len set asked K s):=by
 unfold oE;split
 ·exact(Bal.lea (((Bal.refl (entO s)).put _).trans (part_bal hK _))).put _
 ·exact part_bal hK s
theorem fs_bal:∀ (f:Fs) (b:Bool) (g:Sep) (i:Nat) (s:Ow),Bal s (oFs f b g i s)
 | ⟨none⟩,b,g,i,s=>Bal.refl s
 | ⟨some ⟨k,n,nm,a,ks,r⟩⟩,b,g,i,s=>(((Bal.refl s).put _).trans (e_bal (fun g s=>fs_bal ks (k==21) g 0 s) _)).trans (fs_bal r false g (i+1) _)
def oKid (e y:Ex)(i:Nat)(st:Ow):Ow:=oE y.k y.n y.nm y.kids.len (e.k==21&&decide (i=0)) (askO e.k i) (fun g s=>oFs y.kids (y.k==21) g 0 s) st
theorem oEx_bal (y:Ex)(b:Bool)(s:Ow):Bal s (oEx y b s):=part_bal (fun g s=>fs_bal _ _ _ _ _) s
theorem ask_le (k:Int)(i:Nat):(askO k i:Nat)<=8+i:=by
 unfold askO
 have:=row_le k
 split
 ·omega
 ·split
  ·omega
  ·split<;>omega
theorem kid_q {N:Nat}(IH:PartQ N)(e y:Ex)(x r:Fs)(hk:e.kids=x.app (Fs.ex y r))(i:Nat)(hi:x.len=i)(hi9:i<=1000000000)(hN:y.kids.size<N)(hy:y.fit)(ao:Option Addr)(cap wb:Nat)(st:Ow)(w:World)(o:Nat->Nat)(S:Sl w (L0 o) e.kids ao)(H:WQ w o wb st) :
  Calls Tryz.prog 273 #[.pointer (some ⟨wb,0,none⟩),exV e ao cap,.int .i64 (i:Nat)] w (PostO w o wb (oKid e y i st)):=by
 have hlen:i<e.kids.len:=by rw[hk,Fs.len_app,len_ex];omega
 obtain⟨b,off,ak,ck,rfl,x0,x1,x2,x3,x4,SK⟩:=Sl.kidP (x:=x) (y:=y) (r:=r) (by rw[hk] at S;exact S) i hi;have hbl:b<w.heap.size:=by
  rcases S with h|⟨b',off',zs,he,hp,hlt,hc,hf⟩
  ·rw[hk] at h;cases x using Fs.on with
   | nil=>cases h
   | cons _ _ _ _ _ _=>cases h
  ·injection he with he;injection he with he;subst he;exact hlt
 obtain⟨w0,hw0⟩:∃w0,w0=(w.alloc (bxX e (some ⟨b,off,none⟩) cap)).alloc (bxX y ak ck):=⟨_,rfl⟩
 obtain⟨o0,ho0⟩:∃o0,o0=newLab (w.alloc (bxX e (some ⟨b,off,none⟩) cap)) (newLab w o 0) 0:=⟨_,rfl⟩
 have s0:Step (fun _=>False) w o w0 o0:=by rw[hw0,ho0];exact(boxStep _ w o _).trans (boxStep _ _ _ _)
 have E0:w0.heap[w.heap.size]?=some (bxX e (some ⟨b,off,none⟩) cap):=by
  rw[hw0];exact(Below.heap_alloc _ _ _ (by simp)).trans (heap_alloc_new w _)
 have Y0:w0.heap[w.heap.size+1]?=some (bxX y ak ck):=by
  rw[hw0]
  have:=heap_alloc_new (w.alloc (bxX e (some ⟨b,off,none⟩) cap)) (bxX y ak ck)
  simpa using this
 have l0:o0 w.heap.size=0:=by rw[ho0,newLab_old (by simp),newLab_new (Nat.le_refl _)]
 have l1:o0 (w.heap.size+1)=0:=by rw[ho0,newLab_new (by simp)]
 have SK0:=SK.stp0 s0;have H0:=H.stp0 s0;have hiI:(i:Int)<(e.kids.len:Int):=by omega
 have hal:=ask_le e.k i;clear ho0 S SK H hk;rw[exV_out];go_enter Tryz.func273,Tryz.ntmps273;go_upto_region 2 with fail;rw[<-hw0];clear hw0 x0 x1 x2 x3 x4;generalize w.heap.size=be at *;obtain⟨p0,p1,p2,p3,p4,pf⟩:=box5 E0;obtain⟨y0,y1,y2,y3,y4,yf⟩:=box5 Y0;have hrw:IntKind.i64.wrap ((rowOf y.k:Nat):Int)=((rowOf y.k:Nat):Int):=by have:=row_le y.k;rw[IntKind.wrap_i64];omega
 go_quiet ((first|(go_at_call 290;exact Calls.quiet_of_same (row_q _ _))|(go_at_call 291;exact Calls.quiet_of_same (asked_q _ _ hi9 _))))
 have d1:=drewStep w0 o0 nq;have H1:=H0.stp0 d1;have SK1:=SK0.stp0 d1;have s1:=(s0.trans d1).i12;have E1:Blk (w0.drewN nq) o0 0 be (bxX e (some ⟨b,off,none⟩) cap):=⟨E0,l0⟩
 have Y1:Blk (w0.drewN nq) o0 0 (be+1) (bxX y ak ck):=⟨Y0,l1⟩
 clear H0 SK0 s0 d1 E0 Y0 l0 l1 p0 p1 p2 p3 p4 pf y0 y1 y2 y3 y4 yf;generalize w0.drewN nq=w1 at *;by_cases hrow:rowOf y.k<askO e.k i
 ·have hge:¬((askO e.k i:Nat):Int)<=((rowOf y.k:Nat):Int):=by omega
  have c2:=opens_o [40] H1 (by simp);have HF:Hid (oKid e y i st=putO [41] (leaO (oEx y false (putO [40] (entO st))))):=by show oE _ _ _ _ _ _ _ _=_;unfold oE;rw[if_pos hrow];rfl
  have hpos:∀ x,oEx y false (putO [40] (entO st))=some x->1<=x.o:=ent_pos (((Bal.refl (entO st)).put [40]).trans (oEx_bal y false _));generalize putO [40] (entO st)=st2 at *;clear H1 hrow;go_wp2_with fail;refine c2.mono ?_;rintro e2 w2 ⟨rfl,o2,H2,s2⟩;have SK2:=SK1.stp s2;have Y2:=Y1.stp s2;have s2':=s1.trans s2;clear c2 s1 s2 E1 Y1 SK1;obtain⟨y0,y1,y2,y3,y4,yf⟩:=box5 Y2.1;have c3:=IH y ak ck false wb st2 w2 o2 hN hy SK2 H2;rw[exV_out] at c3;generalize oEx y false st2=st3 at *;go_wp2_with fail;refine c3.mono ?_;rintro e2 w3 ⟨rfl,o3,H3,s3⟩;have s3':=s2'.trans s3;obtain⟨oo,d1,df,s4,H4⟩:=H3.lea hpos;have s4':=s3'.trans s4;generalize leaO st3=st4 at *;clear c3 s3 s3' s2' s4 H3 H2 SK2 Y2 y0 y1 y2 y3 y4 yf hpos;go_upto_region 7 with fail;generalize w3.setCell ⟨wb,1,none⟩ (.int .i64 (wrap64 (oo-1)))=w4 at *;clear d1 df;have c5:=puts_o [41] H4 (by simp);go_wp2_with fail;refine c5.mono ?_;rintro e2 w5 ⟨rfl,o5,H5,s5⟩;have s5':=s4'.trans s5;clear c5 s5 s4' H4;go_wp2
  go_end0
  exact⟨rfl,o5,by rw[HF.out];exact H5,s5'⟩
 ·have hge:((askO e.k i:Nat):Int)<=((rowOf y.k:Nat):Int):=by omega
  have HF:Hid (oKid e y i st=oEx y (e.k==21&&decide (i=0)) st):=by show oE _ _ _ _ _ _ _ _=_;unfold oE;rw[if_neg hrow];rfl
  clear hrow;obtain⟨p0,p1,p2,p3,p4,pf⟩:=box5 E1.1;obtain⟨y0,y1,y2,y3,y4,yf⟩:=box5 Y1.1;by_cases h21:e.k=21
  ·have b21:(e.k==21)=true:=by simp[h21]
   by_cases h0:i=0
   ·have b0:((i:Int)==0)=true:=by simp[h0]
    have hset:(e.k==21&&decide (i=0))=true:=by simp[h21,h0]
    rw[hset] at HF;have c2:=IH y ak ck true wb st w1 o0 hN hy SK1 H1;rw[exV_out] at c2;generalize oEx y true st=st3 at *;clear h21 h0 hset;go_wp2_with fail;refine c2.mono ?_;rintro e2 w2 ⟨rfl,o2,H2,s2⟩;have s2':=s1.trans s2;clear c2 s1 s2 H1 SK1 E1 Y1 p0 p1 p2 p3 p4 pf y0 y1 y2 y3 y4 yf;go_wp2
    (try simp only[Exit.inBlock,Exit.then])
    refine bodyPost_ret (results_none rfl _ _ _) rfl ?_;exact⟨rfl,o2,by rw[HF.out];exact H2,s2'⟩
   ·have b0:((i:Int)==0)=false:=by simp;omega
    have hset:(e.k==21&&decide (i=0))=false:=by simp[h0]
    rw[hset] at HF;have c2:=IH y ak ck false wb st w1 o0 hN hy SK1 H1;rw[exV_out] at c2;generalize oEx y false st=st3 at *;clear h21 h0 hset;go_wp2_with fail;refine c2.mono ?_;rintro e2 w2 ⟨rfl,o2,H2,s2⟩;have s2':=s1.trans s2;clear c2 s1 s2 H1 SK1 E1 Y1 p0 p1 p2 p3 p4 pf y0 y1 y2 y3 y4 yf;go_wp2
    (try simp only[Exit.inBlock,Exit.then])
    refine bodyPost_ret (results_none rfl _ _ _) rfl ?_;exact⟨rfl,o2,by rw[HF.out];exact H2,s2'⟩
  ·have b21:(e.k==21)=false:=bne h21;have hset:(e.k==21&&decide (i=0))=false:=by simp[h21]
   rw[hset] at HF;have c2:=IH y ak ck false wb st w1 o0 hN hy SK1 H1;rw[exV_out] at c2;generalize oEx y false st=st3 at *;clear h21 hset;go_wp2_with fail;refine c2.mono ?_;rintro e2 w2 ⟨rfl,o2,H2,s2⟩;have s2':=s1.trans s2;clear c2 s1 s2 H1 SK1 E1 Y1 p0 p1 p2 p3 p4 pf y0 y1 y2 y3 y4 yf;go_wp2
   (try simp only[Exit.inBlock,Exit.then])
   refine bodyPost_ret (results_none rfl _ _ _) rfl ?_;exact⟨rfl,o2,by rw[HF.out];exact H2,s2'⟩
theorem put_nil {w:World}{o:Nat->Nat}{wb:Nat}{st:Ow}(h:WQ w o wb st):putO [] st=st:=by
 match st,h with
 | none,h=>rfl
 | some s,h =>
  have:=h.2.1
  simp only[putO,List.length_nil,List.append_nil];rw[if_neg (by omega)]
theorem oFs_ex (x:Ex)(r:Fs)(b:Bool)(g:Sep)(i:Nat)(s:Ow):oFs (Fs.ex x r) b g i s=oFs r false g (i+1) (oE x.k x.n x.nm x.kids.len b (g i).2 (fun g s=>oFs x.kids (x.k==21) g 0 s) (putO (g i).1 s)):=rfl
theorem okid_eq (e y:Ex)(i:Nat)(s:Ow){flag:Bool}{asked:Nat}(h1:flag=(e.k==21&&decide (i=0)))(h2:asked=askO e.k i):oE y.k y.n y.nm y.kids.len flag asked (fun g s=>oFs y.kids (y.k==21) g 0 s) s=oKid e y i s:=by subst h1 h2;rfl
theorem kid_bal (e y:Ex)(i:Nat)(s:Ow):Bal s (oKid e y i s):=e_bal (fun g s=>fs_bal _ _ _ _ _) s
theorem Fs.app_rng:∀ {x y:Fs},(x.app y).rng->y.rng
 | ⟨none⟩,y,h=>h
 | ⟨some ⟨k,n,nm,a,ks,r⟩⟩,y,h=>Fs.app_rng h.2.2.2
theorem Ex.kidfit {e:Ex}(h:e.fit){x:Fs}{y:Ex}{r:Fs}(hk:e.kids=x.app (Fs.ex y r)):y.fit:=by
 have h1:(Fs.ex y r).short:=Fs.app_short (by rw[<-hk];exact h.sh);have h2:(Fs.ex y r).rng:=Fs.app_rng (by rw[<-hk];exact h.rng);exact⟨h1.1,h1.2.2.1,h1.2.1,h2.1,h2.2.1,h2.2.2.1⟩
theorem app_snoc:∀ (x:Fs) (y:Ex) (r:Fs),x.app (Fs.ex y r)=(x.snoc y).app r
 | ⟨none⟩,y,r=>by simp only[Fs.snoc,Fs.app,one];rfl
 | ⟨some ⟨k,n,nm,a,ks,rr⟩⟩,y,r=>by
  have:=app_snoc rr y r
  simp only[Fs.snoc] at this ⊢;simp only[Fs.app];rw[this]
theorem list_qw {N:Nat}(IH:PartQ N)(e:Ex)(hek:e.k=20\/e.k=24\/e.k=25)(hN:e.kids.size<=N)(he:e.fit)(ao:Option Addr)(cap wb:Nat)(st:Ow)(w:World)(o:Nat->Nat)(S:Sl w (L0 o) e.kids ao)(H:WQ w o wb st) :
  Calls Tryz.prog 292 #[.pointer (some ⟨wb,0,none⟩),exV e ao cap] w (PostO w o wb (oFs e.kids (e.k==21) comS 0 st)):=by
 have h21:(e.k==21)=false:=bne (by omega);have hask:∀ i,askO e.k i=0:=fun i=>by rcases hek with h|h|h<;>rw[h]<;>rfl
 rw[h21];obtain⟨W,hW⟩:∃W,W=oFs e.kids false comS 0 st:=⟨_,rfl⟩
 rw[<-hW];have HW:Hid (oFs e.kids false comS 0 st=W):=hW.symm;have H21:Hid ((e.k==21)=false):=h21;have HA:Hid (∀ i,askO e.k i=0):=hask;have hlen:=he.len;have s0:=boxStep (fun _=>False) w o (bxX e ao cap);have E0:Blk (w.alloc (bxX e ao cap)) (newLab w o 0) 0 w.heap.size (bxX e ao cap):=boxBlk w o _ _;have S0:=S.stp0 s0;have H0:=H.stp0 s0;have T0:=s0.i12;clear hW h21 hask S H s0 hek;rw[exV_out];go_enter Tryz.func292,Tryz.ntmps292;go_upto_region 1 with fail;generalize w.alloc (bxX e ao cap)=w0 at *;generalize newLab w o 0=o0 at *;generalize w.heap.size=be at *;go_wp2_with fail;go_loopw [4] (fun v wr=>∃(done r:Fs) (u:Ow) (o':Nat->Nat),Hid (e.kids=done.app r)/\v=.int .i64 (done.len:Nat)/\Hid (oFs r false comS done.len u=W)/\WQ wr o' wb u/\Blk wr o' 0 be (.cells #[.int .i64 e.k,.int .i64 e.n,stv e.nm,.slice ao e.kids.len cap,.int .i64 e.a] 25 (0,0))/\Sl wr (L0 o') e.kids ao/\Step I12 w o wr o') (fun v _=>e.kids.len-(intOf v).toNat)
 case atStart=>exact⟨.nil,e.kids,st,o0,rfl,by show _=Value.int .i64 ((0:Nat):Int);rfl,HW,H0,E0,S0,T0⟩
 case round =>
  clear HW H0 E0 S0 T0;obtain⟨done,r,u,o3,hk,rfl,HU,H3,E3,S3,T3⟩:=hrel;have hlk:e.kids.len=done.len+r.len:=by rw[hk.out,Fs.len_app]
  obtain⟨p0,p1,p2,p3,p4,pf⟩:=box5 E3.1;cases r using Fs.on with
  | nil =>
   have hl0:¬(done.len:Int)<(e.kids.len:Int):=by simp only[Fs.len] at hlk;omega
   have hu:u=W:=HU.out;subst hu;clear HU hlk;go_wp2
   go_end0
   exact⟨rfl,o3,H3,T3⟩
  | cons kk kn km ka kks kr =>
   have hl0:(done.len:Int)<(e.kids.len:Int):=by simp only[Fs.len] at hlk;omega
   obtain⟨c3,cf,-,-⟩:=H3.end;cases u with
   | none =>
    have hu:W=none:=by rw[<-HU.out];exact fs_gone _ _ _ _
    have c3:wr.cell? ⟨wb,3,none⟩=some (.bool false):=c3;subst hu;clear HU hlk;go_wp2
    go_end0
    exact⟨rfl,o3,H3,T3⟩
   | some u0 =>
    have c3:wr.cell? ⟨wb,3,none⟩=some (.bool true):=c3;obtain⟨y,hy⟩:∃y:Ex,y=⟨kk,kn,km,ka,kks⟩:=⟨_,rfl⟩
    have hk2:e.kids=done.app (Fs.ex y kr):=by rw[hk.out,hy];rfl
    have hyf:y.fit:=Ex.kidfit he hk2;have hyN:y.kids.size<N:=by
     have:e.kids.size=done.size+(y.kids.size+kr.size+1):=by rw[hk2,Fs.size_app];rfl
     omega
    have HU2:Hid (oFs kr false comS (done.len+1) (oKid e y done.len (putO (comS done.len).1 (some u0)))=W):=by
     show _=W;rw[<-HU.out,<-okid_eq e y done.len _ (flag:=false) (asked:=0) (by rw[H21.out];rfl) (HA.out _).symm,hy];rfl
    have HK9:Hid (e.kids=(done.snoc y).app kr):=by show _=_;rw[hk2,app_snoc]
    have hlen1:done.len+1<=1000000000:=by simp only[Fs.len] at hlk;omega
    have HK2:=Lib.hid hk2;clear HU hy hlk hk2;by_cases hd:done.len=0
    ·have hd0:¬(0:Int)<(done.len:Int):=by omega
     have HU3:Hid (oFs kr false comS (done.len+1) (oKid e y done.len (some u0))=W):=by
      show _=W;rw[<-HU2.out]
      have:(comS done.len).1=[]:=by unfold comS;simp[hd]
      rw[this,put_nil H3]
     have c5:=kid_q IH e y done kr HK2.out done.len rfl (by omega) hyN hyf ao cap wb _ wr o3 S3 H3;rw[exV_out] at c5;clear HU2 hd hyf hyN;generalize oKid e y done.len (some u0)=u5 at *;go_wp2_with fail;refine c5.mono ?_;rintro e2 w5 ⟨rfl,o5,H5,s5⟩;have T5:=T3.trans s5;have S5:=S3.stp s5;have E5:=E3.stp s5;clear c5 H3 T3 S3 E3 s5 p0 p1 p2 p3 p4 pf c3 cf;go_wp2;go_roundw
     case rel=>(try ((repeat apply Exists.intro);refine⟨?_,rfl⟩));exact⟨done.snoc y,kr,u5,o5,HK9,by rw[Fs.len_snoc];go_num,by rw[Fs.len_snoc];exact HU3,H5,E5,S5,T5⟩
     case measure=>simp[intOf];omega
    ·have hd0:(0:Int)<(done.len:Int):=by omega
     have hcs:(comS done.len).1=[44,32]:=by unfold comS;simp[hd]
     rw[hcs] at HU2;have c4:=puts_o [44,32] H3 (by simp);generalize putO [44,32] (some u0)=u4 at *;clear hd hcs;go_wp2_with fail;refine c4.mono ?_;rintro e2 w4 ⟨rfl,o4,H4,s4⟩;have T4:=T3.trans s4;have S4:=S3.stp s4;have E4:=E3.stp s4;clear c4 H3 T3 S3 E3 s4 p0 p1 p2 p3 p4 pf c3 cf;obtain⟨p0,p1,p2,p3,p4,pf⟩:=box5 E4.1;have c5:=kid_q IH e y done kr HK2.out done.len rfl (by omega) hyN hyf ao cap wb _ w4 o4 S4 H4;rw[exV_out] at c5;clear hyf hyN;generalize oKid e y done.len u4=u5 at *;go_wp2_with fail;refine c5.mono ?_;rintro e2 w5 ⟨rfl,o5,H5,s5⟩;have T5:=T4.trans s5;have S5:=S4.stp s5;have E5:=E4.stp s5;clear c5 H4 T4 S4 E4 s5 p0 p1 p2 p3 p4 pf;go_wp2;go_roundw
     case rel=>(try ((repeat apply Exists.intro);refine⟨?_,rfl⟩));exact⟨done.snoc y,kr,u5,o5,HK9,by rw[Fs.len_snoc];go_num,by rw[Fs.len_snoc];exact HU2,H5,E5,S5,T5⟩
     case measure=>simp[intOf];omega
theorem cat2 (l m:List UInt8):(⟨l.toArray⟩:ByteArray)++⟨m.toArray⟩=⟨(l++m).toArray⟩:=by
 apply ByteArray.ext;simp
theorem great_if {N:Nat}(IH:PartQ N)(e:Ex)(hNk:e.kids.size<=N)(he:e.fit)(ao:Option Addr)(cap wb:Nat)(st:Ow)(w:World)(o:Nat->Nat)(S:Sl w (L0 o) e.kids ao)(H:WQ w o wb st)(hk:e.k=19)(hl:e.kids.len=3) :
  Calls Tryz.prog 274 #[.pointer (some ⟨wb,0,none⟩),exV e ao cap] w (PostO w o wb (oNode e.k e.n e.nm (fun g s=>oFs e.kids (e.k==21) g 0 s) st)):=by
 obtain⟨x,y,z,hks⟩:=len3 hl;have hk0:Hid (e.kids=Fs.app .nil (Fs.ex x (Fs.ex y (Fs.ex z .nil)))):=hks;have hk1:Hid (e.kids=Fs.app (one x) (Fs.ex y (Fs.ex z .nil))):=by show _=_;rw[hks];rfl
 have hk2:Hid (e.kids=Fs.app ((one x).snoc y) (Fs.ex z .nil)):=by show _=_;rw[hks];rfl
 have hsz:e.kids.size=x.kids.size+(y.kids.size+(z.kids.size+0+1)+1)+1:=by rw[hks];rfl
 have hNx:x.kids.size<N:=by omega
 have hNy:y.kids.size<N:=by omega
 have hNz:z.kids.size<N:=by omega
 have hfx:=Ex.kidfit he hk0.out;have hfy:=Ex.kidfit he hk1.out;have hfz:=Ex.kidfit he hk2.out;have HF:Hid (oNode e.k e.n e.nm (fun g s=>oFs e.kids (e.k==21) g 0 s) st=leaO (oKid e z 2 (putO [32,101,108,115,101,32] (oKid e y 1 (putO [32,116,104,101,110,32] (oKid e x 0 (putO [105,102,32] (entO st)))))))):=by
  show _=_;unfold oNode;rw[if_neg (by omega),if_neg (by omega),if_pos hk];simp only[hks,oFs_ex];rw[okid_eq e x 0 _ (by rw[hk];rfl) (by rw[hk];rfl),okid_eq e y 1 _ (by rw[hk];rfl) (by rw[hk];rfl),okid_eq e z 2 _ (by rw[hk];rfl) (by rw[hk];rfl)];rfl
 have b19:(e.k==19)=true:=by simp[hk]
 clear hks hk hl hsz;have s0:=boxStep (fun _=>False) w o (bxX e ao cap);have E0:Blk (w.alloc (bxX e ao cap)) (newLab w o 0) 0 w.heap.size (bxX e ao cap):=boxBlk w o _ _;have S0:=S.stp0 s0;have H0:=H.stp0 s0;have T0:=s0.i12;clear S H s0;rw[exV_out];go_enter Tryz.func274,Tryz.ntmps274;go_upto_region 1 with fail;generalize w.alloc (bxX e ao cap)=w0 at *;generalize newLab w o 0=o0 at *;generalize w.heap.size=be at *;obtain⟨p0,p1,p2,p3,p4,pf⟩:=box5 E0.1;have c1:=opens_o [105,102,32] H0 (by simp);have hb1:Bal (entO st) (putO [105,102,32] (entO st)):=(Bal.refl _).put [105,102,32];have hp:Hid (∀ s,Bal (entO st) s->∀ x,s=some x->1<=x.o):=fun s h=>ent_pos h;generalize putO [105,102,32] (entO st)=st1 at *;generalize entO st=se at *;go_wp2_with fail;refine c1.mono ?_;rintro e2 w1 ⟨rfl,o1,H1,s1⟩;have T1:=T0.trans s1;have S1:=S0.stp s1;have E1:=E0.stp s1;clear c1 H0 T0 S0 E0 s1 p0 p1 p2 p3 p4 pf;obtain⟨p0,p1,p2,p3,p4,pf⟩:=box5 E1.1;have c2:=kid_q IH e x .nil (Fs.ex y (Fs.ex z .nil)) hk0.out 0 rfl (by omega) (hNx) (hfx) ao cap wb st1 w1 o1 S1 H1;rw[exV_out] at c2;have hb2:=hb1.trans (kid_bal e x 0 st1);generalize oKid e x 0 st1=st2 at *;go_wp2_with fail;refine c2.mono ?_;rintro e2 w2 ⟨rfl,o2,H2,s2⟩;have T2:=T1.trans s2;have S2:=S1.stp s2;have E2:=E1.stp s2;clear c2 H1 T1 S1 E1 s2 p0 p1 p2 p3 p4 pf hb1;obtain⟨p0,p1,p2,p3,p4,pf⟩:=box5 E2.1;have c3:=puts_o [32,116,104,101,110,32] H2 (by simp);have hb3:=hb2.put [32,116,104,101,110,32];generalize putO [32,116,104,101,110,32] st2=st3 at *;go_wp2_with fail;refine c3.mono ?_;rintro e2 w3 ⟨rfl,o3,H3,s3⟩;have T3:=T2.trans s3;have S3:=S2.stp s3;have E3:=E2.stp s3;clear c3 H2 T2 S2 E2 s3 p0 p1 p2 p3 p4 pf hb2;obtain⟨p0,p1,p2,p3,p4,pf⟩:=box5 E3.1;have c4:=kid_q IH e y (one x) (Fs.ex z .nil) hk1.out 1 rfl (by omega) (hNy) (hfy) ao cap wb st3 w3 o3 S3 H3;rw[exV_out] at c4;have hb4:=hb3.trans (kid_bal e y 1 st3);generalize oKid e y 1 st3=st4 at *;go_wp2_with fail;refine c4.mono ?_;rintro e2 w4 ⟨rfl,o4,H4,s4⟩;have T4:=T3.trans s4;have S4:=S3.stp s4;have E4:=E3.stp s4;clear c4 H3 T3 S3 E3 s4 p0 p1 p2 p3 p4 pf hb3;obtain⟨p0,p1,p2,p3,p4,pf⟩:=box5 E4.1;have c5:=puts_o [32,101,108,115,101,32] H4 (by simp);have hb5:=hb4.put [32,101,108,115,101,32];generalize putO [32,101,108,115,101,32] st4=st5 at *;go_wp2_with fail;refine c5.mono ?_;rintro e2 w5 ⟨rfl,o5,H5,s5⟩;have T5:=T4.trans s5;have S5:=S4.stp s5;have E5:=E4.stp s5;clear c5 H4 T4 S4 E4 s5 p0 p1 p2 p3 p4 pf hb4;obtain⟨p0,p1,p2,p3,p4,pf⟩:=box5 E5.1;have c6:=kid_q IH e z ((one x).snoc y) .nil hk2.out 2 rfl (by omega) (hNz) (hfz) ao cap wb st5 w5 o5 S5 H5;rw[exV_out] at c6;have hb6:=hb5.trans (kid_bal e z 2 st5);generalize oKid e z 2 st5=st6 at *;go_wp2_with fail;refine c6.mono ?_;rintro e2 w6 ⟨rfl,o6,H6,s6⟩;have T6:=T5.trans s6;have S6:=S5.stp s6;have E6:=E5.stp s6;clear c6 H5 T5 S5 E5 s6 p0 p1 p2 p3 p4 pf hb5;obtain⟨p0,p1,p2,p3,p4,pf⟩:=box5 E6.1;obtain⟨oo7,dd7,df7,s7,H7⟩:=H6.lea (hp.out _ hb6);generalize leaO st6=st7 at *;have T7:=T6.trans s7;have S7:=S6.stp s7;have E7:=E6.stp s7;go_wp2;generalize w6.setCell ⟨wb,1,none⟩ (.int .i64 (wrap64 (oo7-1)))=w7 at *;clear dd7 df7 H6 T6 S6 E6 s7 p0 p1 p2 p3 p4 pf hp hb6;generalize o6=o7 at *;obtain⟨p0,p1,p2,p3,p4,pf⟩:=box5 E7.1
 go_end0
 exact⟨rfl,o7,by rw[HF.out];exact H7,T7⟩
theorem great_around {N:Nat}(IH:PartQ N)(e:Ex)(hNk:e.kids.size<=N)(he:e.fit)(ao:Option Addr)(cap wb:Nat)(st:Ow)(w:World)(o:Nat->Nat)(S:Sl w (L0 o) e.kids ao)(H:WQ w o wb st)(hk:e.k=24) :
  Calls Tryz.prog 274 #[.pointer (some ⟨wb,0,none⟩),exV e ao cap] w (PostO w o wb (oNode e.k e.n e.nm (fun g s=>oFs e.kids (e.k==21) g 0 s) st)):=by
 have hek:e.k=20\/e.k=24\/e.k=25:=by omega
 have HF:Hid (oNode e.k e.n e.nm (fun g s=>oFs e.kids (e.k==21) g 0 s) st=putO [41] (leaO (oFs e.kids (e.k==21) comS 0 (putO [40] (entO (putO [97,114,111,117,110,100] st)))))):=by
  show _=_;unfold oNode;rw[if_neg (by omega),if_neg (by omega),if_neg (by omega),if_neg (by omega),if_neg (by omega),if_pos hk];rfl
 have b19:(e.k==19)=false:=bne (by omega);have b21:(e.k==21)=false:=bne (by omega);have b20:(e.k==20)=false:=bne (by omega);have b24:(e.k==24)=true:=by simp[hk]
 have HEK:=Lib.hid hek;clear hk hek;have s0:=boxStep (fun _=>False) w o (bxX e ao cap);have E0:Blk (w.alloc (bxX e ao cap)) (newLab w o 0) 0 w.heap.size (bxX e ao cap):=boxBlk w o _ _;have S0:=S.stp0 s0;have H0:=H.stp0 s0;have T0:=s0.i12;clear S H s0;rw[exV_out];go_enter Tryz.func274,Tryz.ntmps274;go_upto_region 1 with fail;generalize w.alloc (bxX e ao cap)=w0 at *;generalize newLab w o 0=o0 at *;generalize w.heap.size=be at *;obtain⟨p0,p1,p2,p3,p4,pf⟩:=box5 E0.1;have c1:=puts_o [97,114,111,117,110,100] H0 (by simp);generalize putO [97,114,111,117,110,100] st=st1 at *;go_wp2_with fail;refine c1.mono ?_;rintro e2 w1 ⟨rfl,o1,H1,s1⟩;have T1:=T0.trans s1;have S1:=S0.stp s1;have E1:=E0.stp s1;clear c1 H0 T0 S0 E0 s1 p0 p1 p2 p3 p4 pf;obtain⟨p0,p1,p2,p3,p4,pf⟩:=box5 E1.1;have c2:=opens_o [40] H1 (by simp);have hb2:Bal (entO st1) (putO [40] (entO st1)):=(Bal.refl _).put [40];have hp:Hid (∀ s,Bal (entO st1) s->∀ x,s=some x->1<=x.o):=fun s h=>ent_pos h;generalize putO [40] (entO st1)=st2 at *;generalize entO st1=se at *;go_wp2_with fail;refine c2.mono ?_;rintro e2 w2 ⟨rfl,o2,H2,s2⟩;have T2:=T1.trans s2;have S2:=S1.stp s2;have E2:=E1.stp s2;clear c2 H1 T1 S1 E1 s2 p0 p1 p2 p3 p4 pf;obtain⟨p0,p1,p2,p3,p4,pf⟩:=box5 E2.1;have hek:=HEK.out;have c3:=list_qw IH e hek hNk he ao cap wb st2 w2 o2 S2 H2;rw[exV_out] at c3;have hb3:=hb2.trans (fs_bal e.kids (e.k==21) comS 0 st2);generalize oFs e.kids (e.k==21) comS 0 st2=st3 at *;go_wp2_with fail;refine c3.mono ?_;rintro e2 w3 ⟨rfl,o3,H3,s3⟩;have T3:=T2.trans s3;have S3:=S2.stp s3;have E3:=E2.stp s3;clear c3 H2 T2 S2 E2 s3 p0 p1 p2 p3 p4 pf hb2;obtain⟨p0,p1,p2,p3,p4,pf⟩:=box5 E3.1;clear hek;obtain⟨oo4,dd4,df4,s4,H4⟩:=H3.lea (hp.out _ hb3);generalize leaO st3=st4 at *;have T4:=T3.trans s4;have S4:=S3.stp s4;have E4:=E3.stp s4;go_upto_region 35 with fail;generalize w3.setCell ⟨wb,1,none⟩ (.int .i64 (wrap64 (oo4-1)))=w4 at *;clear dd4 df4 H3 T3 S3 E3 s4 p0 p1 p2 p3 p4 pf hp hb3;generalize o3=o4 at *;obtain⟨p0,p1,p2,p3,p4,pf⟩:=box5 E4.1;have c5:=puts_o [41] H4 (by simp);generalize putO [41] st4=st5 at *;go_wp2_with fail;refine c5.mono ?_;rintro e2 w5 ⟨rfl,o5,H5,s5⟩;have T5:=T4.trans s5;have S5:=S4.stp s5;have E5:=E4.stp s5;clear c5 H4 T4 S4 E4 s5 p0 p1 p2 p3 p4 pf;obtain⟨p0,p1,p2,p3,p4,pf⟩:=box5 E5.1;go_wp2
 go_end0
 exact⟨rfl,o5,by rw[HF.out];exact H5,T5⟩
theorem great_list {N:Nat}(IH:PartQ N)(e:Ex)(hNk:e.kids.size<=N)(he:e.fit)(ao:Option Addr)(cap wb:Nat)(st:Ow)(w:World)(o:Nat->Nat)(S:Sl w (L0 o) e.kids ao)(H:WQ w o wb st)(hk:e.k=25) :
  Calls Tryz.prog 274 #[.pointer (some ⟨wb,0,none⟩),exV e ao cap] w (PostO w o wb (oNode e.k e.n e.nm (fun g s=>oFs e.kids (e.k==21) g 0 s) st)):=by
 have hek:e.k=20\/e.k=24\/e.k=25:=by omega
 have HF:Hid (oNode e.k e.n e.nm (fun g s=>oFs e.kids (e.k==21) g 0 s) st=putO [125] (leaO (oFs e.kids (e.k==21) comS 0 (putO [123] (entO st))))):=by
  show _=_;unfold oNode;rw[if_neg (by omega),if_neg (by omega),if_neg (by omega),if_neg (by omega),if_neg (by omega),if_neg (by omega),if_pos hk];rfl
 have b19:(e.k==19)=false:=bne (by omega);have b21:(e.k==21)=false:=bne (by omega);have b20:(e.k==20)=false:=bne (by omega);have b24:(e.k==24)=false:=bne (by omega);have HEK:=Lib.hid hek;clear hk hek;have s0:=boxStep (fun _=>False) w o (bxX e ao cap);have E0:Blk (w.alloc (bxX e ao cap)) (newLab w o 0) 0 w.heap.size (bxX e ao cap):=boxBlk w o _ _;have S0:=S.stp0 s0;have H0:=H.stp0 s0;have T0:=s0.i12;clear S H s0;rw[exV_out];go_enter Tryz.func274,Tryz.ntmps274;go_upto_region 1 with fail;generalize w.alloc (bxX e ao cap)=w0 at *;generalize newLab w o 0=o0 at *;generalize w.heap.size=be at *;obtain⟨p0,p1,p2,p3,p4,pf⟩:=box5 E0.1;have c1:=opens_o [123] H0 (by simp);have hb1:Bal (entO st) (putO [123] (entO st)):=(Bal.refl _).put [123];have hp:Hid (∀ s,Bal (entO st) s->∀ x,s=some x->1<=x.o):=fun s h=>ent_pos h;generalize putO [123] (entO st)=st1 at *;generalize entO st=se at *;go_wp2_with fail;refine c1.mono ?_;rintro e2 w1 ⟨rfl,o1,H1,s1⟩;have T1:=T0.trans s1;have S1:=S0.stp s1;have E1:=E0.stp s1;clear c1 H0 T0 S0 E0 s1 p0 p1 p2 p3 p4 pf;obtain⟨p0,p1,p2,p3,p4,pf⟩:=box5 E1.1;have hek:=HEK.out;have c2:=list_qw IH e hek hNk he ao cap wb st1 w1 o1 S1 H1;rw[exV_out] at c2;have hb2:=hb1.trans (fs_bal e.kids (e.k==21) comS 0 st1);generalize oFs e.kids (e.k==21) comS 0 st1=st2 at *;go_wp2_with fail;refine c2.mono ?_;rintro e2 w2 ⟨rfl,o2,H2,s2⟩;have T2:=T1.trans s2;have S2:=S1.stp s2;have E2:=E1.stp s2;clear c2 H1 T1 S1 E1 s2 p0 p1 p2 p3 p4 pf hb1;obtain⟨p0,p1,p2,p3,p4,pf⟩:=box5 E2.1;clear hek;obtain⟨oo3,dd3,df3,s3,H3⟩:=H2.lea (hp.out _ hb2);generalize leaO st2=st3 at *;have T3:=T2.trans s3;have S3:=S2.stp s3;have E3:=E2.stp s3;go_upto_region 5 with fail;generalize w2.setCell ⟨wb,1,none⟩ (.int .i64 (wrap64 (oo3-1)))=w3 at *;clear dd3 df3 H2 T2 S2 E2 s3 p0 p1 p2 p3 p4 pf hp hb2;generalize o2=o3 at *;obtain⟨p0,p1,p2,p3,p4,pf⟩:=box5 E3.1;have c4:=puts_o [125] H3 (by simp);generalize putO [125] st3=st4 at *;go_wp2_with fail;refine c4.mono ?_;rintro e2 w4 ⟨rfl,o4,H4,s4⟩;have T4:=T3.trans s4;have S4:=S3.stp s4;have E4:=E3.stp s4;clear c4 H3 T3 S3 E3 s4 p0 p1 p2 p3 p4 pf;obtain⟨p0,p1,p2,p3,p4,pf⟩:=box5 E4.1;go_wp2
 go_end0
 exact⟨rfl,o4,by rw[HF.out];exact H4,T4⟩
end Go.Proofs.YtbjdkekhnajafaaGreatDoor

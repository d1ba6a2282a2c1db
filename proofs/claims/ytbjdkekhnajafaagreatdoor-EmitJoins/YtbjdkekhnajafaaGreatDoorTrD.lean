import Derived.Test.YtbjdkekhnajafaaGreatDoorTrC
set_option maxRecDepth 100000
set_option maxHeartbeats 8000000
namespace Go.Proofs.YtbjdkekhnajafaaGreatDoor
open Go.ChangeShapes Go.WideShapes Go.ChangeAt Go.RowKit
set_option linter.unusedVariables false
set_option linter.unusedSimpArgs false
theorem app_okA2:∀ {x y:Fs},(x.app y).okA->y.okA
 | ⟨none⟩,y,h=>h
 | ⟨some ⟨k,n,nm,a,ks,r⟩⟩,y,h=>app_okA2 h.2.2
theorem app_nil13:∀ (x:Fs),x.app .nil=x
 | ⟨none⟩=>rfl
 | ⟨some ⟨k,n,nm,a,ks,r⟩⟩=>by simp only[Fs.app];rw[app_nil13 r]
def Kds (N:Nat)(f:Fs)(nb:Nat):Prop:=∀ (d r:Fs) (y:Ex),f=d.app (Fs.ex y r)->Rt13 N y nb
theorem Fs.app_stk:∀ {x y:Fs}{first:Bool},(x.app y).stk first->x.len≠0->y.stk false
 | ⟨none⟩,y,first,h,h0=>absurd rfl h0
 | ⟨some ⟨k,n,nm,a,ks,⟨none⟩⟩⟩,y,first,h,h0=>h.2.2
 | ⟨some ⟨k,n,nm,a,ks,⟨some r⟩⟩⟩,y,first,h,h0=>Fs.app_stk (x:=⟨some r⟩) h.2.2 (by simp[Fs.len])
theorem Fs.app_stkF {x y:Fs}(h:(x.app y).stk false):y.stk false:=by
 by_cases h0:x.len=0
 ·cases x using Fs.on with
  | nil=>exact h
  | cons k n nm a ks r=>simp[Fs.len] at h0
 ·exact Fs.app_stk h h0
theorem Kds.of {N:Nat}{f:Fs}{nb:Nat}(hs:f.size<=N)(hok:f.okA)(hsk:f.stk false)(hsh:f.short)(hbl:nb+f.size<=3000):Kds N f nb:=by
 intro d r y hf;subst hf;rw[Fs.size_app,size_ex] at hs hbl;have h1:=Fs.app_short hsh;have h2:=Fs.app_stkF hsk;have h3:(Fs.ex y r).okA:=app_okA2 hok;exact⟨by omega,(okA_ex h3).1,h2.1,h2.2.1,h1.2.1,h1.2.2.1,by omega⟩
theorem quant13 {N:Nat}(IH:KindOk N)(e s x:Ex)(ao:Option Addr)(cap wb:Nat)(bv:Value)(b:List (List UInt8))(w:World)(hk:e.kids=Fs.ex s (Fs.ex x .nil))(hs:Kds N s.kids b.length)(hsl:s.kids.len<=1000000000)(hx:Rt13 N x (b.length+1))(h:Wk w wb bv none)(hn:Nmk wb w bv b)(S:Sl w (Nf wb) e.kids ao) :
  Calls Tryz.prog 164 #[.pointer (some ⟨wb,0,none⟩),exV e ao cap] w fun z w'=>z=.returned (.int .i64 (wholeT e.n))/\Wk w' wb bv (musR (musL s.kids none b) (bodyT e.n) x (b++[e.nm]))/\Keep wb w w':=by
 obtain⟨ii,hii,hzi0,hzi1,hzi2⟩:=info_parts infoStrT;have hlen:e.kids.len=2:=by rw[hk];rfl
 have HK:Hid (e.kids=Fs.ex s (Fs.ex x .nil)):=hk;have HL:Hid (e.kids.len=2):=hlen;clear hk hlen;have B0:Below w.heap.size w (w.alloc (.cells #[.int .i64 e.k,.int .i64 e.n,stv e.nm,.slice ao e.kids.len cap,.int .i64 e.a] 25)):=(Below.refl _ w).alloc (Nat.le_refl _) _;have E0:(w.alloc (.cells #[.int .i64 e.k,.int .i64 e.n,stv e.nm,.slice ao e.kids.len cap,.int .i64 e.a] 25)).heap[w.heap.size]?=some (.cells #[.int .i64 e.k,.int .i64 e.n,stv e.nm,.slice ao e.kids.len cap,.int .i64 e.a] 25):=heap_alloc_new w _;have W0:=h.below B0;have S0:=Sl.belowF S B0;have hwb:=lt_of_block h.blk;have N0:=hn.below B0;clear h hn S;rw[exV_out];go_enter Tryz.func164,Tryz.ntmps164;go_upto_region 1 with fail;generalize w.alloc (.cells #[.int .i64 e.k,.int .i64 e.n,stv e.nm,.slice ao e.kids.len cap,.int .i64 e.a] 25)=w0 at *;obtain⟨bx,hbx⟩:∃bx,bx=w.heap.size:=⟨_,rfl⟩
 have hwbx:wb≠bx:=by omega
 rw[<-hbx] at E0 B0 ⊢;have HB:Hid (bx=w.heap.size):=hbx;clear hbx;rw[HL.out] at E0 ⊢;obtain⟨p0,p1,p2,p3,p4,pf⟩:=box5 E0;have S0x:Sl w0 (Nf wb) (Fs.nil.app (Fs.ex s (Fs.ex x .nil))) ao:=by rw[HK.out] at S0;exact S0
 obtain⟨kb,off,as',cs',hao,x0,x1,x2,x3,x4,SK⟩:=Sl.kidP S0x 0 rfl;subst hao;simp only[Nat.zero_mul,Nat.add_zero] at x0 x1 x2 x3 x4
 -- the set's box
 have B1:Below w0.heap.size w0 (w0.alloc (.cells #[.int .i64 s.k,.int .i64 s.n,stv s.nm,.slice as' s.kids.len cs',.int .i64 s.a] 25)):=(Below.refl _ w0).alloc (Nat.le_refl _) _;have Z1:(w0.alloc (.cells #[.int .i64 s.k,.int .i64 s.n,stv s.nm,.slice as' s.kids.len cs',.int .i64 s.a] 25)).heap[w0.heap.size]?=some (.cells #[.int .i64 s.k,.int .i64 s.n,stv s.nm,.slice as' s.kids.len cs',.int .i64 s.a] 25):=heap_alloc_new w0 _;have E1:=(B1.block _ (lt_of_block E0)).trans E0;have W1:=W0.below B1;have N1:=N0.below B1;have S1:=Sl.belowF S0 B1;have SK1:=Sl.belowF SK B1;have hwb1:wb<w0.heap.size:=lt_of_block W0.blk;go_upto_region 2 with fail;generalize w0.alloc (.cells #[.int .i64 s.k,.int .i64 s.n,stv s.nm,.slice as' s.kids.len cs',.int .i64 s.a] 25)=w1 at *;obtain⟨sb,hsb⟩:∃sb,sb=w0.heap.size:=⟨_,rfl⟩
 have hwsb:wb≠sb:=by omega
 rw[<-hsb] at Z1 ⊢;have BW1:Below bx w w1:=B0.trans (B1.mono (Nat.le_of_lt (lt_of_block E0)));clear hsb p0 p1 p2 p3 p4 pf x0 x1 x2 x3 x4 S0x S0 W0 N0 E0 B0 B1 SK;go_wp2;go_loopw [6] (fun v wr=>∃(d r:Fs),Hid (s.kids=d.app r)/\v=.int .i64 (d.len:Nat)/\Wk wr wb bv (musL d none b)/\Keep wb w1 wr) (fun v _=>s.kids.len-(intOf v).toNat)
 case atStart=>exact⟨.nil,s.kids,rfl,by show _=Value.int .i64 ((0:Nat):Int);rfl,W1,Keep.refl _ _⟩
 case round =>
  obtain⟨d,r,hf,rfl,W2,K2⟩:=hrel;have hlk:s.kids.len=d.len+r.len:=by rw[hf.out,Fs.len_app]
  have Z2:=(K2.block _ (lt_of_block Z1) (Ne.symm hwsb)).trans Z1;have E2:=(K2.block _ (lt_of_block E1) (Ne.symm hwbx)).trans E1;obtain⟨p0,p1,p2,p3,p4,pf⟩:=box5 Z2;cases r using Fs.on with
  | nil =>
   have hl0:¬(d.len:Int)<(s.kids.len:Int):=by simp only[Fs.len] at hlk;omega
   have hdn:s.kids=d:=by rw[hf.out];clear hf hlk hl0 W2;exact app_nil13 d
   have W2':Wk wr wb bv (musL s.kids none b):=by rw[hdn];exact W2
   generalize hst:musL s.kids none b=st at W2';have HST:Hid (musL s.kids none b=st):=hst;have N2:=N1.keep K2;have S2:=Sl.keepF S1 K2;have KW2:Keep wb w wr:=Keep.bel (by rw[<-HB.out];exact BW1) K2;obtain⟨⟨av,capv,rfl,hcv,hp⟩,hpb⟩:=N2;obtain⟨q0,q1,q2,qf⟩:=box3 W2'.blk;clear hf hlk hdn hst W2 N1 S1 SK1 K2 W1 Z1 E1 BW1 hs;go_upto_region 8 with fail;go_cut [8] (fun v wx=>∃ao' cap' o',v=.slice ao' b.length cap'/\Row wx o' 1 9 1 v b.length (b.map fun x=>stv x)/\Step I1n wr (fun _=>0) wx o')
   case first =>
    rcases hp with ⟨hb0,rfl⟩|⟨g,rfl,hg,hpos,hcell⟩
    ·subst hb0;go_wp2;go_meet;exact⟨none,0,fun _=>0,by first|rfl|simp,Row.nil _ _ _ _ _,Step.refl _ _ _⟩
    ·have hnews:∀ j u,(b.map fun x=>stv x)[j]?=some u->wr.cell? ((⟨g,0,none⟩:Addr).add j)=some u:=fun j u hj=>by
      rw[List.getElem?_map] at hj;cases hb:b[j]? with
      | none=>rw[hb] at hj;cases hj
      | some t =>
       rw[hb] at hj;injection hj with hj
       subst hj;have h3:((⟨g,0,none⟩:Addr).add j)=⟨g,j,none⟩:=by simp[Addr.add];exact Eq.symm
       rw[h3];exact hcell j t hb
     have hone:∀ u ∈ (b.map fun x=>stv x),u.oneCell'=true:=fun u hu=>by
      obtain⟨x,_,rfl⟩:=List.mem_map.1 hu;rfl
     have hlb:(b.map fun x=>stv x).length=b.length:=List.length_map _;have hbl:=hx.bl;generalize (b.map fun x=>stv x)=xs at *;clear hcell;go_wp2_with (first|(at_builtin;refine wpList_append_lab rfl (.tmp 31) (.tmp 32) 40 rfl 9 ii (.string ⟨#[]⟩) 1 16 Tryz.underlying40 hii hzi0 hzi1 hzi2 rfl (by decide) (fun _=>0) 1 _ 0 [] rfl (Row.nil _ _ _ _ _) ⟨g,0,none⟩ b.length capv xs rfl (by first|omega|(rw[hlb];omega)) hnews hone (by omega) ?c3 ?c4 ?_)|go_in)
     case c3=>unfold maxLen;omega
     case c4=>omega
     intro g7 c7 w7 o7 r7 s7;have HS:Hid (Step I1n wr (fun _=>0) w7 o7/\Row w7 o7 1 9 1 (.slice (some ⟨g7,0,none⟩) b.length c7) b.length xs):=⟨s7,by simpa using r7⟩
     clear s7 r7 hnews hone;go_wp2;go_meet;exact⟨some ⟨g7,0,none⟩,c7,o7,by simp,HS.out.2,HS.out.1⟩
   case rest =>
    obtain⟨ao8,cap8,o8,rfl,R8,s8⟩:=hcut;have B8:Below wr.heap.size wr wc:=s8.below (fun _ _=>by decide);have E8:=(B8.block _ (lt_of_block E2)).trans E2;have W8:=W2'.below B8;have L8:Hid (∀ k,k<wr.heap.size->o8 k=0):=fun k hk=>s8.lab k hk;have hwbr:wb<wr.heap.size:=lt_of_block W2'.blk;clear q0 q1 q2 qf p0 p1 p2 p3 p4 pf;obtain⟨p0,p1,p2,p3,p4,pf⟩:=box5 E8;obtain⟨q0,q1,q2,qf⟩:=box3 W8.blk;have s10:=boxStep (fun _=>False) wc o8 (.cells #[stv e.nm] 9);have R10:=R8.step s10 id;have hrc:wr.heap.size<=wc.heap.size:=B8.size;have L10:Hid (∀ k,k<wr.heap.size->newLab wc o8 0 k=0):=fun k hk=>by rw[newLab_old (by omega)];exact L8.out k hk
    have hbl:=hx.bl;have b1:b.length+1<=maxLen:=by unfold maxLen;omega
    have b2:(b.length+1)*16<=140737488355328:=by omega
    have hone:∀ u ∈ [stv e.nm],u.oneCell'=true:=by intro u hu;simp at hu;subst hu;rfl
    go_upto_region 9 with fail;go_cut [] (fun wx=>∃g11 c11,Wk wx wb (.slice (some ⟨g11,0,none⟩) (b.length+1) c11) st/\Nmk wb wx (.slice (some ⟨g11,0,none⟩) (b.length+1) c11) (b++[e.nm])/\Keep wb wr wx)
    case first =>
     go_wp2_with (first|(at_builtin;refine wpList_append_lab rfl (.tmp 35) (.tmp 38) 40 rfl 9 ii (.string ⟨#[]⟩) 1 16 Tryz.underlying40 hii hzi0 hzi1 hzi2 rfl (by decide) (newLab wc o8 0) 1 _ b.length (b.map fun x=>stv x) rfl R10 ⟨wc.heap.size,0,none⟩ 1 1 [stv e.nm] rfl rfl (new_one wc _ _) hone (by decide) b1 b2 ?_)|go_in);intro g11 c11 w11 o11 r11 s11;have B11:Below wr.heap.size wr w11:=below_stepT (below_stepT B8 s10 (fun _ _=>id) (Nat.le_refl _)) s11 (fun k hk=>by show ¬_=1;rw[L10.out k hk];decide) (Nat.le_refl _);have W11:=W2'.below B11;have hgo:o11 g11=1:=r11.2 g11 rfl;have hwo:o11 wb=0:=(s11.lab wb (by simp;omega)).trans (L10.out wb hwbr);have hgw:g11≠wb:=by intro h;rw[h] at hgo;omega
     have NM11:Nms w11 (.slice (some ⟨g11,0,none⟩) (b.length+1) c11) (b++[e.nm]):=Nms.ofRow (by rw[List.map_append];exact r11) (by simp) (by omega);have K12:Keep wb wr (w11.setCell ⟨wb,0,none⟩ (.slice (some ⟨g11,0,none⟩) (b.length+1) c11)):=(Keep.ofBelow B11).set ⟨wb,0,none⟩ _ (.inr rfl);have HZ:Hid (Wk (w11.setCell ⟨wb,0,none⟩ (.slice (some ⟨g11,0,none⟩) (b.length+1) c11)) wb (.slice (some ⟨g11,0,none⟩) (b.length+1) c11) st/\Nmk wb (w11.setCell ⟨wb,0,none⟩ (.slice (some ⟨g11,0,none⟩) (b.length+1) c11)) (.slice (some ⟨g11,0,none⟩) (b.length+1) c11) (b++[e.nm])/\Keep wb wr (w11.setCell ⟨wb,0,none⟩ (.slice (some ⟨g11,0,none⟩) (b.length+1) c11))):=by
      refine⟨⟨(set3 W11.blk _).1,W11.ok⟩,Nmk.keep ⟨NM11,fun g off n c h=>by injection h with h1;injection h1 with h1;injection h1 with h1;rw[<-h1];exact hgw⟩ ((Keep.refl wb w11).set ⟨wb,0,none⟩ _ (.inr rfl)),K12⟩
     obtain⟨t0,t1,t2,tf⟩:=box3 W11.blk;clear s11 r11 B11 hgo hwo hgw NM11 K12 W11 p0 p1 p2 p3 p4 pf q0 q1 q2 qf;go_wp2;go_meet;exact⟨g11,c11,HZ.out.1,HZ.out.2.1,HZ.out.2.2⟩
    case rest =>
     obtain⟨g11,c11,W12,N12,K12⟩:=hcut;have E12:=(K12.block _ (lt_of_block E2) (Ne.symm hwbx)).trans E2;have S12:Sl wc (Nf wb) ((Fs.ex s .nil).app (.cons x.k x.n x.nm x.a x.kids .nil)) (some ⟨kb,off,none⟩):=by
      have:=Sl.keepF S2 K12
      rw[HK.out] at this;exact this
     have KW12:=KW2.trans K12;clear p0 p1 p2 p3 p4 pf q0 q1 q2 qf R8 s8 B8 E8 W8 L8 s10 R10 hrc L10 b1 b2 hone E2 S2 W2' hp hpb hcv KW2 K12 Z2;obtain⟨p0,p1,p2,p3,p4,pf⟩:=box5 E12;obtain⟨kb',off',ak,ck,hao,hk13,hkw,x0,x1,x2,x3,x4,SK⟩:=Sl.kidQ S12;injection hao with hao
     injection hao with h1 h2
     subst h1;subst h2;simp only[Fs.len,Fs.ex,Nat.zero_add,Nat.one_mul] at x0 x1 x2 x3 x4;have hb13:=lt_of_block E12;have hx':Rt13 N x (b++[e.nm]).length:=by rw[List.length_append];exact hx
     have hbo:bodyT e.n≠0:=by unfold bodyT;split<;>omega
     have bdT:Below wc.heap.size wc wc.drew:=⟨rfl,rfl,rfl,Nat.le_refl _,fun _ _=>rfl⟩
     have c3:=must_q IH x ak ck wb _ (b++[e.nm]) (bodyT e.n) st wc.drew hx' (fun _=>hbo) (W12.below bdT) (fun _=>N12.below bdT) (Sl.belowF SK bdT);rw[exV_out] at c3;have hbq:=fun wy=>body_q e.n wy;obtain⟨bo,hbo'⟩:∃bo,bo=bodyT e.n:=⟨_,rfl⟩
     rw[<-hbo'] at c3 hbq;have HBO:Hid (bodyT e.n=bo):=hbo'.symm;clear hbo' hbo;go_upto_region 10 with fail;go_cut [] (fun wx=>Wk wx wb (.slice (some ⟨g11,0,none⟩) (b.length+1) c11) (musR st bo x (b++[e.nm]))/\Keep wb wc wx)
     case first =>
      go_wp2_with fail;go_region_held3 (fun wx=>wx.cell? ⟨bx,1,none⟩=some (.int .i64 e.n)/\wx.cell? ⟨bx,3,none⟩=some (.slice (some ⟨kb,off,none⟩) 2 cap)/\wx.cell? ⟨kb,off+5,none⟩=some (.int .i64 x.k)/\wx.cell? ⟨kb,off+5+1,none⟩=some (.int .i64 x.n)/\wx.cell? ⟨kb,off+5+2,none⟩=some (stv x.nm)/\wx.cell? ⟨kb,off+5+3,none⟩=some (.slice ak x.kids.len ck)/\wx.cell? ⟨kb,off+5+4,none⟩=some (.int .i64 x.a))
       (first|exact KA|go_keep)
       (first
        | (go_at_call 171;refine(hbq _).mono ?_;rintro z w3 ⟨rfl,rfl⟩)
        | (go_at_call 162;refine c3.mono ?_;rintro z w3 ⟨rfl,W3,K3⟩;have KA:w3.cell? ⟨bx,1,none⟩=some (.int .i64 e.n)/\w3.cell? ⟨bx,3,none⟩=some (.slice (some ⟨kb,off,none⟩) 2 cap)/\w3.cell? ⟨kb,off+5,none⟩=some (.int .i64 x.k)/\w3.cell? ⟨kb,off+5+1,none⟩=some (.int .i64 x.n)/\w3.cell? ⟨kb,off+5+2,none⟩=some (stv x.nm)/\w3.cell? ⟨kb,off+5+3,none⟩=some (.slice ak x.kids.len ck)/\w3.cell? ⟨kb,off+5+4,none⟩=some (.int .i64 x.a):=⟨(K3.cell hb13 (Ne.symm hwbx) _).trans p1,(K3.cell hb13 (Ne.symm hwbx) _).trans p3,(K3.cell hk13 hkw _).trans x0,(K3.cell hk13 hkw _).trans x1,(K3.cell hk13 hkw _).trans x2,(K3.cell hk13 hkw _).trans x3,(K3.cell hk13 hkw _).trans x4⟩))
      all_goals (
       have HZ:Hid (Wk w3 wb (.slice (some ⟨g11,0,none⟩) (b.length+1) c11) (musR st bo x (b++[e.nm]))/\Keep wb wc w3):=⟨W3,Keep.bel bdT K3⟩
       clear KA W3 K3 c3 hbq;go_wp2;go_meet;exact HZ.out)
     case rest =>
      obtain⟨W13,K13⟩:=hcut;have E13:=(K13.block _ hb13 (Ne.symm hwbx)).trans E12;have KW13:=KW12.trans K13;have W14:Wk (wc.setCell ⟨wb,0,none⟩ (.slice av b.length capv)) wb (.slice av b.length capv) (musR st bo x (b++[e.nm])):=⟨(set3 W13.blk _).1,W13.ok⟩
      have K14:=KW13.trans ((Keep.refl wb wc).set ⟨wb,0,none⟩ (.slice av b.length capv) (.inr rfl));have E14:=(heap_setCell_other wc ⟨wb,0,none⟩ bx (.slice av b.length capv) (Ne.symm hwbx)).trans E13;obtain⟨q0,q1,q2,qf⟩:=box3 W13.blk;clear c3 hbq x0 x1 x2 x3 x4 SK S12 p0 p1 p2 p3 p4 pf E13 E12 KW12 KW13 K13 N12 W12 bdT W13;go_upto_region 12 with fail;generalize wc.setCell ⟨wb,0,none⟩ (.slice av b.length capv)=w14 at *;obtain⟨p0,p1,p2,p3,p4,pf⟩:=box5 E14;have c5:=whole_q e.n w14;obtain⟨wo,hwo⟩:∃wo,wo=wholeT e.n:=⟨_,rfl⟩
      rw[<-hwo] at c5;have HWO:Hid (wholeT e.n=wo):=hwo.symm;clear hwo;go_wp2_with fail;refine c5.mono ?_;rintro z w15 ⟨rfl,rfl⟩;have HZ:Hid (Wk w15 wb (.slice av b.length capv) (musR st bo x (b++[e.nm]))/\Keep wb w w15):=⟨W14,K14⟩
      clear c5 W14 K14;go_wp2;refine bodyPost_ret (v:=.int .i64 wo) (by simp[results,Tryz.results164,go_sem]) rfl ⟨by first|rfl|rw[HWO.out],by rw[HST.out,HBO.out];exact HZ.out.1,HZ.out.2⟩
  | cons kk kn km ka kks kr =>
   have hl0:(d.len:Int)<(s.kids.len:Int):=by simp only[Fs.len] at hlk;omega
   have hl1:d.len<s.kids.len:=by simp only[Fs.len] at hlk;omega
   have SK2:Sl wr (Nf wb) (d.app (Fs.ex ⟨kk,kn,km,ka,kks⟩ kr)) as':=by
    have:=Sl.keepF SK1 K2
    rw[hf.out] at this;exact this
   obtain⟨gb,go,ak,ck,hao,x0,x1,x2,x3,x4,SKK⟩:=Sl.kidP SK2 d.len rfl;subst hao;have c1:=must_q IH ⟨kk,kn,km,ka,kks⟩ ak ck wb bv b 3 _ wr (hs d kr _ hf.out) (fun _=>by decide) W2 (fun _=>N1.keep K2) SKK;rw[exV_out] at c1;simp only at c1 x0 x1 x2 x3 x4;have hf2:Hid (s.kids=(d.snoc ⟨kk,kn,km,ka,kks⟩).app kr):=by show s.kids=_;rw[hf.out];unfold Fs.snoc;rw[Fs.app_assoc];rfl
   have hl2:(d.len:Int)+1=((d.snoc ⟨kk,kn,km,ka,kks⟩).len:Nat):=by rw[Fs.len_snoc];rfl
   clear hf hlk SK2 SKK;go_wp2_with fail;refine c1.mono ?_;rintro z w3 ⟨rfl,W3,K3⟩;have W4:Wk w3 wb bv (musL (d.snoc ⟨kk,kn,km,ka,kks⟩) none b):=by rw[musL_snoc];exact W3
   have K4:=K2.trans K3;clear c1 W3 K3 W2 K2 p0 p1 p2 p3 p4 pf x0 x1 x2 x3 x4 Z2 E2;go_wp2;go_roundw
   case rel=>exact⟨_,kr,hf2,by rw[<-hl2],W4,K4⟩
   case measure=>simp[intOf];omega
end Go.Proofs.YtbjdkekhnajafaaGreatDoor

import Derived.Test.YtbjdkekhnajafaaGreatDoorTrD
set_option maxRecDepth 100000
set_option maxHeartbeats 8000000
namespace Go.Proofs.YtbjdkekhnajafaaGreatDoor
open Go.ChangeShapes Go.WideShapes Go.ChangeAt Go.RowKit
set_option linter.unusedVariables false
set_option linter.unusedSimpArgs false
theorem postKd {w w':World}{wb:Nat}{bv:Value}{st:Er}{g:Int}{r:Sum (Nat × Int) Int}(hc:r=resR st g)(W:Wk w' wb bv st)(K:Keep wb w w'):PostKd w wb bv r (.returned (.int .i64 g)) w':=by
 subst hc;cases st with
 | some x=>exact⟨⟨g,rfl,fun k h=>by cases h⟩,W,K⟩
 | none=>exact⟨⟨g,rfl,fun k h=>by injection h⟩,W,K⟩
theorem postKe {w w':World}{wb:Nat}{bv:Value}{x:Nat × Int}{g:Int}{r:Sum (Nat × Int) Int}(hc:r=.inl x)(W:Wk w' wb bv (some x))(K:Keep wb w w'):PostKd w wb bv r (.returned (.int .i64 g)) w':=by
 subst hc;exact⟨⟨g,rfl,fun k h=>by cases h⟩,W,K⟩
theorem len0:∀ {f:Fs},f.len=0->f=.nil
 | ⟨none⟩,_=>rfl
 | ⟨some ⟨k,n,nm,a,ks,r⟩⟩,h=>by simp[Fs.len] at h
theorem chk_name {n:Int}{nm:List UInt8}{a:Int}{b:List (List UInt8)}:chkE ⟨4,n,nm,a,.nil⟩ b=if nm ∈ b then .inr 3 else .inl (130,a):=by
 unfold chkE;by_cases h:nm ∈ b
 ·rw[if_neg (fun h2=>h2.2 h),if_pos h];rfl
 ·rw[if_pos ⟨rfl,h⟩,if_neg h]
theorem Rt13.kids {N:Nat}{k n:Int}{nm:List UInt8}{a:Int}{f:Fs}{nb:Nat}(h:Rt13 (N+1) ⟨k,n,nm,a,f⟩ nb)(hk:k≠21):Kds N f nb :=
 Kds.of (by have:=h.sz;simp only at this;omega) h.ok.2 (by have:=h.sk;simp only at this;rw[show (k==21)=false by simpa using hk] at this;exact this) h.sh (by have:=h.bl;simp only at this;omega)
theorem postNm {w w':World}{wb:Nat}{bv:Value}{b:List (List UInt8)}{n:Int}{nm:List UInt8}{a:Int}{r:Int}{x:Sum (Nat × Int) Int}(hc:x=chkE ⟨4,n,nm,a,.nil⟩ b)(h3:nm ∈ b->r=3)(W:Wk w' wb bv (if nm ∈ b then none else some (130,a)))(K:Keep wb w w'):PostKd w wb bv x (.returned (.int .i64 r)) w':=by
 subst hc;rw[chk_name];by_cases h:nm ∈ b
 ·rw[if_pos h] at W ⊢;obtain rfl:=h3 h;exact⟨⟨3,rfl,fun k h=>by injection h⟩,W,K⟩
 ·rw[if_neg h] at W ⊢;exact⟨⟨r,rfl,fun k h=>by cases h⟩,W,K⟩
theorem kind_step {N:Nat}(IH:KindOk N):KindOk (N+1):=by
 intro e ao cap wb bv b w hr h hn S;obtain⟨k0,n,nm,a,f⟩:=e;have hok:=hr.ok.1;have ho:=okR_of hok;have hkb:=hok.2.2.1;have hst:=hr.st;simp only at ho hkb hst;have hkk:k0=1\/k0=2\/k0=3\/k0=4\/k0=6\/k0=7\/k0=8\/k0=9\/k0=10\/k0=11\/k0=12\/k0=13\/k0=14\/k0=15\/k0=16\/k0=17\/k0=18\/k0=19\/k0=20\/k0=21:=by
  have h1:=okR_kind ho;have h2:k0≠22/\k0≠23/\k0≠24/\k0≠25:=by
   unfold isSetK at hst;simp at hst;omega
  omega
 obtain⟨W,hW⟩:∃W,W=chkE ⟨k0,n,nm,a,f⟩ b:=⟨_,rfl⟩
 rw[<-hW];have HW:Hid (W=chkE ⟨k0,n,nm,a,f⟩ b):=hW;clear hW hok hst;have B0:Below w.heap.size w (w.alloc (.cells #[.int .i64 k0,.int .i64 n,stv nm,.slice ao f.len cap,.int .i64 a] 25)):=(Below.refl _ w).alloc (Nat.le_refl _) _;have E0:(w.alloc (.cells #[.int .i64 k0,.int .i64 n,stv nm,.slice ao f.len cap,.int .i64 a] 25)).heap[w.heap.size]?=some (.cells #[.int .i64 k0,.int .i64 n,stv nm,.slice ao f.len cap,.int .i64 a] 25):=heap_alloc_new w _;have W0:=h.below B0;have S0:=Sl.belowF S B0;have hwb:=lt_of_block h.blk;have N0:=hn.below B0;clear h hn S;rw[exV_out];go_enter Tryz.func100,Tryz.ntmps100;go_upto_region 1 with fail;generalize w.alloc (.cells #[.int .i64 k0,.int .i64 n,stv nm,.slice ao f.len cap,.int .i64 a] 25)=w0 at *;obtain⟨bx,hbx⟩:∃bx,bx=w.heap.size:=⟨_,rfl⟩
 have hwbx:wb≠bx:=by omega
 rw[<-hbx] at E0 B0 ⊢;have HB:Hid (bx=w.heap.size):=hbx;clear hbx;have KW0:Keep wb w w0:=Keep.ofBelow (by rw[<-HB.out];exact B0);simp only at S0;rcases hkk with rfl|rfl|rfl|rfl|rfl|rfl|rfl|rfl|rfl|rfl|rfl|rfl|rfl|rfl|rfl|rfl|rfl|rfl|rfl|rfl
 ·have hl:f.len=0:=by simp[kidB] at hkb;omega
  obtain rfl:=len0 hl;have HZ:Hid (PostKd w wb bv W (.returned (.int .i64 1)) w0):=postKd (st:=none) (HW.out.trans rfl) W0 KW0;obtain⟨p0,p1,p2,p3,p4,pf⟩:=box5 E0;clear HW hr ho hkb S0 W0 N0 E0 B0 KW0;go_wp2;exact bodyPost_ret (v:=.int .i64 1) (by simp[results,Tryz.results100,go_sem]) rfl HZ.out
 ·have hl:f.len=0:=by simp[kidB] at hkb;omega
  obtain rfl:=len0 hl;have HZ:Hid (PostKd w wb bv W (.returned (.int .i64 2)) w0):=postKd (st:=none) (HW.out.trans rfl) W0 KW0;obtain⟨p0,p1,p2,p3,p4,pf⟩:=box5 E0;clear HW hr ho hkb S0 W0 N0 E0 B0 KW0;go_wp2;exact bodyPost_ret (v:=.int .i64 2) (by simp[results,Tryz.results100,go_sem]) rfl HZ.out
 ·have hl:f.len=0:=by simp[kidB] at hkb;omega
  obtain rfl:=len0 hl;have HZ:Hid (PostKd w wb bv W (.returned (.int .i64 3)) w0):=postKd (st:=none) (HW.out.trans rfl) W0 KW0;obtain⟨p0,p1,p2,p3,p4,pf⟩:=box5 E0;clear HW hr ho hkb S0 W0 N0 E0 B0 KW0;go_wp2;exact bodyPost_ret (v:=.int .i64 3) (by simp[results,Tryz.results100,go_sem]) rfl HZ.out
 ·have hl:f.len=0:=by simp[kidB] at hkb;omega
  obtain rfl:=len0 hl;have c1:=fun k=>name_q ⟨k,n,nm,a,.nil⟩ ao cap w0 wb bv b W0 N0 (by have:=hr.bl;simp only at this;omega);simp only[exV_out] at c1;obtain⟨p0,p1,p2,p3,p4,pf⟩:=box5 E0;clear hr ho hkb;go_wp2_with fail;refine(c1 _).mono ?_;rintro z w1 ⟨⟨r,rfl,h3⟩,W1,K1⟩;simp only at h3 W1;have HZ:Hid (PostKd w wb bv W (.returned (.int .i64 r)) w1):=postNm HW.out h3 W1 (KW0.trans K1);clear c1 W1 K1 h3 p0 p1 p2 p3 p4 pf S0 W0 N0 E0 B0 KW0 HW;go_wp2;exact bodyPost_ret (v:=.int .i64 r) (by simp[results,Tryz.results100,go_sem]) rfl HZ.out
 ·have hl:f.len=1:=by simp[kidB] at hkb;omega
  obtain⟨x,rfl⟩:=len1 hl;have hx:=hr.kids (by decide) .nil .nil x rfl;have HC:Hid (W=resR (musR none 1 x b) 1):=HW.out.trans (chk_one 1 1 (by decide) (by decide) rfl (by decide) rfl);obtain⟨p0,p1,p2,p3,p4,pf⟩:=box5 E0;obtain⟨kb,off,ak,ck,hao,x0,x1,x2,x3,x4,SK⟩:=Sl.kidP (x:=.nil) (r:=.nil) (y:=x) S0 0 rfl;subst hao;simp only[Nat.zero_mul,Nat.add_zero] at x0 x1 x2 x3 x4;have hlen:(Fs.ex x .nil).len=1:=rfl;have c1:=must_q IH x ak ck wb bv b 1 none w0 hx (fun _=>by decide) W0 (fun _=>N0) SK;rw[exV_out] at c1;clear HW hr ho hkb;simp only[hlen] at p3 ⊢;go_wp2_with fail;refine c1.mono ?_;rintro z w1 ⟨rfl,W1,K1⟩;have HZ:Hid (PostKd w wb bv W (.returned (.int .i64 1)) w1):=postKd HC.out W1 (KW0.trans K1);clear c1 W1 K1 HC p0 p1 p2 p3 p4 pf x0 x1 x2 x3 x4 SK S0 W0 N0 E0 B0 KW0;go_wp2;exact bodyPost_ret (v:=.int .i64 1) (by simp[results,Tryz.results100,go_sem]) rfl HZ.out
 ·have hl:f.len=1:=by simp[kidB] at hkb;omega
  obtain⟨x,rfl⟩:=len1 hl;have hx:=hr.kids (by decide) .nil .nil x rfl;have HC:Hid (W=resR (musR none 2 x b) 2):=HW.out.trans (chk_one 2 2 (by decide) (by decide) rfl (by decide) rfl);obtain⟨p0,p1,p2,p3,p4,pf⟩:=box5 E0;obtain⟨kb,off,ak,ck,hao,x0,x1,x2,x3,x4,SK⟩:=Sl.kidP (x:=.nil) (r:=.nil) (y:=x) S0 0 rfl;subst hao;simp only[Nat.zero_mul,Nat.add_zero] at x0 x1 x2 x3 x4;have hlen:(Fs.ex x .nil).len=1:=rfl;have c1:=must_q IH x ak ck wb bv b 2 none w0 hx (fun _=>by decide) W0 (fun _=>N0) SK;rw[exV_out] at c1;clear HW hr ho hkb;simp only[hlen] at p3 ⊢;go_wp2_with fail;refine c1.mono ?_;rintro z w1 ⟨rfl,W1,K1⟩;have HZ:Hid (PostKd w wb bv W (.returned (.int .i64 2)) w1):=postKd HC.out W1 (KW0.trans K1);clear c1 W1 K1 HC p0 p1 p2 p3 p4 pf x0 x1 x2 x3 x4 SK S0 W0 N0 E0 B0 KW0;go_wp2;exact bodyPost_ret (v:=.int .i64 2) (by simp[results,Tryz.results100,go_sem]) rfl HZ.out
 ·have hl:f.len=2:=by simp[kidB,opOf,opsL] at hkb;omega
  obtain⟨x,y,rfl⟩:=len2 hl;have hx:=hr.kids (by decide) .nil (Fs.ex y .nil) x rfl;have hy:=hr.kids (by decide) (Fs.ex x .nil) .nil y rfl;have HC:Hid (W=resR (musR (musR none 1 x b) 1 y b) 1):=HW.out.trans (chk_bin 1 1 (by decide) (by decide) rfl rfl (by decide) rfl);obtain⟨p0,p1,p2,p3,p4,pf⟩:=box5 E0;have c1:=fun k=>binary_q IH ⟨k,n,nm,a,Fs.ex x (Fs.ex y .nil)⟩ x y ao cap wb bv b 1 1 w0 rfl hx hy (by decide) W0 N0 S0;simp only[exV_out] at c1;clear HW hr ho hkb;go_wp2_with fail;refine(c1 _).mono ?_;rintro z w1 ⟨rfl,W1,K1⟩;have HZ:Hid (PostKd w wb bv W (.returned (.int .i64 1)) w1):=postKd HC.out W1 (KW0.trans K1);clear c1 W1 K1 HC p0 p1 p2 p3 p4 pf S0 W0 N0 E0 B0 KW0;go_wp2;exact bodyPost_ret (v:=.int .i64 1) (by simp[results,Tryz.results100,go_sem]) rfl HZ.out
 ·have hl:f.len=2:=by simp[kidB,opOf,opsL] at hkb;omega
  obtain⟨x,y,rfl⟩:=len2 hl;have hx:=hr.kids (by decide) .nil (Fs.ex y .nil) x rfl;have hy:=hr.kids (by decide) (Fs.ex x .nil) .nil y rfl;have HC:Hid (W=resR (musR (musR none 1 x b) 1 y b) 1):=HW.out.trans (chk_bin 1 1 (by decide) (by decide) rfl rfl (by decide) rfl);obtain⟨p0,p1,p2,p3,p4,pf⟩:=box5 E0;have c1:=fun k=>binary_q IH ⟨k,n,nm,a,Fs.ex x (Fs.ex y .nil)⟩ x y ao cap wb bv b 1 1 w0 rfl hx hy (by decide) W0 N0 S0;simp only[exV_out] at c1;clear HW hr ho hkb;go_wp2_with fail;refine(c1 _).mono ?_;rintro z w1 ⟨rfl,W1,K1⟩;have HZ:Hid (PostKd w wb bv W (.returned (.int .i64 1)) w1):=postKd HC.out W1 (KW0.trans K1);clear c1 W1 K1 HC p0 p1 p2 p3 p4 pf S0 W0 N0 E0 B0 KW0;go_wp2;exact bodyPost_ret (v:=.int .i64 1) (by simp[results,Tryz.results100,go_sem]) rfl HZ.out
 ·have hl:f.len=2:=by simp[kidB,opOf,opsL] at hkb;omega
  obtain⟨x,y,rfl⟩:=len2 hl;have hx:=hr.kids (by decide) .nil (Fs.ex y .nil) x rfl;have hy:=hr.kids (by decide) (Fs.ex x .nil) .nil y rfl;have HC:Hid (W=resR (musR (musR none 1 x b) 1 y b) 1):=HW.out.trans (chk_bin 1 1 (by decide) (by decide) rfl rfl (by decide) rfl);obtain⟨p0,p1,p2,p3,p4,pf⟩:=box5 E0;have c1:=fun k=>binary_q IH ⟨k,n,nm,a,Fs.ex x (Fs.ex y .nil)⟩ x y ao cap wb bv b 1 1 w0 rfl hx hy (by decide) W0 N0 S0;simp only[exV_out] at c1;clear HW hr ho hkb;go_wp2_with fail;refine(c1 _).mono ?_;rintro z w1 ⟨rfl,W1,K1⟩;have HZ:Hid (PostKd w wb bv W (.returned (.int .i64 1)) w1):=postKd HC.out W1 (KW0.trans K1);clear c1 W1 K1 HC p0 p1 p2 p3 p4 pf S0 W0 N0 E0 B0 KW0;go_wp2;exact bodyPost_ret (v:=.int .i64 1) (by simp[results,Tryz.results100,go_sem]) rfl HZ.out
 ·have hl:f.len=2:=by simp[kidB,opOf,opsL] at hkb;omega
  obtain⟨x,y,rfl⟩:=len2 hl;have hx:=hr.kids (by decide) .nil (Fs.ex y .nil) x rfl;have hy:=hr.kids (by decide) (Fs.ex x .nil) .nil y rfl;have HC:Hid (W=resR (musR (musR none 1 x b) 1 y b) 1):=HW.out.trans (chk_bin 1 1 (by decide) (by decide) rfl rfl (by decide) rfl);obtain⟨p0,p1,p2,p3,p4,pf⟩:=box5 E0;have c1:=fun k=>binary_q IH ⟨k,n,nm,a,Fs.ex x (Fs.ex y .nil)⟩ x y ao cap wb bv b 1 1 w0 rfl hx hy (by decide) W0 N0 S0;simp only[exV_out] at c1;clear HW hr ho hkb;go_wp2_with fail;refine(c1 _).mono ?_;rintro z w1 ⟨rfl,W1,K1⟩;have HZ:Hid (PostKd w wb bv W (.returned (.int .i64 1)) w1):=postKd HC.out W1 (KW0.trans K1);clear c1 W1 K1 HC p0 p1 p2 p3 p4 pf S0 W0 N0 E0 B0 KW0;go_wp2;exact bodyPost_ret (v:=.int .i64 1) (by simp[results,Tryz.results100,go_sem]) rfl HZ.out
 ·have hl:f.len=2:=by simp[kidB,opOf,opsL] at hkb;omega
  obtain⟨x,y,rfl⟩:=len2 hl;have hx:=hr.kids (by decide) .nil (Fs.ex y .nil) x rfl;have hy:=hr.kids (by decide) (Fs.ex x .nil) .nil y rfl;have HC:Hid (W=resR (musR (musR none 1 x b) 1 y b) 1):=HW.out.trans (chk_bin 1 1 (by decide) (by decide) rfl rfl (by decide) rfl);obtain⟨p0,p1,p2,p3,p4,pf⟩:=box5 E0;have c1:=fun k=>binary_q IH ⟨k,n,nm,a,Fs.ex x (Fs.ex y .nil)⟩ x y ao cap wb bv b 1 1 w0 rfl hx hy (by decide) W0 N0 S0;simp only[exV_out] at c1;clear HW hr ho hkb;go_wp2_with fail;refine(c1 _).mono ?_;rintro z w1 ⟨rfl,W1,K1⟩;have HZ:Hid (PostKd w wb bv W (.returned (.int .i64 1)) w1):=postKd HC.out W1 (KW0.trans K1);clear c1 W1 K1 HC p0 p1 p2 p3 p4 pf S0 W0 N0 E0 B0 KW0;go_wp2;exact bodyPost_ret (v:=.int .i64 1) (by simp[results,Tryz.results100,go_sem]) rfl HZ.out
 ·have hl:f.len=2:=by simp[kidB,opOf,opsL] at hkb;omega
  obtain⟨x,y,rfl⟩:=len2 hl;have hx:=hr.kids (by decide) .nil (Fs.ex y .nil) x rfl;have hy:=hr.kids (by decide) (Fs.ex x .nil) .nil y rfl;have HC:Hid (W=(match chkE x b with | .inl e=>.inl e | .inr k0=>resR (musR none k0 y b) 2)):=HW.out.trans (chk_alike (by decide));have hpos:=chkE_pos N x b;have hxs:=hx.sz;have hxo:=hx.ok;obtain⟨p0,p1,p2,p3,p4,pf⟩:=box5 E0;obtain⟨kb,off,ak,ck,hao,x0,x1,x2,x3,x4,SK⟩:=Sl.kidP (x:=.nil) (r:=Fs.ex y .nil) (y:=x) S0 0 rfl;subst hao;simp only[Nat.zero_mul,Nat.add_zero] at x0 x1 x2 x3 x4;have hlen:(Fs.ex x (Fs.ex y .nil)).len=2:=rfl;have c1:=IH x ak ck wb bv b w0 hx W0 N0 SK;rw[exV_out] at c1;clear HW hr ho hkb;simp only[hlen] at p3 E0 ⊢;go_wp2_with fail;refine c1.mono ?_;rintro z w1 ⟨⟨k',rfl,hk'⟩,W1,K1⟩;have E1:=(K1.block _ (lt_of_block E0) (Ne.symm hwbx)).trans E0;have S1:=Sl.keepF S0 K1;have N1:=N0.keep K1;have KW1:=KW0.trans K1;clear c1 p0 p1 p2 p3 p4 pf x0 x1 x2 x3 x4 SK S0 W0 N0 E0 B0 KW0 K1;obtain⟨p0,p1,p2,p3,p4,pf⟩:=box5 E1;obtain⟨kb2,off2,ak,ck,hao,x0,x1,x2,x3,x4,SK⟩:=Sl.kidP (x:=Fs.ex x .nil) (r:=.nil) (y:=y) S1 1 rfl;injection hao with hao
  injection hao with h1 h2
  subst h1;subst h2;simp only[Nat.one_mul] at x0 x1 x2 x3 x4;have hm:stS (chkE x b)=none->k'≠0:=by
   intro hs;cases hc:chkE x b with
   | inl z=>rw[hc] at hs;cases hs
   | inr k1 =>
    rw[hk' k1 hc];exact hpos k1 hxs hxo hc
  have c2:=must_q IH y ak ck wb bv b k' _ w1 hy hm W1 (fun _=>N1) SK;rw[exV_out] at c2;have HC2:Hid (W=resR (musR (stS (chkE x b)) k' y b) 2):=by
   show W=_;rw[HC.out];cases hc:chkE x b with
   | inl z=>rfl
   | inr k1=>rw[hk' k1 hc];rfl
  clear HC hm hpos hk' hxs hxo;go_wp2_with fail;refine c2.mono ?_;rintro z w2 ⟨rfl,W2,K2⟩;have HZ:Hid (PostKd w wb bv W (.returned (.int .i64 2)) w2):=postKd HC2.out W2 (KW1.trans K2);clear c2 W2 K2 HC2 p0 p1 p2 p3 p4 pf x0 x1 x2 x3 x4 SK S1 W1 N1 E1 KW1;go_wp2;exact bodyPost_ret (v:=.int .i64 2) (by simp[results,Tryz.results100,go_sem]) rfl HZ.out
 ·have hl:f.len=2:=by simp[kidB,opOf,opsL] at hkb;omega
  obtain⟨x,y,rfl⟩:=len2 hl;have hx:=hr.kids (by decide) .nil (Fs.ex y .nil) x rfl;have hy:=hr.kids (by decide) (Fs.ex x .nil) .nil y rfl;have HC:Hid (W=(match chkE x b with | .inl e=>.inl e | .inr k0=>resR (musR none k0 y b) 2)):=HW.out.trans (chk_alike (by decide));have hpos:=chkE_pos N x b;have hxs:=hx.sz;have hxo:=hx.ok;obtain⟨p0,p1,p2,p3,p4,pf⟩:=box5 E0;obtain⟨kb,off,ak,ck,hao,x0,x1,x2,x3,x4,SK⟩:=Sl.kidP (x:=.nil) (r:=Fs.ex y .nil) (y:=x) S0 0 rfl;subst hao;simp only[Nat.zero_mul,Nat.add_zero] at x0 x1 x2 x3 x4;have hlen:(Fs.ex x (Fs.ex y .nil)).len=2:=rfl;have c1:=IH x ak ck wb bv b w0 hx W0 N0 SK;rw[exV_out] at c1;clear HW hr ho hkb;simp only[hlen] at p3 E0 ⊢;go_wp2_with fail;refine c1.mono ?_;rintro z w1 ⟨⟨k',rfl,hk'⟩,W1,K1⟩;have E1:=(K1.block _ (lt_of_block E0) (Ne.symm hwbx)).trans E0;have S1:=Sl.keepF S0 K1;have N1:=N0.keep K1;have KW1:=KW0.trans K1;clear c1 p0 p1 p2 p3 p4 pf x0 x1 x2 x3 x4 SK S0 W0 N0 E0 B0 KW0 K1;obtain⟨p0,p1,p2,p3,p4,pf⟩:=box5 E1;obtain⟨kb2,off2,ak,ck,hao,x0,x1,x2,x3,x4,SK⟩:=Sl.kidP (x:=Fs.ex x .nil) (r:=.nil) (y:=y) S1 1 rfl;injection hao with hao
  injection hao with h1 h2
  subst h1;subst h2;simp only[Nat.one_mul] at x0 x1 x2 x3 x4;have hm:stS (chkE x b)=none->k'≠0:=by
   intro hs;cases hc:chkE x b with
   | inl z=>rw[hc] at hs;cases hs
   | inr k1 =>
    rw[hk' k1 hc];exact hpos k1 hxs hxo hc
  have c2:=must_q IH y ak ck wb bv b k' _ w1 hy hm W1 (fun _=>N1) SK;rw[exV_out] at c2;have HC2:Hid (W=resR (musR (stS (chkE x b)) k' y b) 2):=by
   show W=_;rw[HC.out];cases hc:chkE x b with
   | inl z=>rfl
   | inr k1=>rw[hk' k1 hc];rfl
  clear HC hm hpos hk' hxs hxo;go_wp2_with fail;refine c2.mono ?_;rintro z w2 ⟨rfl,W2,K2⟩;have HZ:Hid (PostKd w wb bv W (.returned (.int .i64 2)) w2):=postKd HC2.out W2 (KW1.trans K2);clear c2 W2 K2 HC2 p0 p1 p2 p3 p4 pf x0 x1 x2 x3 x4 SK S1 W1 N1 E1 KW1;go_wp2;exact bodyPost_ret (v:=.int .i64 2) (by simp[results,Tryz.results100,go_sem]) rfl HZ.out
 ·have hl:f.len=2:=by simp[kidB,opOf,opsL] at hkb;omega
  obtain⟨x,y,rfl⟩:=len2 hl;have hx:=hr.kids (by decide) .nil (Fs.ex y .nil) x rfl;have hy:=hr.kids (by decide) (Fs.ex x .nil) .nil y rfl;have HC:Hid (W=resR (musR (musR none 1 x b) 1 y b) 2):=HW.out.trans (chk_bin 1 2 (by decide) (by decide) rfl rfl (by decide) rfl);obtain⟨p0,p1,p2,p3,p4,pf⟩:=box5 E0;have c1:=fun k=>binary_q IH ⟨k,n,nm,a,Fs.ex x (Fs.ex y .nil)⟩ x y ao cap wb bv b 1 2 w0 rfl hx hy (by decide) W0 N0 S0;simp only[exV_out] at c1;clear HW hr ho hkb;go_wp2_with fail;refine(c1 _).mono ?_;rintro z w1 ⟨rfl,W1,K1⟩;have HZ:Hid (PostKd w wb bv W (.returned (.int .i64 2)) w1):=postKd HC.out W1 (KW0.trans K1);clear c1 W1 K1 HC p0 p1 p2 p3 p4 pf S0 W0 N0 E0 B0 KW0;go_wp2;exact bodyPost_ret (v:=.int .i64 2) (by simp[results,Tryz.results100,go_sem]) rfl HZ.out
 ·have hl:f.len=2:=by simp[kidB,opOf,opsL] at hkb;omega
  obtain⟨x,y,rfl⟩:=len2 hl;have hx:=hr.kids (by decide) .nil (Fs.ex y .nil) x rfl;have hy:=hr.kids (by decide) (Fs.ex x .nil) .nil y rfl;have HC:Hid (W=resR (musR (musR none 1 x b) 1 y b) 2):=HW.out.trans (chk_bin 1 2 (by decide) (by decide) rfl rfl (by decide) rfl);obtain⟨p0,p1,p2,p3,p4,pf⟩:=box5 E0;have c1:=fun k=>binary_q IH ⟨k,n,nm,a,Fs.ex x (Fs.ex y .nil)⟩ x y ao cap wb bv b 1 2 w0 rfl hx hy (by decide) W0 N0 S0;simp only[exV_out] at c1;clear HW hr ho hkb;go_wp2_with fail;refine(c1 _).mono ?_;rintro z w1 ⟨rfl,W1,K1⟩;have HZ:Hid (PostKd w wb bv W (.returned (.int .i64 2)) w1):=postKd HC.out W1 (KW0.trans K1);clear c1 W1 K1 HC p0 p1 p2 p3 p4 pf S0 W0 N0 E0 B0 KW0;go_wp2;exact bodyPost_ret (v:=.int .i64 2) (by simp[results,Tryz.results100,go_sem]) rfl HZ.out
 ·have hl:f.len=2:=by simp[kidB,opOf,opsL] at hkb;omega
  obtain⟨x,y,rfl⟩:=len2 hl;have hx:=hr.kids (by decide) .nil (Fs.ex y .nil) x rfl;have hy:=hr.kids (by decide) (Fs.ex x .nil) .nil y rfl;have HC:Hid (W=resR (musR (musR none 2 x b) 2 y b) 2):=HW.out.trans (chk_bin 2 2 (by decide) (by decide) rfl rfl (by decide) rfl);obtain⟨p0,p1,p2,p3,p4,pf⟩:=box5 E0;have c1:=fun k=>binary_q IH ⟨k,n,nm,a,Fs.ex x (Fs.ex y .nil)⟩ x y ao cap wb bv b 2 2 w0 rfl hx hy (by decide) W0 N0 S0;simp only[exV_out] at c1;clear HW hr ho hkb;go_wp2_with fail;refine(c1 _).mono ?_;rintro z w1 ⟨rfl,W1,K1⟩;have HZ:Hid (PostKd w wb bv W (.returned (.int .i64 2)) w1):=postKd HC.out W1 (KW0.trans K1);clear c1 W1 K1 HC p0 p1 p2 p3 p4 pf S0 W0 N0 E0 B0 KW0;go_wp2;exact bodyPost_ret (v:=.int .i64 2) (by simp[results,Tryz.results100,go_sem]) rfl HZ.out
 ·have hl:f.len=2:=by simp[kidB,opOf,opsL] at hkb;omega
  obtain⟨x,y,rfl⟩:=len2 hl;have hx:=hr.kids (by decide) .nil (Fs.ex y .nil) x rfl;have hy:=hr.kids (by decide) (Fs.ex x .nil) .nil y rfl;have HC:Hid (W=resR (musR (musR none 2 x b) 2 y b) 2):=HW.out.trans (chk_bin 2 2 (by decide) (by decide) rfl rfl (by decide) rfl);obtain⟨p0,p1,p2,p3,p4,pf⟩:=box5 E0;have c1:=fun k=>binary_q IH ⟨k,n,nm,a,Fs.ex x (Fs.ex y .nil)⟩ x y ao cap wb bv b 2 2 w0 rfl hx hy (by decide) W0 N0 S0;simp only[exV_out] at c1;clear HW hr ho hkb;go_wp2_with fail;refine(c1 _).mono ?_;rintro z w1 ⟨rfl,W1,K1⟩;have HZ:Hid (PostKd w wb bv W (.returned (.int .i64 2)) w1):=postKd HC.out W1 (KW0.trans K1);clear c1 W1 K1 HC p0 p1 p2 p3 p4 pf S0 W0 N0 E0 B0 KW0;go_wp2;exact bodyPost_ret (v:=.int .i64 2) (by simp[results,Tryz.results100,go_sem]) rfl HZ.out
 ·have hl:f.len=3:=by simp[kidB] at hkb;omega
  obtain⟨x,y,u,rfl⟩:=len3 hl;have hx:=hr.kids (by decide) .nil (Fs.ex y (Fs.ex u .nil)) x rfl;have hy:=hr.kids (by decide) (Fs.ex x .nil) (Fs.ex u .nil) y rfl;have hu:=hr.kids (by decide) (Fs.ex x (Fs.ex y .nil)) .nil u rfl;have HC:Hid (W=(match musR none 2 x b with|some e=>.inl e|none=>match chkE y b with | .inl e=>.inl e | .inr k1=>resR (musR none k1 u b) k1)):=HW.out.trans chk_choice;have hpos:=chkE_pos N y b;have hys:=hy.sz;have hyo:=hy.ok;obtain⟨p0,p1,p2,p3,p4,pf⟩:=box5 E0;obtain⟨kb,off,ak,ck,hao,x0,x1,x2,x3,x4,SK⟩:=Sl.kidP (x:=.nil) (r:=Fs.ex y (Fs.ex u .nil)) (y:=x) S0 0 rfl;subst hao;simp only[Nat.zero_mul,Nat.add_zero] at x0 x1 x2 x3 x4;have hlen:(Fs.ex x (Fs.ex y (Fs.ex u .nil))).len=3:=rfl;have c1:=must_q IH x ak ck wb bv b 2 none w0 hx (fun _=>by decide) W0 (fun _=>N0) SK;rw[exV_out] at c1;clear HW hr ho hkb;simp only[hlen] at p3 E0 ⊢;go_wp2_with fail;refine c1.mono ?_;rintro z w1 ⟨rfl,W1,K1⟩;have E1:=(K1.block _ (lt_of_block E0) (Ne.symm hwbx)).trans E0;have S1:=Sl.keepF S0 K1;have N1:=N0.keep K1;have KW1:=KW0.trans K1;clear c1 p0 p1 p2 p3 p4 pf x0 x1 x2 x3 x4 SK S0 W0 N0 E0 B0 KW0 K1;obtain⟨p0,p1,p2,p3,p4,pf⟩:=box5 E1;obtain⟨q0,q1,q2,qf⟩:=box3 W1.blk;cases hmx:musR none 2 x b with
  | some z =>
   rw[hmx] at W1 q1 q2;have hz:=W1.ok z rfl;obtain⟨er,pa⟩:=z;simp only[erO,plO] at q1 q2 hz;have hne:((er:Int) != 0)=true:=by simp;omega
   have HZ:Hid (PostKd w wb bv W (.returned (.int .i64 0)) w1):=postKe (by rw[HC.out,hmx]) W1 KW1;clear HC hpos W1 KW1 N1 S1 hmx;go_wp2;exact bodyPost_ret (v:=.int .i64 0) (by simp[results,Tryz.results100,go_sem]) rfl HZ.out
  | none =>
   rw[hmx] at W1 q1 q2;simp only[erO,plO] at q1 q2;have HC1:Hid (W=(match chkE y b with | .inl e=>.inl e | .inr k1=>resR (musR none k1 u b) k1)):=by show W=_;rw[HC.out,hmx]
   obtain⟨kb2,off2,ak,ck,hao,x0,x1,x2,x3,x4,SK⟩:=Sl.kidP (x:=Fs.ex x .nil) (r:=Fs.ex u .nil) (y:=y) S1 1 rfl;injection hao with hao
   injection hao with h1 h2
   subst h1;subst h2;simp only[Nat.one_mul] at x0 x1 x2 x3 x4;have c2:=IH y ak ck wb bv b w1 hy W1 N1 SK;rw[exV_out] at c2;clear HC hmx;go_wp2_with fail;refine c2.mono ?_;rintro z w2 ⟨⟨k',rfl,hk'⟩,W2,K2⟩;have E2:=(K2.block _ (lt_of_block E1) (Ne.symm hwbx)).trans E1;have S2:=Sl.keepF S1 K2;have N2:=N1.keep K2;have KW2:=KW1.trans K2;clear c2 p0 p1 p2 p3 p4 pf q0 q1 q2 qf x0 x1 x2 x3 x4 SK S1 W1 N1 E1 KW1 K2;obtain⟨p0,p1,p2,p3,p4,pf⟩:=box5 E2;obtain⟨kb2,off2,ak,ck,hao,x0,x1,x2,x3,x4,SK⟩:=Sl.kidP (x:=Fs.ex x (Fs.ex y .nil)) (r:=.nil) (y:=u) S2 2 rfl;injection hao with hao
   injection hao with h1 h2
   subst h1;subst h2;simp only[Nat.reduceMul] at x0 x1 x2 x3 x4;have hm:stS (chkE y b)=none->k'≠0:=by
    intro hs;cases hc:chkE y b with
    | inl z=>rw[hc] at hs;cases hs
    | inr k1 =>
     rw[hk' k1 hc];exact hpos k1 hys hyo hc
   have c3:=must_q IH u ak ck wb bv b k' _ w2 hu hm W2 (fun _=>N2) SK;rw[exV_out] at c3;have HC2:Hid (W=resR (musR (stS (chkE y b)) k' u b) k'):=by
    show W=_;rw[HC1.out];cases hc:chkE y b with
    | inl z=>rfl
    | inr k1=>rw[hk' k1 hc];rfl
   clear HC1 hm hpos hk' hys hyo;go_wp2_with fail;refine c3.mono ?_;rintro z w3 ⟨rfl,W3,K3⟩;have HZ:Hid (PostKd w wb bv W (.returned (.int .i64 k')) w3):=postKd HC2.out W3 (KW2.trans K3);clear c3 W3 K3 HC2 p0 p1 p2 p3 p4 pf x0 x1 x2 x3 x4 SK S2 W2 N2 E2 KW2;go_wp2;exact bodyPost_ret (v:=.int .i64 k') (by simp[results,Tryz.results100,go_sem]) rfl HZ.out
 ·have hs:=hr.kids (by decide);have hlen1:=hr.len;simp only at hlen1;have HC:Hid (W=resR (musL f none b) (giveT n)):=by
   rcases ho with ho|⟨-,h1,h2⟩|⟨ho,-⟩|⟨ho,-⟩
   ·omega
   ·exact HW.out.trans (chk_call h1 h2)
   ·omega
   ·omega
  obtain⟨p0,p1,p2,p3,p4,pf⟩:=box5 E0;clear HW hr ho hkb;go_upto_region 42 with fail;clear p0 p1 p2 p3 p4 pf;go_loopw [7] (fun v wr=>∃(d r:Fs),Hid (f=d.app r)/\v=.int .i64 (d.len:Nat)/\Wk wr wb bv (musL d none b)/\Keep wb w0 wr) (fun v _=>f.len-(intOf v).toNat)
  case atStart=>exact⟨.nil,f,rfl,by show _=Value.int .i64 ((0:Nat):Int);rfl,W0,Keep.refl _ _⟩
  case round =>
   obtain⟨d,r,hf,rfl,W2,K2⟩:=hrel;have hlk:f.len=d.len+r.len:=by rw[hf.out,Fs.len_app]
   have E2:=(K2.block _ (lt_of_block E0) (Ne.symm hwbx)).trans E0;obtain⟨p0,p1,p2,p3,p4,pf⟩:=box5 E2;cases r using Fs.on with
   | nil =>
    have hl0:¬(d.len:Int)<(f.len:Int):=by simp only[Fs.len] at hlk;omega
    have hdn:f=d:=by rw[hf.out];clear hf hlk hl0 W2;exact app_nil13 d
    have c2:=gives_q n wr;obtain⟨gv,hgv⟩:∃gv,gv=giveT n:=⟨_,rfl⟩
    rw[<-hgv] at c2;have HZ:Hid (PostKd w wb bv W (.returned (.int .i64 gv)) wr):=postKd (by rw[HC.out,hdn,hgv]) W2 (KW0.trans K2);clear HC hgv hdn hf hlk W2 K2;go_wp2_with fail;refine c2.mono ?_;rintro z w3 ⟨rfl,rfl⟩;clear c2;go_wp2;exact bodyPost_ret (v:=.int .i64 gv) (by simp[results,Tryz.results100,go_sem]) rfl HZ.out
   | cons kk kn km ka kks kr =>
    have hl0:(d.len:Int)<(f.len:Int):=by simp only[Fs.len] at hlk;omega
    have hl1:d.len<f.len:=by simp only[Fs.len] at hlk;omega
    have SK2:Sl wr (Nf wb) (d.app (Fs.ex ⟨kk,kn,km,ka,kks⟩ kr)) ao:=by
     have:=Sl.keepF S0 K2
     rw[hf.out] at this;exact this
    obtain⟨gb,go,ak,ck,hao,x0,x1,x2,x3,x4,SKK⟩:=Sl.kidP SK2 d.len rfl;subst hao;have c1:=must_q IH ⟨kk,kn,km,ka,kks⟩ ak ck wb bv b 3 _ wr (hs d kr _ hf.out) (fun _=>by decide) W2 (fun _=>N0.keep K2) SKK;rw[exV_out] at c1;simp only at c1 x0 x1 x2 x3 x4;have hf2:Hid (f=(d.snoc ⟨kk,kn,km,ka,kks⟩).app kr):=by show f=_;rw[hf.out];unfold Fs.snoc;rw[Fs.app_assoc];rfl
    have hl2:(d.len:Int)+1=((d.snoc ⟨kk,kn,km,ka,kks⟩).len:Nat):=by rw[Fs.len_snoc];rfl
    clear hf hlk SK2 SKK;go_wp2_with fail;refine c1.mono ?_;rintro z w3 ⟨rfl,W3,K3⟩;have W4:Wk w3 wb bv (musL (d.snoc ⟨kk,kn,km,ka,kks⟩) none b):=by rw[musL_snoc];exact W3
    have K4:=K2.trans K3;clear c1 W3 K3 W2 K2 p0 p1 p2 p3 p4 pf x0 x1 x2 x3 x4 E2;go_wp2;go_roundw
    case rel=>exact⟨_,kr,hf2,by rw[<-hl2],W4,K4⟩
    case measure=>simp[intOf];omega
 ·have hl:f.len=2:=by simp[kidB] at hkb;omega
  obtain⟨s,x,rfl⟩:=len2 hl;have hok:=hr.ok.2;have hsk:=hr.sk;have hsz:=hr.sz;have hsh:=hr.sh;have hbl:=hr.bl;simp only at hok hsk hsz hsh hbl;have hsk':(Fs.ex s (Fs.ex x .nil)).stk true:=hsk;have hoks:=okA_ex hok;have hokx:=okA_ex hoks.2;simp only[size_ex,Fs.size] at hsz hbl;have hx:Rt13 N x (b.length+1):=⟨by omega,hokx.1,hsk'.2.2.1,hsk'.2.2.2.1,hsh.2.2.2.2.1,hsh.2.2.2.2.2.1,by omega⟩
  have hs21:s.k≠21:=by
   intro h
   have:=hsk'.1
   rw[h] at this;cases this
  have hs:Kds N s.kids b.length:=Kds.of (by omega) hoks.1.2 (by have:=hsk'.2.1;rw[show (s.k==21)=false by simpa using hs21] at this;exact this) hsh.2.2.1 (by omega);have hset:(s.k=22\/s.k=23)/\s.kids.len=0\/s.k=24/\s.kids.len=1\/s.k=25:=by
   have h1:=hsk'.1;have h2:=hoks.1.1.2.2.1;unfold isSetK at h1;simp at h1;rcases h1 with ((h1|h1)|h1)|h1<;>rw[h1] at h2<;>(simp[kidB] at h2;omega)
  have hcs:chkE s b=resR (musL s.kids none b) 4:=chk_set hset;have HC:Hid (W=resR (musR (musL s.kids none b) (bodyT n) x (b++[nm])) (wholeT n)):=by
   rcases ho with ho|⟨ho,-⟩|⟨-,h1,-⟩|⟨ho,-⟩
   ·omega
   ·omega
   ·exact HW.out.trans (chk_quant h1 hcs)
   ·omega
  obtain⟨p0,p1,p2,p3,p4,pf⟩:=box5 E0;have c1:=fun k=>quant13 IH ⟨k,n,nm,a,Fs.ex s (Fs.ex x .nil)⟩ s x ao cap wb bv b w0 rfl hs hsh.2.1 hx W0 N0 S0;simp only[exV_out] at c1;obtain⟨wo,hwo⟩:∃wo,wo=wholeT n:=⟨_,rfl⟩
  rw[<-hwo] at c1;clear HW hr ho hkb hok hsk hsz hsh hbl hsk' hoks hokx hx hs21 hs hset hcs;go_wp2_with fail;refine(c1 _).mono ?_;rintro z w1 ⟨rfl,W1,K1⟩;have HZ:Hid (PostKd w wb bv W (.returned (.int .i64 wo)) w1):=postKd (by rw[HC.out,hwo]) W1 (KW0.trans K1);clear c1 W1 K1 HC p0 p1 p2 p3 p4 pf S0 W0 N0 E0 B0 KW0 hwo;go_wp2;exact bodyPost_ret (v:=.int .i64 wo) (by simp[results,Tryz.results100,go_sem]) rfl HZ.out
theorem kind_ok:∀ N,KindOk N
 | 0=>fun e ao cap wb bv b w h=>absurd h.sz (Nat.not_lt_zero _)
 | N+1=>kind_step (kind_ok N)
end Go.Proofs.YtbjdkekhnajafaaGreatDoor

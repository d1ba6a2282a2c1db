import Derived.Test.YtejnhibajmncaaaDoorGdO
set_option maxRecDepth 100000
set_option maxHeartbeats 8000000
namespace Go.Proofs.YtejnhibajmncaaaDoor
open Go.ChangeShapes Go.WideShapes Go.ChangeAt Go.RowKit
set_option linter.unusedVariables false
set_option linter.unusedSimpArgs false
theorem sizeSt (s:StG):(Tryd.prog.info? 81).map (·.size)=some (stC s).length:=by
 rw[stC_len];kernel_rfl
theorem setCells_row {b:Nat}{t:TypeId}:∀ (new old pre:List Value) (w:World),w.heap[b]?=some (.cells (pre++old).toArray t (0,0))->old.length=new.length->(w.setCells b pre.length new).heap[b]?=some (.cells (pre++new).toArray t (0,0))
 | [],[],pre,w,h,_=>h
 | [],x::r,pre,w,h,hl=>by simp at hl
 | x::r,[],pre,w,h,hl=>by simp at hl
 | x::r,y::q,pre,w,h,hl=>by
  rw[World.setCells];have h2:(w.setCell ⟨b,pre.length,none⟩ x).heap[b]?=some (.cells ((pre++[x])++q).toArray t (0,0)):=by
   have:=blk_set (n:=pre.length) h x
   rw[this];simp
  have h3:=setCells_row r q (pre++[x]) _ h2 (by simpa using hl);rw[List.length_append,List.length_cons,List.length_nil,Nat.zero_add] at h3;rw[h3];simp
theorem below_setCellsg {a:World}{b n:Nat}(hb:n<=b):∀ (cs:List Value) (o:Nat) (w:World),Below n a w->Below n a (w.setCells b o cs)
 | [],_,_,h=>h
 | v::r,o,w,h=>by
  rw[World.setCells];exact below_setCellsg hb r (o+1) _ (h.setCell (p:=⟨b,o,none⟩) hb v)
theorem setCells_other {b k:Nat}(h:k≠b):∀ (cs:List Value) (o:Nat) (w:World),(w.setCells b o cs).heap[k]?=w.heap[k]?
 | [],_,_=>rfl
 | v::r,o,w=>by
  rw[World.setCells,setCells_other h r (o+1)];exact heap_setCell_other _ _ _ _ h
theorem there_blkg {w:World}{b n:Nat}{cs:List Value}{t:TypeId}(h:w.heap[b]?=some (.cells cs.toArray t (0,0)))(hn:cs.length=n):w.there b 0 n:=fun j hj=>by
 refine⟨?_,frozen_of_row w b _ _ t h⟩;rw[cell_of_row w b (0+j) _ t (0,0) h];simp[hn,hj]
theorem turng {w:World}{ob:Obj}{w1:World}(h:w.alloc ob=w1):w.alloc ob=w1:=h
theorem turnd {w:World}{ob:Obj}{w1:World}(h:(w.alloc ob).drew=w1):(w.alloc ob).drew=w1:=h
theorem wpList_allocG {P:Program}{ops:Array Oper}{rest:List Oper}{op:Oper}{a:Act}{w:World}{Q:Exit->Act->World->Prop}(hg:op.guard=none)(t:TypeId)(ho:op.op=.alloc t)
  (dst:Option Tmp) (hdst:op.dst=dst) (N:Nat) (hN:w.heap.size=N) (z:Value) (hz:(zeroValue t).run P w=.ok z w)
  (h:wpList P ops Q rest (a.put dst (.pointer (some ⟨N,0,none⟩))) (w.alloc (.cells z.cells t))):wpList P ops Q (op::rest) a w:=by
 subst hdst hN;refine wpList_plain hg fun K hK=>?_;unfold Oper.wp execOp;simp only[ho,Sem.run_bind,Instr.alloc,hz,newVar,newRow,run_newObj_alloc,Sem.run_pure,Result.andThen_ok];exact hK _ _ h
theorem infoSt:(Tryd.prog.info? 81).map (fun i=>(i.zero,i.size))=some (some (.agg (stC ([],0)).toArray),34):=by kernel_rfl
theorem zeroSt (w:World):(zeroValue 81).run Tryd.prog w=.ok (.agg (stC ([],0)).toArray) w:=by
 cases hq:Tryd.prog.info? 81 with
 | none=>have:=infoSt;simp[hq] at this
 | some i =>
  have:=infoSt
  rw[hq] at this;simp only[Option.map_some,Option.some.injEq,Prod.mk.injEq] at this;simp[zeroValue,typeInfo,hq,this.1]
theorem pass_24 {c:Cd}{o a b:Nat}{s t:StG}(h:passF c o a b s=.inr t)(e:o=24):0<t.2:=by
 subst e;unfold passF at h;split at h
 ·rename_i hf
  split at h
  ·split at h
   ·cases h;simp[fitE] at hf;simp[opnE];exact hf
   ·cases h
  ·cases h
 ·cases h
theorem led_or {o a b q:Nat}(h:ledTo o a b=some q):q=a\/q=b:=by
 unfold ledTo at h;split at h
 ·cases h;exact .inl rfl
 ·split at h
  ·cases h;exact .inr rfl
  ·cases h
def PostKG (w:World)(o:Nat->Nat)(vb:Nat)(z:Vp)(p:Pl)(c:Cd)(r:Nat × Vw)(e:Ending)(w':World):Prop :=
 e=.returned (.int .i64 (r.1:Nat))/\∃o',Step I13 w o w' o'/\(r.1=0->∃pb',VwM w' o' vb z p c r.2 pb')
theorem look_c (w:World)(o:Nat->Nat)(vb:Nat)(z:Vp)(p:Pl)(c:Cd)(v:Vw)(pb:Nat->Nat)(n k:Nat)(hr:rgtB c=true)(V:VwOk n v)(D:VwD v)(hn:n=c.ws.length)(hC:CdW w p c)(hT:TabG w)(s:StG)(hk:v.tb[k]?=some (some s))(hM:VwM w o vb z p c v pb) :
  Calls Tryd.prog 20 #[.pointer (some ⟨vb,0,none⟩),.int .i64 (k:Nat)] w (PostKG w o vb z p c (lookW c (opN c k) (aN c k) (bN c k) k s v)):=by
 have hkl:k<c.ws.length:=by rw[<-hn,<-V.tl];exact(List.getElem?_eq_some_iff.1 hk).1
 have W:=wdr_of hC.ok hr hkl;have S:=V.sts k s hk;obtain⟨hsb,hso⟩:=hM.sb k s hk;obtain⟨⟨a0,a1,a2,a3,a4,a5,a6,a7,a8⟩,af⟩:=cells9 hM.blk.1;obtain⟨wb,wf,hwa,hwl,hwc⟩:=hC.ws.at (wsV_at hkl);obtain⟨gs',cs',hgs,hgl,-,-,hgs1,hgc,hgf⟩:=hM.rs.pos (by rw[V.tl,hn];omega);simp only[Value.slice.injEq,Option.some.injEq,Addr.mk.injEq,and_true,true_and] at hgs;obtain⟨rfl,rfl⟩:=hgs;have hkv:k<v.tb.length:=by rw[V.tl,hn];exact hkl
 have hpt:w.cell? ⟨z.gs,k,none⟩=some (.pointer (some ⟨pb k,0,none⟩)):=by
  rw[hgc k (by omega),ptV_at hkv]
  have:v.tb.getD k none=some s:=by rw[List.getD_eq_getElem?_getD,hk];rfl
  rw[this];rfl
 have hPa:=fun wx hx=>partsOf_c c k hkl hC.ok wx hx;have hu:c.ws.getD k 0=c.ws[k]:=by simp[List.getD_eq_getElem?_getD,List.getElem?_eq_getElem hkl]
 rw[<-hu] at hwc;have hrg:=range_blkg hsb;have hbl:pb k<w.heap.size:=hsb.lt;have hsz:=sizeSt s;have hcl:=stC_len s;have hkI:(k:Int)<(c.ws.length:Int):=by omega
 have hkI2:(k:Int)<(v.tb.length:Int):=by omega
 rw[hwa] at a0;generalize hcs:stC s=cs at *;generalize hbk:pb k=bk at *;generalize c.ws.getD k 0=u at *;obtain⟨vl,hvl⟩:∃vl,vl=v.tb.length:=⟨_,rfl⟩
 rw[<-hvl] at a4 hkI2;have KB:(fun wx:World=>wx.cell? ⟨vb,0,none⟩=some (.slice (some ⟨wb,wf,none⟩) c.ws.length p.cw)/\wx.cell? ⟨vb,4,none⟩=some (.slice (some ⟨z.gs,0,none⟩) vl z.cs)/\wx.cell? ⟨wb,wf+k,none⟩=some (.int .u64 u)/\wx.cell? ⟨z.gs,k,none⟩=some (.pointer (some ⟨bk,0,none⟩))/\wx.rangeAt bk 0 cs) w:=⟨a0,a4,hwc,hpt,hrg⟩
 simp only at KB;have hvlt:vb<w.heap.size:=hM.blk.lt;have HS:Hid (∀ w',Below w.heap.size w w'->w'.cell? ⟨vb,0,none⟩=some (.slice (some ⟨wb,wf,none⟩) c.ws.length p.cw)/\w'.cell? ⟨vb,4,none⟩=some (.slice (some ⟨z.gs,0,none⟩) vl z.cs)/\w'.cell? ⟨wb,wf+k,none⟩=some (.int .u64 u)/\w'.cell? ⟨z.gs,k,none⟩=some (.pointer (some ⟨bk,0,none⟩))/\w'.rangeAt bk 0 cs):=fun w' B =>
  ⟨(B.cell (p:=⟨vb,0,none⟩) hvlt).trans a0,(B.cell (p:=⟨vb,4,none⟩) hvlt).trans a4,(B.cell (p:=⟨wb,wf+k,none⟩) hwl).trans hwc,(B.cell (p:=⟨z.gs,k,none⟩) hgs1).trans hpt,fun j x hx=>(B.cell (p:=⟨bk,0+j,none⟩) hbl).trans (hrg j x hx)⟩
 have hTB:=hT;have BD:Below w.heap.size w w.drew:=⟨rfl,rfl,rfl,Nat.le_refl _,fun _ _=>rfl⟩
 have TD:=hT.below BD;have hsz2:(Tryd.prog.info? 81).map (·.size)=some cs.toArray.size:=by simpa using hsz
 have hone:=all_oneCell_toArray (stC_one s);rw[hcs] at hone;have HWA:=Lib.hid hwa;have HVL:=Lib.hid hvl;have HCS:=Lib.hid hcs;have HBK:=Lib.hid hbk;clear hwa hvl hu hcs hbk;generalize opN c k=oo at *;generalize aN c k=aa at *;generalize bN c k=dd at *;go_enter Tryd.func20,Tryd.ntmps20;go_upto_region 1 with fail;go_cut [5,6] (fun v5 v6 wx=>∃b5 b6,v5=.pointer (some ⟨b5,0,none⟩)/\v6=.pointer (some ⟨b6,0,none⟩)/\w.heap.size<=b5/\w.heap.size<=b6/\b5≠b6/\Below w.heap.size w wx/\wx.heap[b5]?=some (bxW oo aa dd)/\wx.heap[b6]?=some (.cells cs.toArray 81 (0,0)))
 case first =>
  clear a0 a4 hwc hpt hrg hgc hgf;refine wp_region_noPanic ?_;refine wp_region_held_drew (S:=(fun wx=>wx.cell? ⟨vb,0,none⟩=some (.slice (some ⟨wb,wf,none⟩) c.ws.length p.cw)/\wx.cell? ⟨vb,4,none⟩=some (.slice (some ⟨z.gs,0,none⟩) vl z.cs)/\wx.cell? ⟨wb,wf+k,none⟩=some (.int .u64 u)/\wx.cell? ⟨z.gs,k,none⟩=some (.pointer (some ⟨bk,0,none⟩))/\wx.rangeAt bk 0 cs)) (by kernel_rfl) KB (fun hHeld=>?_);refine wpAnyH_take (i:=0) (v:=?v1) rfl (by kernel_rfl) (by kernel_rfl) (by kernel_rfl) (fun _ _ _ h=>h) (Or.inl ⟨by rfl,?hy1⟩) (by assumption) ?rest1
  case hy1=>(intro w hSw;(try dsimp only at hSw);go_simp;all_goals (with_reducible rfl))
  simp only[Act.put,List.getElem_toArray,List.getElem_cons_zero,List.getElem_cons_succ,List.setIfInBounds_toArray,List.set_cons_zero,List.set_cons_succ];refine wpAnyH_take (i:=1) (v:=?v2) rfl (by kernel_rfl) (by kernel_rfl) (by kernel_rfl) (fun _ _ _ h=>h) (Or.inl ⟨by rfl,?hy2⟩) (by assumption) ?rest2
  case hy2=>(intro w hSw;(try dsimp only at hSw);go_simp;all_goals (with_reducible rfl))
  simp only[Act.put,List.getElem_toArray,List.getElem_cons_zero,List.getElem_cons_succ,List.setIfInBounds_toArray,List.set_cons_zero,List.set_cons_succ];refine wpAnyH_take (i:=2) (v:=?v3) rfl (by kernel_rfl) (by kernel_rfl) (by kernel_rfl) (fun _ _ _ h=>h) (Or.inl ⟨by rfl,?hy3⟩) (by assumption) ?rest3
  case hy3=>(intro w hSw;(try dsimp only at hSw);go_simp;all_goals (with_reducible rfl))
  simp only[Act.put,List.getElem_toArray,List.getElem_cons_zero,List.getElem_cons_succ,List.setIfInBounds_toArray,List.set_cons_zero,List.set_cons_succ];refine wpAnyH_take (i:=3) (v:=?v4) rfl (by kernel_rfl) (by kernel_rfl) (by kernel_rfl) (fun _ _ _ h=>h) (Or.inl ⟨by rfl,?hy4⟩) (by assumption) ?rest4
  case hy4=>(intro w hSw;(try dsimp only at hSw);go_simp;all_goals (with_reducible rfl))
  simp only[Act.put,List.getElem_toArray,List.getElem_cons_zero,List.getElem_cons_succ,List.setIfInBounds_toArray,List.set_cons_zero,List.set_cons_succ];refine wpAnyH_take (i:=4) (v:=?v5) rfl (by kernel_rfl) (by kernel_rfl) (by kernel_rfl) (fun _ _ _ h=>h) (Or.inl ⟨by rfl,?hy5⟩) (by assumption) ?rest5
  case hy5=>(intro w hSw;(try dsimp only at hSw);obtain⟨s1,s2,s3,s4,s5⟩:=hSw;go_simp;all_goals (with_reducible rfl))
  simp only[Act.put,List.getElem_toArray,List.getElem_cons_zero,List.getElem_cons_succ,List.setIfInBounds_toArray,List.set_cons_zero,List.set_cons_succ];refine wpAnyH_take (i:=5) (v:=?v6) rfl (by kernel_rfl) (by kernel_rfl) (by kernel_rfl) (fun _ _ _ h=>h) (Or.inl ⟨by rfl,?hy6⟩) (by assumption) ?rest6
  case hy6=>(intro w hSw;(try dsimp only at hSw);go_simp;all_goals (with_reducible rfl))
  simp only[Act.put,List.getElem_toArray,List.getElem_cons_zero,List.getElem_cons_succ,List.setIfInBounds_toArray,List.set_cons_zero,List.set_cons_succ];refine wpAnyH_take (i:=6) (v:=?v7) rfl (by kernel_rfl) (by kernel_rfl) (by kernel_rfl) (fun _ _ _ h=>h) (Or.inl ⟨by rfl,?hy7⟩) (by assumption) ?rest7
  case hy7=>(intro w hSw;(try dsimp only at hSw);go_simp;all_goals (with_reducible rfl))
  simp only[Act.put,List.getElem_toArray,List.getElem_cons_zero,List.getElem_cons_succ,List.setIfInBounds_toArray,List.set_cons_zero,List.set_cons_succ];refine wpAnyH_take (i:=7) (v:=?v8) rfl (by kernel_rfl) (by kernel_rfl) (by kernel_rfl) (fun _ _ _ h=>h) (Or.inl ⟨by rfl,?hy8⟩) (by assumption) ?rest8
  case hy8=>(intro w hSw;(try dsimp only at hSw);obtain⟨s1,s2,s3,s4,s5⟩:=hSw;go_simp;all_goals (with_reducible rfl))
  simp only[Act.put,List.getElem_toArray,List.getElem_cons_zero,List.getElem_cons_succ,List.setIfInBounds_toArray,List.set_cons_zero,List.set_cons_succ];refine wpAnyH_take (i:=9) (v:=?v9) rfl (by kernel_rfl) (by kernel_rfl) (by kernel_rfl) (fun _ _ _ h=>h) (Or.inl ⟨by rfl,?hy9⟩) (by assumption) ?rest9
  case hy9=>(intro w hSw;(try dsimp only at hSw);go_simp;all_goals (with_reducible rfl))
  simp only[Act.put,List.getElem_toArray,List.getElem_cons_zero,List.getElem_cons_succ,List.setIfInBounds_toArray,List.set_cons_zero,List.set_cons_succ];refine wpAnyH_take (i:=10) (v:=?v10) rfl (by kernel_rfl) (by kernel_rfl) (by kernel_rfl) (fun _ _ _ h=>h) (Or.inl ⟨by rfl,?hy10⟩) (by assumption) ?rest10
  case hy10=>(intro w hSw;(try dsimp only at hSw);go_simp;all_goals (with_reducible rfl))
  simp only[Act.put,List.getElem_toArray,List.getElem_cons_zero,List.getElem_cons_succ,List.setIfInBounds_toArray,List.set_cons_zero,List.set_cons_succ];refine wpAnyH_take (i:=11) (v:=?v11) rfl (by kernel_rfl) (by kernel_rfl) (by kernel_rfl) (fun _ _ _ h=>h) (Or.inl ⟨by rfl,?hy11⟩) (by assumption) ?rest11
  case hy11=>(intro w hSw;(try dsimp only at hSw);go_simp;all_goals (with_reducible rfl))
  simp only[Act.put,List.getElem_toArray,List.getElem_cons_zero,List.getElem_cons_succ,List.setIfInBounds_toArray,List.set_cons_zero,List.set_cons_succ];refine wpAnyH_take (i:=12) (v:=?v12) rfl (by kernel_rfl) (by kernel_rfl) (by kernel_rfl) (fun _ _ _ h=>h) (Or.inl ⟨by rfl,?hy12⟩) (by assumption) ?rest12
  case hy12=>(intro w hSw;(try dsimp only at hSw);obtain⟨s1,s2,s3,s4,s5⟩:=hSw;go_simp;all_goals (with_reducible rfl))
  simp only[Act.put,List.getElem_toArray,List.getElem_cons_zero,List.getElem_cons_succ,List.setIfInBounds_toArray,List.set_cons_zero,List.set_cons_succ];refine wpAnyH_take (i:=13) (v:=?v13) rfl (by kernel_rfl) (by kernel_rfl) (by kernel_rfl) (fun _ _ _ h=>h) (Or.inl ⟨by rfl,?hy13⟩) (by assumption) ?rest13
  case hy13=>(intro w hSw;(try dsimp only at hSw);go_simp;all_goals (with_reducible rfl))
  simp only[Act.put,List.getElem_toArray,List.getElem_cons_zero,List.getElem_cons_succ,List.setIfInBounds_toArray,List.set_cons_zero,List.set_cons_succ];refine wpAnyH_take (i:=14) (v:=?v14) rfl (by kernel_rfl) (by kernel_rfl) (by kernel_rfl) (fun _ _ _ h=>h) (Or.inl ⟨by rfl,?hy14⟩) (by assumption) ?rest14
  case hy14=>(intro w hSw;(try dsimp only at hSw);go_simp;all_goals (with_reducible rfl))
  simp only[Act.put,List.getElem_toArray,List.getElem_cons_zero,List.getElem_cons_succ,List.setIfInBounds_toArray,List.set_cons_zero,List.set_cons_succ];refine wpAnyH_take (i:=15) (v:=?v15) rfl (by kernel_rfl) (by kernel_rfl) (by kernel_rfl) (fun _ _ _ h=>h) (Or.inl ⟨by rfl,?hy15⟩) (by assumption) ?rest15
  case hy15=>(intro w hSw;(try dsimp only at hSw);obtain⟨s1,s2,s3,s4,s5⟩:=hSw;go_simp;all_goals (with_reducible rfl))
  simp only[Act.put,List.getElem_toArray,List.getElem_cons_zero,List.getElem_cons_succ,List.setIfInBounds_toArray,List.set_cons_zero,List.set_cons_succ];refine wpAnyH_take (i:=16) (v:=?v16) rfl (by kernel_rfl) (by kernel_rfl) (by kernel_rfl) (fun _ _ _ h=>h) (Or.inl ⟨by rfl,?hy16⟩) (by assumption) ?rest16
  case hy16=>(intro w hSw;(try dsimp only at hSw);go_simp;all_goals (with_reducible rfl))
  simp only[Act.put,List.getElem_toArray,List.getElem_cons_zero,List.getElem_cons_succ,List.setIfInBounds_toArray,List.set_cons_zero,List.set_cons_succ];refine wpAnyH_take (i:=17) (v:=.agg cs.toArray) rfl (by kernel_rfl) (by kernel_rfl) (by kernel_rfl) (fun _ _ _ h=>h) (yieldsIf_load_mid (by rfl) 81 _ rfl bk 0 rfl cs _ (fun w hSw=>hSw.2.2.2.2) Tryd.underlying81 rfl hsz) (by assumption) ?_;simp only[Act.put,List.getElem_toArray,List.getElem_cons_zero,List.getElem_cons_succ,List.setIfInBounds_toArray,List.set_cons_zero,List.set_cons_succ];refine wpAnyH_ready (rs:=[8,18,19]) (by kernel_rfl) (by simp) ?_;refine AllReadyH.cons rfl (fun K hK=>?_) (AllReadyH.cons rfl (fun K hK=>?_) (AllReadyH.cons rfl (fun K hK=>?_) AllReadyH.nil))
  ·skip
   go_simp
   go_wp2_with (first|(go_at_call 37;refine(hPa _ TD).mono ?_;rintro e wx1 ⟨rfl,BC1⟩));have BX1:Below w.heap.size w wx1:=BD.trans (BC1.mono BD.size);have hz1:=BX1.size;have TX1:=hT.below BX1;refine hK.out _ _ (HS.out wx1 BX1) (fun hHeld=>?_);clear hK K;refine wpAnyH_ready (rs:=[18,19]) (by kernel_rfl) (by simp) ?_;refine AllReadyH.cons rfl (fun K hK=>?_) (AllReadyH.cons rfl (fun K hK=>?_) AllReadyH.nil)
   ·skip
    go_simp
    obtain⟨wx2,hwx2⟩:∃y,y=wx1.alloc (.cells #[.int .i64 0,.int .i64 0,.int .i64 0] 84):=⟨_,rfl⟩
    obtain⟨b5_2,hb5_2⟩:∃y,y=wx1.heap.size:=⟨_,rfl⟩
    have BX2:Below w.heap.size w wx2:=by rw[hwx2];exact BX1.alloc BX1.size _
    have F5_2:wx2.heap[b5_2]?=some (.cells #[.int .i64 0,.int .i64 0,.int .i64 0] 84 (0,0)):=by rw[hwx2,hb5_2];exact h1G _ _
    have hl2:=lt_of_block F5_2;have hge2:w.heap.size<=b5_2:=by have:=BX1.size;omega
    rw[turng (w:=wx1) (w1:=wx2) ?hW2]
    case hW2=>first|(rw[hwx2];done)|(rw[hwx2];kernel_rfl)
    try rw[show wx1.heap.size=b5_2 from hb5_2.symm]
    clear hwx2 hb5_2;have TX2:=hT.below BX2;refine hK.out _ _ (HS.out wx2 BX2) (fun hHeld=>?_);clear hK K;refine wpAnyH_ready (rs:=[19]) (by kernel_rfl) (by simp) ?_;refine AllReadyH.cons rfl (fun K hK=>?_) AllReadyH.nil
    ·skip
     go_simp
     obtain⟨wx3,hwx3⟩:∃y,y=wx2.alloc (.cells (stC ([],0)).toArray 81):=⟨_,rfl⟩
     obtain⟨b6_3,hb6_3⟩:∃y,y=wx2.heap.size:=⟨_,rfl⟩
     have BX3:Below w.heap.size w wx3:=by rw[hwx3];exact BX2.alloc BX2.size _
     have F6_3:wx3.heap[b6_3]?=some (.cells (stC ([],0)).toArray 81 (0,0)):=by rw[hwx3,hb6_3];exact h1G _ _
     have hl3:=lt_of_block F6_3;have hge3:w.heap.size<=b6_3:=by have:=BX2.size;omega
     have F5_3:=((by rw[hwx3];exact Below.heap_alloc _ _ _ (lt_of_block F5_2):wx3.heap[_]?=wx2.heap[_]?)).trans F5_2;have hx3:b6_3≠b5_2:=by have:=lt_of_block F5_2;omega
     rw[turng (w:=wx2) (w1:=wx3) ?hW3]
     case hW3=>first|(rw[hwx3];done)|(rw[hwx3];kernel_rfl)
     try rw[show wx2.heap.size=b6_3 from hb6_3.symm]
     clear hwx3 hb6_3;have TX3:=hT.below BX3;refine hK.out _ _ (HS.out wx3 BX3) (fun hHeld=>?_);clear hK K;have hd56:b5_2≠b6_3:=by omega
     have q0:wx3.cell? ⟨b5_2,0,none⟩=some (.int .i64 0):=by rw[cell_of_row _ _ _ _ _ _ F5_3];rfl
     have q1:wx3.cell? ⟨b5_2,1,none⟩=some (.int .i64 0):=by rw[cell_of_row _ _ _ _ _ _ F5_3];rfl
     have q2:wx3.cell? ⟨b5_2,2,none⟩=some (.int .i64 0):=by rw[cell_of_row _ _ _ _ _ _ F5_3];rfl
     have z0:=frozen_of_row _ b5_2 0 _ _ F5_3;have z1:=frozen_of_row _ b5_2 1 _ _ F5_3;have z2:=frozen_of_row _ b5_2 2 _ _ F5_3;obtain⟨wS,hwS⟩:∃wS,wS=((wx3.setCell ⟨b5_2,0,none⟩ (.int .i64 (oo:Nat))).setCell ⟨b5_2,1,none⟩ (.int .i64 (aa:Nat))).setCell ⟨b5_2,2,none⟩ (.int .i64 (dd:Nat)):=⟨_,rfl⟩
     have BS:Below w.heap.size w wS:=by rw[hwS];exact((BX3.setCell (p:=⟨b5_2,0,none⟩) (by show _<=b5_2;omega) _).setCell (p:=⟨b5_2,1,none⟩) (by show _<=b5_2;omega) _).setCell (p:=⟨b5_2,2,none⟩) (by show _<=b5_2;omega) _
     have H5:wS.heap[b5_2]?=some (.cells #[.int .i64 (oo:Nat),.int .i64 (aa:Nat),.int .i64 (dd:Nat)] 84 (0,0)):=by rw[hwS];exact heap_setCell_same _ _ 2 _ _ _ (heap_setCell_same _ _ 1 _ _ _ (heap_setCell_same _ _ 0 _ _ _ F5_3))
     have H6:wS.heap[b6_3]?=some (.cells (stC ([],0)).toArray 81 (0,0)):=by rw[hwS];exact(heap_setCell_other _ _ _ _ (fun e=>hd56 e.symm)).trans ((heap_setCell_other _ _ _ _ (fun e=>hd56 e.symm)).trans ((heap_setCell_other _ _ _ _ (fun e=>hd56 e.symm)).trans F6_3))
     have HWS:=Lib.hid hwS;clear hwS;refine wpAnyH_ready (rs:=[20]) (by kernel_rfl) (by simp) ?_;refine AllReadyH.cons rfl (fun K hK=>?_) AllReadyH.nil
     go_simp
     rw[<-HWS.out];refine hK.out _ _ (HS.out wS BS) (fun hHeld=>?_);clear hK K q0 q1 q2 z0 z1 z2;have TH:wS.there b6_3 0 cs.toArray.size:=by have:=there_blkg (n:=cs.toArray.size) H6 (by rw[stC_len];simp[hcl]);exact this
     have H56:(wS.setCells b6_3 0 cs).heap[b5_2]?=some (.cells #[.int .i64 (oo:Nat),.int .i64 (aa:Nat),.int .i64 (dd:Nat)] 84 (0,0)):=(setCells_other hd56 cs 0 wS).trans H5;have H66:(wS.setCells b6_3 0 cs).heap[b6_3]?=some (.cells cs.toArray 81 (0,0)):=by have:=setCells_row cs (stC ([],0)) [] wS H6 (by rw[stC_len,hcl]);exact this
     have BE:Below w.heap.size w (wS.setCells b6_3 0 cs):=below_setCellsg (by omega) cs 0 wS BS;refine wpAnyH_ready (rs:=[21]) (by kernel_rfl) (by simp) ?_;refine AllReadyH.cons rfl (fun K hK=>?_) AllReadyH.nil;rw[if_pos (by rfl)];refine wp_store_mid _ _ _ rfl b6_3 0 cs.toArray rfl rfl TH hsz2 hone ?_;refine hK.out _ _ (HS.out _ BE) (fun hHeld=>?_);clear hK K;simp only[Act.put,List.getElem_toArray,List.getElem_cons_zero,List.getElem_cons_succ,List.setIfInBounds_toArray,List.set_cons_zero,List.set_cons_succ];refine wpAnyH_done (by kernel_rfl) ?_ _;refine NoPanic.normal ?_;go_wp2;go_meet;exact⟨b5_2,b6_3,rfl,rfl,by omega,by omega,hd56,BE,H56,H66⟩
   ·skip
    go_simp
    obtain⟨wx4,hwx4⟩:∃y,y=wx1.alloc (.cells (stC ([],0)).toArray 81):=⟨_,rfl⟩
    obtain⟨b6_4,hb6_4⟩:∃y,y=wx1.heap.size:=⟨_,rfl⟩
    have BX4:Below w.heap.size w wx4:=by rw[hwx4];exact BX1.alloc BX1.size _
    have F6_4:wx4.heap[b6_4]?=some (.cells (stC ([],0)).toArray 81 (0,0)):=by rw[hwx4,hb6_4];exact h1G _ _
    have hl4:=lt_of_block F6_4;have hge4:w.heap.size<=b6_4:=by have:=BX1.size;omega
    rw[turng (w:=wx1) (w1:=wx4) ?hW4]
    case hW4=>first|(rw[hwx4];done)|(rw[hwx4];kernel_rfl)
    try rw[show wx1.heap.size=b6_4 from hb6_4.symm]
    clear hwx4 hb6_4;have TX4:=hT.below BX4;refine hK.out _ _ (HS.out wx4 BX4) (fun hHeld=>?_);clear hK K;refine wpAnyH_ready (rs:=[18]) (by kernel_rfl) (by simp) ?_;refine AllReadyH.cons rfl (fun K hK=>?_) AllReadyH.nil
    ·skip
     go_simp
     obtain⟨wx5,hwx5⟩:∃y,y=wx4.alloc (.cells #[.int .i64 0,.int .i64 0,.int .i64 0] 84):=⟨_,rfl⟩
     obtain⟨b5_5,hb5_5⟩:∃y,y=wx4.heap.size:=⟨_,rfl⟩
     have BX5:Below w.heap.size w wx5:=by rw[hwx5];exact BX4.alloc BX4.size _
     have F5_5:wx5.heap[b5_5]?=some (.cells #[.int .i64 0,.int .i64 0,.int .i64 0] 84 (0,0)):=by rw[hwx5,hb5_5];exact h1G _ _
     have hl5:=lt_of_block F5_5;have hge5:w.heap.size<=b5_5:=by have:=BX4.size;omega
     have F6_5:=((by rw[hwx5];exact Below.heap_alloc _ _ _ (lt_of_block F6_4):wx5.heap[_]?=wx4.heap[_]?)).trans F6_4;have hx5:b5_5≠b6_4:=by have:=lt_of_block F6_4;omega
     rw[turng (w:=wx4) (w1:=wx5) ?hW5]
     case hW5=>first|(rw[hwx5];done)|(rw[hwx5];kernel_rfl)
     try rw[show wx4.heap.size=b5_5 from hb5_5.symm]
     clear hwx5 hb5_5;have TX5:=hT.below BX5;refine hK.out _ _ (HS.out wx5 BX5) (fun hHeld=>?_);clear hK K;have hd56:b5_5≠b6_4:=by omega
     have q0:wx5.cell? ⟨b5_5,0,none⟩=some (.int .i64 0):=by rw[cell_of_row _ _ _ _ _ _ F5_5];rfl
     have q1:wx5.cell? ⟨b5_5,1,none⟩=some (.int .i64 0):=by rw[cell_of_row _ _ _ _ _ _ F5_5];rfl
     have q2:wx5.cell? ⟨b5_5,2,none⟩=some (.int .i64 0):=by rw[cell_of_row _ _ _ _ _ _ F5_5];rfl
     have z0:=frozen_of_row _ b5_5 0 _ _ F5_5;have z1:=frozen_of_row _ b5_5 1 _ _ F5_5;have z2:=frozen_of_row _ b5_5 2 _ _ F5_5;obtain⟨wS,hwS⟩:∃wS,wS=((wx5.setCell ⟨b5_5,0,none⟩ (.int .i64 (oo:Nat))).setCell ⟨b5_5,1,none⟩ (.int .i64 (aa:Nat))).setCell ⟨b5_5,2,none⟩ (.int .i64 (dd:Nat)):=⟨_,rfl⟩
     have BS:Below w.heap.size w wS:=by rw[hwS];exact((BX5.setCell (p:=⟨b5_5,0,none⟩) (by show _<=b5_5;omega) _).setCell (p:=⟨b5_5,1,none⟩) (by show _<=b5_5;omega) _).setCell (p:=⟨b5_5,2,none⟩) (by show _<=b5_5;omega) _
     have H5:wS.heap[b5_5]?=some (.cells #[.int .i64 (oo:Nat),.int .i64 (aa:Nat),.int .i64 (dd:Nat)] 84 (0,0)):=by rw[hwS];exact heap_setCell_same _ _ 2 _ _ _ (heap_setCell_same _ _ 1 _ _ _ (heap_setCell_same _ _ 0 _ _ _ F5_5))
     have H6:wS.heap[b6_4]?=some (.cells (stC ([],0)).toArray 81 (0,0)):=by rw[hwS];exact(heap_setCell_other _ _ _ _ (fun e=>hd56 e.symm)).trans ((heap_setCell_other _ _ _ _ (fun e=>hd56 e.symm)).trans ((heap_setCell_other _ _ _ _ (fun e=>hd56 e.symm)).trans F6_5))
     have HWS:=Lib.hid hwS;clear hwS;refine wpAnyH_ready (rs:=[20]) (by kernel_rfl) (by simp) ?_;refine AllReadyH.cons rfl (fun K hK=>?_) AllReadyH.nil
     go_simp
     rw[<-HWS.out];refine hK.out _ _ (HS.out wS BS) (fun hHeld=>?_);clear hK K q0 q1 q2 z0 z1 z2;have TH:wS.there b6_4 0 cs.toArray.size:=by have:=there_blkg (n:=cs.toArray.size) H6 (by rw[stC_len];simp[hcl]);exact this
     have H56:(wS.setCells b6_4 0 cs).heap[b5_5]?=some (.cells #[.int .i64 (oo:Nat),.int .i64 (aa:Nat),.int .i64 (dd:Nat)] 84 (0,0)):=(setCells_other hd56 cs 0 wS).trans H5;have H66:(wS.setCells b6_4 0 cs).heap[b6_4]?=some (.cells cs.toArray 81 (0,0)):=by have:=setCells_row cs (stC ([],0)) [] wS H6 (by rw[stC_len,hcl]);exact this
     have BE:Below w.heap.size w (wS.setCells b6_4 0 cs):=below_setCellsg (by omega) cs 0 wS BS;refine wpAnyH_ready (rs:=[21]) (by kernel_rfl) (by simp) ?_;refine AllReadyH.cons rfl (fun K hK=>?_) AllReadyH.nil;rw[if_pos (by rfl)];refine wp_store_mid _ _ _ rfl b6_4 0 cs.toArray rfl rfl TH hsz2 hone ?_;refine hK.out _ _ (HS.out _ BE) (fun hHeld=>?_);clear hK K;simp only[Act.put,List.getElem_toArray,List.getElem_cons_zero,List.getElem_cons_succ,List.setIfInBounds_toArray,List.set_cons_zero,List.set_cons_succ];refine wpAnyH_done (by kernel_rfl) ?_ _;refine NoPanic.normal ?_;go_wp2;go_meet;exact⟨b5_5,b6_4,rfl,rfl,by omega,by omega,hd56,BE,H56,H66⟩
  ·skip
   go_simp
   obtain⟨wx6,hwx6⟩:∃y,y=(w.alloc (.cells #[.int .i64 0,.int .i64 0,.int .i64 0] 84)).drew:=⟨_,rfl⟩
   obtain⟨b5_6,hb5_6⟩:∃y,y=w.drew.heap.size:=⟨_,rfl⟩
   have BX6:Below w.heap.size w wx6:=by rw[hwx6];exact((Below.refl _ w).alloc (Nat.le_refl _) _).drew
   have F5_6:wx6.heap[b5_6]?=some (.cells #[.int .i64 0,.int .i64 0,.int .i64 0] 84 (0,0)):=by rw[hwx6,hb5_6];exact h1G _ _
   have hl6:=lt_of_block F5_6;have hge6:w.heap.size<=b5_6:=by have:=BD.size;omega
   rw[turnd (w:=w) (w1:=wx6) ?hW6]
   case hW6=>first|(rw[hwx6];done)|(rw[hwx6];kernel_rfl)
   try rw[show w.heap.size=b5_6 from hb5_6.symm]
   clear hwx6 hb5_6;have TX6:=hT.below BX6;refine hK.out _ _ (HS.out wx6 BX6) (fun hHeld=>?_);clear hK K;refine wpAnyH_ready (rs:=[8,19]) (by kernel_rfl) (by simp) ?_;refine AllReadyH.cons rfl (fun K hK=>?_) (AllReadyH.cons rfl (fun K hK=>?_) AllReadyH.nil)
   ·skip
    go_simp
    go_wp2_with (first|(go_at_call 37;refine(hPa _ TX6).mono ?_;rintro e wx7 ⟨rfl,BC7⟩));have BX7:Below w.heap.size w wx7:=BX6.trans (BC7.mono BX6.size);have hz7:=BX7.size;have F5_7:=(BC7.block _ (lt_of_block F5_6)).trans F5_6;have TX7:=hT.below BX7;refine hK.out _ _ (HS.out wx7 BX7) (fun hHeld=>?_);clear hK K;refine wpAnyH_ready (rs:=[19]) (by kernel_rfl) (by simp) ?_;refine AllReadyH.cons rfl (fun K hK=>?_) AllReadyH.nil
    ·skip
     go_simp
     obtain⟨wx8,hwx8⟩:∃y,y=wx7.alloc (.cells (stC ([],0)).toArray 81):=⟨_,rfl⟩
     obtain⟨b6_8,hb6_8⟩:∃y,y=wx7.heap.size:=⟨_,rfl⟩
     have BX8:Below w.heap.size w wx8:=by rw[hwx8];exact BX7.alloc BX7.size _
     have F6_8:wx8.heap[b6_8]?=some (.cells (stC ([],0)).toArray 81 (0,0)):=by rw[hwx8,hb6_8];exact h1G _ _
     have hl8:=lt_of_block F6_8;have hge8:w.heap.size<=b6_8:=by have:=BX7.size;omega
     have F5_8:=((by rw[hwx8];exact Below.heap_alloc _ _ _ (lt_of_block F5_7):wx8.heap[_]?=wx7.heap[_]?)).trans F5_7;have hx8:b6_8≠b5_6:=by have:=lt_of_block F5_7;omega
     rw[turng (w:=wx7) (w1:=wx8) ?hW8]
     case hW8=>first|(rw[hwx8];done)|(rw[hwx8];kernel_rfl)
     try rw[show wx7.heap.size=b6_8 from hb6_8.symm]
     clear hwx8 hb6_8;have TX8:=hT.below BX8;refine hK.out _ _ (HS.out wx8 BX8) (fun hHeld=>?_);clear hK K;have hd56:b5_6≠b6_8:=by omega
     have q0:wx8.cell? ⟨b5_6,0,none⟩=some (.int .i64 0):=by rw[cell_of_row _ _ _ _ _ _ F5_8];rfl
     have q1:wx8.cell? ⟨b5_6,1,none⟩=some (.int .i64 0):=by rw[cell_of_row _ _ _ _ _ _ F5_8];rfl
     have q2:wx8.cell? ⟨b5_6,2,none⟩=some (.int .i64 0):=by rw[cell_of_row _ _ _ _ _ _ F5_8];rfl
     have z0:=frozen_of_row _ b5_6 0 _ _ F5_8;have z1:=frozen_of_row _ b5_6 1 _ _ F5_8;have z2:=frozen_of_row _ b5_6 2 _ _ F5_8;obtain⟨wS,hwS⟩:∃wS,wS=((wx8.setCell ⟨b5_6,0,none⟩ (.int .i64 (oo:Nat))).setCell ⟨b5_6,1,none⟩ (.int .i64 (aa:Nat))).setCell ⟨b5_6,2,none⟩ (.int .i64 (dd:Nat)):=⟨_,rfl⟩
     have BS:Below w.heap.size w wS:=by rw[hwS];exact((BX8.setCell (p:=⟨b5_6,0,none⟩) (by show _<=b5_6;omega) _).setCell (p:=⟨b5_6,1,none⟩) (by show _<=b5_6;omega) _).setCell (p:=⟨b5_6,2,none⟩) (by show _<=b5_6;omega) _
     have H5:wS.heap[b5_6]?=some (.cells #[.int .i64 (oo:Nat),.int .i64 (aa:Nat),.int .i64 (dd:Nat)] 84 (0,0)):=by rw[hwS];exact heap_setCell_same _ _ 2 _ _ _ (heap_setCell_same _ _ 1 _ _ _ (heap_setCell_same _ _ 0 _ _ _ F5_8))
     have H6:wS.heap[b6_8]?=some (.cells (stC ([],0)).toArray 81 (0,0)):=by rw[hwS];exact(heap_setCell_other _ _ _ _ (fun e=>hd56 e.symm)).trans ((heap_setCell_other _ _ _ _ (fun e=>hd56 e.symm)).trans ((heap_setCell_other _ _ _ _ (fun e=>hd56 e.symm)).trans F6_8))
     have HWS:=Lib.hid hwS;clear hwS;refine wpAnyH_ready (rs:=[20]) (by kernel_rfl) (by simp) ?_;refine AllReadyH.cons rfl (fun K hK=>?_) AllReadyH.nil
     go_simp
     rw[<-HWS.out];refine hK.out _ _ (HS.out wS BS) (fun hHeld=>?_);clear hK K q0 q1 q2 z0 z1 z2;have TH:wS.there b6_8 0 cs.toArray.size:=by have:=there_blkg (n:=cs.toArray.size) H6 (by rw[stC_len];simp[hcl]);exact this
     have H56:(wS.setCells b6_8 0 cs).heap[b5_6]?=some (.cells #[.int .i64 (oo:Nat),.int .i64 (aa:Nat),.int .i64 (dd:Nat)] 84 (0,0)):=(setCells_other hd56 cs 0 wS).trans H5;have H66:(wS.setCells b6_8 0 cs).heap[b6_8]?=some (.cells cs.toArray 81 (0,0)):=by have:=setCells_row cs (stC ([],0)) [] wS H6 (by rw[stC_len,hcl]);exact this
     have BE:Below w.heap.size w (wS.setCells b6_8 0 cs):=below_setCellsg (by omega) cs 0 wS BS;refine wpAnyH_ready (rs:=[21]) (by kernel_rfl) (by simp) ?_;refine AllReadyH.cons rfl (fun K hK=>?_) AllReadyH.nil;rw[if_pos (by rfl)];refine wp_store_mid _ _ _ rfl b6_8 0 cs.toArray rfl rfl TH hsz2 hone ?_;refine hK.out _ _ (HS.out _ BE) (fun hHeld=>?_);clear hK K;simp only[Act.put,List.getElem_toArray,List.getElem_cons_zero,List.getElem_cons_succ,List.setIfInBounds_toArray,List.set_cons_zero,List.set_cons_succ];refine wpAnyH_done (by kernel_rfl) ?_ _;refine NoPanic.normal ?_;go_wp2;go_meet;exact⟨b5_6,b6_8,rfl,rfl,by omega,by omega,hd56,BE,H56,H66⟩
   ·skip
    go_simp
    obtain⟨wx9,hwx9⟩:∃y,y=wx6.alloc (.cells (stC ([],0)).toArray 81):=⟨_,rfl⟩
    obtain⟨b6_9,hb6_9⟩:∃y,y=wx6.heap.size:=⟨_,rfl⟩
    have BX9:Below w.heap.size w wx9:=by rw[hwx9];exact BX6.alloc BX6.size _
    have F6_9:wx9.heap[b6_9]?=some (.cells (stC ([],0)).toArray 81 (0,0)):=by rw[hwx9,hb6_9];exact h1G _ _
    have hl9:=lt_of_block F6_9;have hge9:w.heap.size<=b6_9:=by have:=BX6.size;omega
    have F5_9:=((by rw[hwx9];exact Below.heap_alloc _ _ _ (lt_of_block F5_6):wx9.heap[_]?=wx6.heap[_]?)).trans F5_6;have hx9:b6_9≠b5_6:=by have:=lt_of_block F5_6;omega
    rw[turng (w:=wx6) (w1:=wx9) ?hW9]
    case hW9=>first|(rw[hwx9];done)|(rw[hwx9];kernel_rfl)
    try rw[show wx6.heap.size=b6_9 from hb6_9.symm]
    clear hwx9 hb6_9;have TX9:=hT.below BX9;refine hK.out _ _ (HS.out wx9 BX9) (fun hHeld=>?_);clear hK K;refine wpAnyH_ready (rs:=[8]) (by kernel_rfl) (by simp) ?_;refine AllReadyH.cons rfl (fun K hK=>?_) AllReadyH.nil
    ·skip
     go_simp
     go_wp2_with (first|(go_at_call 37;refine(hPa _ TX9).mono ?_;rintro e wx10 ⟨rfl,BC10⟩));have BX10:Below w.heap.size w wx10:=BX9.trans (BC10.mono BX9.size);have hz10:=BX10.size;have F5_10:=(BC10.block _ (lt_of_block F5_9)).trans F5_9;have F6_10:=(BC10.block _ (lt_of_block F6_9)).trans F6_9;have TX10:=hT.below BX10;refine hK.out _ _ (HS.out wx10 BX10) (fun hHeld=>?_);clear hK K;have hd56:b5_6≠b6_9:=by omega
     have q0:wx10.cell? ⟨b5_6,0,none⟩=some (.int .i64 0):=by rw[cell_of_row _ _ _ _ _ _ F5_10];rfl
     have q1:wx10.cell? ⟨b5_6,1,none⟩=some (.int .i64 0):=by rw[cell_of_row _ _ _ _ _ _ F5_10];rfl
     have q2:wx10.cell? ⟨b5_6,2,none⟩=some (.int .i64 0):=by rw[cell_of_row _ _ _ _ _ _ F5_10];rfl
     have z0:=frozen_of_row _ b5_6 0 _ _ F5_10;have z1:=frozen_of_row _ b5_6 1 _ _ F5_10;have z2:=frozen_of_row _ b5_6 2 _ _ F5_10;obtain⟨wS,hwS⟩:∃wS,wS=((wx10.setCell ⟨b5_6,0,none⟩ (.int .i64 (oo:Nat))).setCell ⟨b5_6,1,none⟩ (.int .i64 (aa:Nat))).setCell ⟨b5_6,2,none⟩ (.int .i64 (dd:Nat)):=⟨_,rfl⟩
     have BS:Below w.heap.size w wS:=by rw[hwS];exact((BX10.setCell (p:=⟨b5_6,0,none⟩) (by show _<=b5_6;omega) _).setCell (p:=⟨b5_6,1,none⟩) (by show _<=b5_6;omega) _).setCell (p:=⟨b5_6,2,none⟩) (by show _<=b5_6;omega) _
     have H5:wS.heap[b5_6]?=some (.cells #[.int .i64 (oo:Nat),.int .i64 (aa:Nat),.int .i64 (dd:Nat)] 84 (0,0)):=by rw[hwS];exact heap_setCell_same _ _ 2 _ _ _ (heap_setCell_same _ _ 1 _ _ _ (heap_setCell_same _ _ 0 _ _ _ F5_10))
     have H6:wS.heap[b6_9]?=some (.cells (stC ([],0)).toArray 81 (0,0)):=by rw[hwS];exact(heap_setCell_other _ _ _ _ (fun e=>hd56 e.symm)).trans ((heap_setCell_other _ _ _ _ (fun e=>hd56 e.symm)).trans ((heap_setCell_other _ _ _ _ (fun e=>hd56 e.symm)).trans F6_10))
     have HWS:=Lib.hid hwS;clear hwS;refine wpAnyH_ready (rs:=[20]) (by kernel_rfl) (by simp) ?_;refine AllReadyH.cons rfl (fun K hK=>?_) AllReadyH.nil
     go_simp
     rw[<-HWS.out];refine hK.out _ _ (HS.out wS BS) (fun hHeld=>?_);clear hK K q0 q1 q2 z0 z1 z2;have TH:wS.there b6_9 0 cs.toArray.size:=by have:=there_blkg (n:=cs.toArray.size) H6 (by rw[stC_len];simp[hcl]);exact this
     have H56:(wS.setCells b6_9 0 cs).heap[b5_6]?=some (.cells #[.int .i64 (oo:Nat),.int .i64 (aa:Nat),.int .i64 (dd:Nat)] 84 (0,0)):=(setCells_other hd56 cs 0 wS).trans H5;have H66:(wS.setCells b6_9 0 cs).heap[b6_9]?=some (.cells cs.toArray 81 (0,0)):=by have:=setCells_row cs (stC ([],0)) [] wS H6 (by rw[stC_len,hcl]);exact this
     have BE:Below w.heap.size w (wS.setCells b6_9 0 cs):=below_setCellsg (by omega) cs 0 wS BS;refine wpAnyH_ready (rs:=[21]) (by kernel_rfl) (by simp) ?_;refine AllReadyH.cons rfl (fun K hK=>?_) AllReadyH.nil;rw[if_pos (by rfl)];refine wp_store_mid _ _ _ rfl b6_9 0 cs.toArray rfl rfl TH hsz2 hone ?_;refine hK.out _ _ (HS.out _ BE) (fun hHeld=>?_);clear hK K;simp only[Act.put,List.getElem_toArray,List.getElem_cons_zero,List.getElem_cons_succ,List.setIfInBounds_toArray,List.set_cons_zero,List.set_cons_succ];refine wpAnyH_done (by kernel_rfl) ?_ _;refine NoPanic.normal ?_;go_wp2;go_meet;exact⟨b5_6,b6_9,rfl,rfl,by omega,by omega,hd56,BE,H56,H66⟩
  ·skip
   go_simp
   obtain⟨wx11,hwx11⟩:∃y,y=(w.alloc (.cells (stC ([],0)).toArray 81)).drew:=⟨_,rfl⟩
   obtain⟨b6_11,hb6_11⟩:∃y,y=w.drew.heap.size:=⟨_,rfl⟩
   have BX11:Below w.heap.size w wx11:=by rw[hwx11];exact((Below.refl _ w).alloc (Nat.le_refl _) _).drew
   have F6_11:wx11.heap[b6_11]?=some (.cells (stC ([],0)).toArray 81 (0,0)):=by rw[hwx11,hb6_11];exact h1G _ _
   have hl11:=lt_of_block F6_11;have hge11:w.heap.size<=b6_11:=by have:=BD.size;omega
   rw[turnd (w:=w) (w1:=wx11) ?hW11]
   case hW11=>first|(rw[hwx11];done)|(rw[hwx11];kernel_rfl)
   try rw[show w.heap.size=b6_11 from hb6_11.symm]
   clear hwx11 hb6_11;have TX11:=hT.below BX11;refine hK.out _ _ (HS.out wx11 BX11) (fun hHeld=>?_);clear hK K;refine wpAnyH_ready (rs:=[8,18]) (by kernel_rfl) (by simp) ?_;refine AllReadyH.cons rfl (fun K hK=>?_) (AllReadyH.cons rfl (fun K hK=>?_) AllReadyH.nil)
   ·skip
    go_simp
    go_wp2_with (first|(go_at_call 37;refine(hPa _ TX11).mono ?_;rintro e wx12 ⟨rfl,BC12⟩));have BX12:Below w.heap.size w wx12:=BX11.trans (BC12.mono BX11.size);have hz12:=BX12.size;have F6_12:=(BC12.block _ (lt_of_block F6_11)).trans F6_11;have TX12:=hT.below BX12;refine hK.out _ _ (HS.out wx12 BX12) (fun hHeld=>?_);clear hK K;refine wpAnyH_ready (rs:=[18]) (by kernel_rfl) (by simp) ?_;refine AllReadyH.cons rfl (fun K hK=>?_) AllReadyH.nil
    ·skip
     go_simp
     obtain⟨wx13,hwx13⟩:∃y,y=wx12.alloc (.cells #[.int .i64 0,.int .i64 0,.int .i64 0] 84):=⟨_,rfl⟩
     obtain⟨b5_13,hb5_13⟩:∃y,y=wx12.heap.size:=⟨_,rfl⟩
     have BX13:Below w.heap.size w wx13:=by rw[hwx13];exact BX12.alloc BX12.size _
     have F5_13:wx13.heap[b5_13]?=some (.cells #[.int .i64 0,.int .i64 0,.int .i64 0] 84 (0,0)):=by rw[hwx13,hb5_13];exact h1G _ _
     have hl13:=lt_of_block F5_13;have hge13:w.heap.size<=b5_13:=by have:=BX12.size;omega
     have F6_13:=((by rw[hwx13];exact Below.heap_alloc _ _ _ (lt_of_block F6_12):wx13.heap[_]?=wx12.heap[_]?)).trans F6_12;have hx13:b5_13≠b6_11:=by have:=lt_of_block F6_12;omega
     rw[turng (w:=wx12) (w1:=wx13) ?hW13]
     case hW13=>first|(rw[hwx13];done)|(rw[hwx13];kernel_rfl)
     try rw[show wx12.heap.size=b5_13 from hb5_13.symm]
     clear hwx13 hb5_13;have TX13:=hT.below BX13;refine hK.out _ _ (HS.out wx13 BX13) (fun hHeld=>?_);clear hK K;have hd56:b5_13≠b6_11:=by omega
     have q0:wx13.cell? ⟨b5_13,0,none⟩=some (.int .i64 0):=by rw[cell_of_row _ _ _ _ _ _ F5_13];rfl
     have q1:wx13.cell? ⟨b5_13,1,none⟩=some (.int .i64 0):=by rw[cell_of_row _ _ _ _ _ _ F5_13];rfl
     have q2:wx13.cell? ⟨b5_13,2,none⟩=some (.int .i64 0):=by rw[cell_of_row _ _ _ _ _ _ F5_13];rfl
     have z0:=frozen_of_row _ b5_13 0 _ _ F5_13;have z1:=frozen_of_row _ b5_13 1 _ _ F5_13;have z2:=frozen_of_row _ b5_13 2 _ _ F5_13;obtain⟨wS,hwS⟩:∃wS,wS=((wx13.setCell ⟨b5_13,0,none⟩ (.int .i64 (oo:Nat))).setCell ⟨b5_13,1,none⟩ (.int .i64 (aa:Nat))).setCell ⟨b5_13,2,none⟩ (.int .i64 (dd:Nat)):=⟨_,rfl⟩
     have BS:Below w.heap.size w wS:=by rw[hwS];exact((BX13.setCell (p:=⟨b5_13,0,none⟩) (by show _<=b5_13;omega) _).setCell (p:=⟨b5_13,1,none⟩) (by show _<=b5_13;omega) _).setCell (p:=⟨b5_13,2,none⟩) (by show _<=b5_13;omega) _
     have H5:wS.heap[b5_13]?=some (.cells #[.int .i64 (oo:Nat),.int .i64 (aa:Nat),.int .i64 (dd:Nat)] 84 (0,0)):=by rw[hwS];exact heap_setCell_same _ _ 2 _ _ _ (heap_setCell_same _ _ 1 _ _ _ (heap_setCell_same _ _ 0 _ _ _ F5_13))
     have H6:wS.heap[b6_11]?=some (.cells (stC ([],0)).toArray 81 (0,0)):=by rw[hwS];exact(heap_setCell_other _ _ _ _ (fun e=>hd56 e.symm)).trans ((heap_setCell_other _ _ _ _ (fun e=>hd56 e.symm)).trans ((heap_setCell_other _ _ _ _ (fun e=>hd56 e.symm)).trans F6_13))
     have HWS:=Lib.hid hwS;clear hwS;refine wpAnyH_ready (rs:=[20]) (by kernel_rfl) (by simp) ?_;refine AllReadyH.cons rfl (fun K hK=>?_) AllReadyH.nil
     go_simp
     rw[<-HWS.out];refine hK.out _ _ (HS.out wS BS) (fun hHeld=>?_);clear hK K q0 q1 q2 z0 z1 z2;have TH:wS.there b6_11 0 cs.toArray.size:=by have:=there_blkg (n:=cs.toArray.size) H6 (by rw[stC_len];simp[hcl]);exact this
     have H56:(wS.setCells b6_11 0 cs).heap[b5_13]?=some (.cells #[.int .i64 (oo:Nat),.int .i64 (aa:Nat),.int .i64 (dd:Nat)] 84 (0,0)):=(setCells_other hd56 cs 0 wS).trans H5;have H66:(wS.setCells b6_11 0 cs).heap[b6_11]?=some (.cells cs.toArray 81 (0,0)):=by have:=setCells_row cs (stC ([],0)) [] wS H6 (by rw[stC_len,hcl]);exact this
     have BE:Below w.heap.size w (wS.setCells b6_11 0 cs):=below_setCellsg (by omega) cs 0 wS BS;refine wpAnyH_ready (rs:=[21]) (by kernel_rfl) (by simp) ?_;refine AllReadyH.cons rfl (fun K hK=>?_) AllReadyH.nil;rw[if_pos (by rfl)];refine wp_store_mid _ _ _ rfl b6_11 0 cs.toArray rfl rfl TH hsz2 hone ?_;refine hK.out _ _ (HS.out _ BE) (fun hHeld=>?_);clear hK K;simp only[Act.put,List.getElem_toArray,List.getElem_cons_zero,List.getElem_cons_succ,List.setIfInBounds_toArray,List.set_cons_zero,List.set_cons_succ];refine wpAnyH_done (by kernel_rfl) ?_ _;refine NoPanic.normal ?_;go_wp2;go_meet;exact⟨b5_13,b6_11,rfl,rfl,by omega,by omega,hd56,BE,H56,H66⟩
   ·skip
    go_simp
    obtain⟨wx14,hwx14⟩:∃y,y=wx11.alloc (.cells #[.int .i64 0,.int .i64 0,.int .i64 0] 84):=⟨_,rfl⟩
    obtain⟨b5_14,hb5_14⟩:∃y,y=wx11.heap.size:=⟨_,rfl⟩
    have BX14:Below w.heap.size w wx14:=by rw[hwx14];exact BX11.alloc BX11.size _
    have F5_14:wx14.heap[b5_14]?=some (.cells #[.int .i64 0,.int .i64 0,.int .i64 0] 84 (0,0)):=by rw[hwx14,hb5_14];exact h1G _ _
    have hl14:=lt_of_block F5_14;have hge14:w.heap.size<=b5_14:=by have:=BX11.size;omega
    have F6_14:=((by rw[hwx14];exact Below.heap_alloc _ _ _ (lt_of_block F6_11):wx14.heap[_]?=wx11.heap[_]?)).trans F6_11;have hx14:b5_14≠b6_11:=by have:=lt_of_block F6_11;omega
    rw[turng (w:=wx11) (w1:=wx14) ?hW14]
    case hW14=>first|(rw[hwx14];done)|(rw[hwx14];kernel_rfl)
    try rw[show wx11.heap.size=b5_14 from hb5_14.symm]
    clear hwx14 hb5_14;have TX14:=hT.below BX14;refine hK.out _ _ (HS.out wx14 BX14) (fun hHeld=>?_);clear hK K;refine wpAnyH_ready (rs:=[8]) (by kernel_rfl) (by simp) ?_;refine AllReadyH.cons rfl (fun K hK=>?_) AllReadyH.nil
    ·skip
     go_simp
     go_wp2_with (first|(go_at_call 37;refine(hPa _ TX14).mono ?_;rintro e wx15 ⟨rfl,BC15⟩));have BX15:Below w.heap.size w wx15:=BX14.trans (BC15.mono BX14.size);have hz15:=BX15.size;have F6_15:=(BC15.block _ (lt_of_block F6_14)).trans F6_14;have F5_15:=(BC15.block _ (lt_of_block F5_14)).trans F5_14;have TX15:=hT.below BX15;refine hK.out _ _ (HS.out wx15 BX15) (fun hHeld=>?_);clear hK K;have hd56:b5_14≠b6_11:=by omega
     have q0:wx15.cell? ⟨b5_14,0,none⟩=some (.int .i64 0):=by rw[cell_of_row _ _ _ _ _ _ F5_15];rfl
     have q1:wx15.cell? ⟨b5_14,1,none⟩=some (.int .i64 0):=by rw[cell_of_row _ _ _ _ _ _ F5_15];rfl
     have q2:wx15.cell? ⟨b5_14,2,none⟩=some (.int .i64 0):=by rw[cell_of_row _ _ _ _ _ _ F5_15];rfl
     have z0:=frozen_of_row _ b5_14 0 _ _ F5_15;have z1:=frozen_of_row _ b5_14 1 _ _ F5_15;have z2:=frozen_of_row _ b5_14 2 _ _ F5_15;obtain⟨wS,hwS⟩:∃wS,wS=((wx15.setCell ⟨b5_14,0,none⟩ (.int .i64 (oo:Nat))).setCell ⟨b5_14,1,none⟩ (.int .i64 (aa:Nat))).setCell ⟨b5_14,2,none⟩ (.int .i64 (dd:Nat)):=⟨_,rfl⟩
     have BS:Below w.heap.size w wS:=by rw[hwS];exact((BX15.setCell (p:=⟨b5_14,0,none⟩) (by show _<=b5_14;omega) _).setCell (p:=⟨b5_14,1,none⟩) (by show _<=b5_14;omega) _).setCell (p:=⟨b5_14,2,none⟩) (by show _<=b5_14;omega) _
     have H5:wS.heap[b5_14]?=some (.cells #[.int .i64 (oo:Nat),.int .i64 (aa:Nat),.int .i64 (dd:Nat)] 84 (0,0)):=by rw[hwS];exact heap_setCell_same _ _ 2 _ _ _ (heap_setCell_same _ _ 1 _ _ _ (heap_setCell_same _ _ 0 _ _ _ F5_15))
     have H6:wS.heap[b6_11]?=some (.cells (stC ([],0)).toArray 81 (0,0)):=by rw[hwS];exact(heap_setCell_other _ _ _ _ (fun e=>hd56 e.symm)).trans ((heap_setCell_other _ _ _ _ (fun e=>hd56 e.symm)).trans ((heap_setCell_other _ _ _ _ (fun e=>hd56 e.symm)).trans F6_15))
     have HWS:=Lib.hid hwS;clear hwS;refine wpAnyH_ready (rs:=[20]) (by kernel_rfl) (by simp) ?_;refine AllReadyH.cons rfl (fun K hK=>?_) AllReadyH.nil
     go_simp
     rw[<-HWS.out];refine hK.out _ _ (HS.out wS BS) (fun hHeld=>?_);clear hK K q0 q1 q2 z0 z1 z2;have TH:wS.there b6_11 0 cs.toArray.size:=by have:=there_blkg (n:=cs.toArray.size) H6 (by rw[stC_len];simp[hcl]);exact this
     have H56:(wS.setCells b6_11 0 cs).heap[b5_14]?=some (.cells #[.int .i64 (oo:Nat),.int .i64 (aa:Nat),.int .i64 (dd:Nat)] 84 (0,0)):=(setCells_other hd56 cs 0 wS).trans H5;have H66:(wS.setCells b6_11 0 cs).heap[b6_11]?=some (.cells cs.toArray 81 (0,0)):=by have:=setCells_row cs (stC ([],0)) [] wS H6 (by rw[stC_len,hcl]);exact this
     have BE:Below w.heap.size w (wS.setCells b6_11 0 cs):=below_setCellsg (by omega) cs 0 wS BS;refine wpAnyH_ready (rs:=[21]) (by kernel_rfl) (by simp) ?_;refine AllReadyH.cons rfl (fun K hK=>?_) AllReadyH.nil;rw[if_pos (by rfl)];refine wp_store_mid _ _ _ rfl b6_11 0 cs.toArray rfl rfl TH hsz2 hone ?_;refine hK.out _ _ (HS.out _ BE) (fun hHeld=>?_);clear hK K;simp only[Act.put,List.getElem_toArray,List.getElem_cons_zero,List.getElem_cons_succ,List.setIfInBounds_toArray,List.set_cons_zero,List.set_cons_succ];refine wpAnyH_done (by kernel_rfl) ?_ _;refine NoPanic.normal ?_;go_wp2;go_meet;exact⟨b5_14,b6_11,rfl,rfl,by omega,by omega,hd56,BE,H56,H66⟩
 case rest =>
  obtain⟨b5,b6,rfl,rfl,hge5,hge6,hne,B1,H5,H6⟩:=hcut;clear KB HS BD TD a0 a4 hwc hpt hrg hgc hgf hPa hTB hT hsz2 hsb hso hbl hkI hkI2 hwl hgs1 hgl af a1 a2 a5 a6 a7 a8;obtain⟨o1,ho1⟩:∃o1,o1=newLab w o 9:=⟨_,rfl⟩
  have hnl:∀ j,w.heap.size<=j->o1 j=9:=fun j hj=>by rw[ho1];exact newLab_new hj
  have SB:∀ {I:Nat->Prop}{w':World},Below w.heap.size w w'->Step I w o w' o1:=fun {I}{w'} B=>by rw[ho1];exact stepNg B
  have MB:∀ {w':World},Below w.heap.size w w'->VwM w' o1 vb z p c v pb:=fun {w'} B=>hM.step (SB (I:=fun _=>False) B) (fun h=>h) (fun h=>h) (fun h=>h) (fun h=>h);have CB:∀ {w':World},Below w.heap.size w w'->CdW w' p c:=fun {w'} B=>hC.below B;have h3B:Hid (∀ {w':World},Below w.heap.size w w'->w'.cell? ⟨vb,3,none⟩=some (.slice p.ak c.ks.length p.ck)):=fun {w'} B=>(B.cell (p:=⟨vb,3,none⟩) hvlt).trans a3;have hs6:StB wc b6 s:=by show _=_;rw[HCS.out];exact H6
  have r6:=range_blkg H6;have k0:wc.cell? ⟨b5,0,none⟩=some (.int .i64 (oo:Nat)):=by rw[cell_of_row _ _ _ _ _ _ H5];rfl
  have k1:wc.cell? ⟨b5,1,none⟩=some (.int .i64 (aa:Nat)):=by rw[cell_of_row _ _ _ _ _ _ H5];rfl
  have k2:wc.cell? ⟨b5,2,none⟩=some (.int .i64 (dd:Nat)):=by rw[cell_of_row _ _ _ _ _ _ H5];rfl
  by_cases e0:oo=0
  ·subst e0;have hl:lookW c 0 aa dd k s v=haltF s v:=by unfold lookW;rw[if_pos rfl]
   have HH:=halt_c wc o1 vb z p c v pb n s V S (MB B1);rw[HCS.out] at HH;have HZ:Hid (∀ e w',PostV wc o1 vb z p c (haltF s v) e w'->∃x:Nat,e=.returned (.int .i64 (x:Nat))/\PostKG w o vb z p c (lookW c 0 aa dd k s v) (.returned (.int .i64 (x:Nat))) w'):=fun e w' ⟨h1,o',pb',h2,h3⟩=>by
    rw[hl];exact⟨_,h1,rfl,o',(SB B1).trans h3,fun _=>⟨pb',h2⟩⟩
   generalize lookW c 0 aa dd k s v=R at *;have k0':wc.cell? ⟨b5,0,none⟩=some (.int .i64 0):=k0;clear k0 hl HCS H5 H6 hs6 MB CB SB hC hM V S D hk hcl hone hr W a3 h3B B1;go_wp2_with (first|(refine wpList_load_mid rfl 81 _ rfl b6 0 rfl cs _ r6 Tryd.underlying81 rfl hsz ?_)|(go_at_call 38;refine HH.mono ?_;intro e w2 h;obtain⟨x,rfl,HY⟩:=HZ.out e w2 h;have HYY:=Lib.hid HY;clear HH HZ h HY k0' k1 k2 r6));go_ret;exact HYY.out
  ·have e0I:¬(oo:Int)=0:=by omega
   have HP:=pass_c c hr b6 oo aa dd s wc.drew W S hs6 p.ak p.ck (CB B1.drew).ks;have hvb6:vb≠b6:=by omega
   have h5l:=lt_of_block H5;have h6l:=lt_of_block H6;have HS4:Hid (∀ w2,Kb b6 wc.drew w2->w2.cell? ⟨b5,0,none⟩=some (.int .i64 (oo:Nat))/\w2.cell? ⟨b5,1,none⟩=some (.int .i64 (aa:Nat))/\w2.cell? ⟨b5,2,none⟩=some (.int .i64 (dd:Nat))/\w2.cell? ⟨vb,3,none⟩=some (.slice p.ak c.ks.length p.ck)/\w2.heap[b5]?=some (bxW oo aa dd)/\Below w.heap.size w w2):=fun w2 K=>by
    have BW:Below w.heap.size w w2:=B1.drew.trans (K.below hge6 B1.size);have hb5:w2.heap[b5]?=some (bxW oo aa dd):=(K.block b5 h5l hne).trans H5;exact⟨by rw[cell_of_row _ _ _ _ _ _ hb5];rfl,by rw[cell_of_row _ _ _ _ _ _ hb5];rfl,by rw[cell_of_row _ _ _ _ _ _ hb5];rfl,h3B.out BW,hb5,BW⟩
   obtain⟨y0,y1,y2,y3,-,-⟩:=HS4.out wc.drew (Kb.refl _ _);have HH5:=Lib.hid H5;have HH6:=Lib.hid H6;have HB1:=Lib.hid B1;have hs6':=Lib.hid hs6;clear k1 k2 H5 H6 B1 hs6 r6 a3 hvlt HB1;have hlk:lookW c oo aa dd k s v=match passF c oo aa dd s with
    | .inl e=>(e,v)
    | .inr t=>match leadF c oo aa t with
     | none=>(201,v)
     | some d=>goF oo aa dd k t d v:=by unfold lookW;rw[if_neg e0];rfl
   cases hpf:passF c oo aa dd s with
   | inl ee =>
    rw[hpf] at HP hlk
    dsimp only at hlk
    have HZ:Hid (∀ w2,Kb b6 wc.drew w2->ee≠0->PostKG w o vb z p c (lookW c oo aa dd k s v) (.returned (.int .i64 (ee:Nat))) w2/\(((ee:Nat):Int) != 0)=true):=fun w2 K hn=>by
     rw[hlk];obtain⟨-,-,-,-,-,BW⟩:=HS4.out w2 K;exact⟨⟨rfl,o1,SB BW,fun h=>absurd h hn⟩,by simpa using hn⟩
    generalize lookW c oo aa dd k s v=R at *;clear hlk hpf MB CB SB hC hM V S D hk hcl hone hr W HCS;go_upto_region 4 with fail;go_region_held3 (fun wx=>wx.cell? ⟨b5,0,none⟩=some (.int .i64 (oo:Nat))/\wx.cell? ⟨b5,1,none⟩=some (.int .i64 (aa:Nat))/\wx.cell? ⟨b5,2,none⟩=some (.int .i64 (dd:Nat))/\wx.cell? ⟨vb,3,none⟩=some (.slice p.ak c.ks.length p.ck)) (go_keep) (first|(go_at_call 39;refine HP.mono ?_;rintro e w2 ⟨K2,rfl,hn⟩;obtain⟨m0,m1,m2,m3,-,-⟩:=HS4.out w2 K2;obtain⟨HY,hnb⟩:=HZ.out w2 K2 hn;have HYY:=Lib.hid HY;clear HY hn));clear HP HZ HS4 m0 m1 m2 m3 y0 y1 y2 y3;go_wp2;go_ret;exact HYY.out
   | inr t =>
    rw[hpf] at HP hlk
    dsimp only at hlk
    have T:=pass_ok hr W S hpf;have h24:=pass_24 hpf;have hszt:=sizeSt t;obtain⟨ct,hct⟩:∃ct,ct=stC t:=⟨_,rfl⟩
    have htl:=stC_len t;rw[<-hct] at hszt htl;have HCT:=Lib.hid hct;have HLK:=Lib.hid hlk;generalize lookW c oo aa dd k s v=R at *;clear hct hpf hlk;go_upto_region 4 with fail;go_region_held3 (fun wx=>wx.cell? ⟨b5,0,none⟩=some (.int .i64 (oo:Nat))/\wx.cell? ⟨b5,1,none⟩=some (.int .i64 (aa:Nat))/\wx.cell? ⟨b5,2,none⟩=some (.int .i64 (dd:Nat))/\wx.cell? ⟨vb,3,none⟩=some (.slice p.ak c.ks.length p.ck)) (go_keep) (first|(go_at_call 39;refine HP.mono ?_;rintro e w2 ⟨K2,rfl,ht2⟩;obtain⟨m0,m1,m2,m3,g5,BW2⟩:=HS4.out w2 K2));clear HP y0 y1 y2 y3;have r6:w2.rangeAt b6 0 ct:=by rw[HCT.out];exact range_blkg ht2
    have HT2:=Lib.hid ht2;have HG5:=Lib.hid g5;have HBW2:=Lib.hid BW2;clear ht2 g5 BW2 K2 HS4;go_upto_region 7 with fail;obtain⟨b8,hb8⟩:∃b8,b8=w2.heap.size:=⟨_,rfl⟩
    obtain⟨wa,hwa⟩:∃wa,wa=w2.alloc (.cells (stC ([],0)).toArray 81):=⟨_,rfl⟩
    have hBa:Below w2.heap.size w2 wa:=by rw[hwa];exact bG _ _
    have e8:wa.heap[b8]?=some (.cells (stC ([],0)).toArray 81 (0,0)):=by rw[hwa,hb8];exact h1G _ _
    have th8:wa.there b8 0 ct.toArray.size:=there_blkg (n:=ct.toArray.size) e8 (by rw[stC_len];simp[htl]);have hszt2:(Tryd.prog.info? 81).map (·.size)=some ct.toArray.size:=by simpa using hszt
    have hone2:(ct.toArray.all fun x=>x.oneCell')=true:=by rw[HCT.out];exact all_oneCell_toArray (stC_one t)
    refine wp_region_lit ?_;refine wpList_load_mid rfl 81 _ rfl b6 0 rfl ct _ r6 Tryd.underlying81 rfl hszt ?_;refine wpList_allocG rfl 81 rfl (some 8) rfl b8 hb8.symm (.agg (stC ([],0)).toArray) (zeroSt _) ?_;rw[turng (w:=w2) (w1:=wa) ?hWa]
    case hWa=>rw[hwa];rfl
    refine wpList_store_mid rfl 81 _ _ rfl b8 0 ct.toArray rfl rfl th8 hszt2 hone2 ?_;simp only[Act.put,List.setIfInBounds_toArray,List.set_cons_zero,List.set_cons_succ];have F8:(wa.setCells b8 0 ct).heap[b8]?=some (.cells ct.toArray 81 (0,0)):=by have:=setCells_row ct (stC ([],0)) [] wa e8 (by rw[stC_len,htl]);exact this
    have hl2:=lt_of_block HT2.out;have hl5:=lt_of_block HG5.out;have hBW2:=HBW2.out.size;have hne8:b5≠b8/\b6≠b8/\w.heap.size<=b8:=by omega
    have F5:(wa.setCells b8 0 ct).heap[b5]?=some (bxW oo aa dd):=(setCells_other hne8.1 ct 0 wa).trans ((hBa.block b5 hl5).trans HG5.out);have F6:StB (wa.setCells b8 0 ct) b6 t:=(setCells_other hne8.2.1 ct 0 wa).trans ((hBa.block b6 hl2).trans HT2.out);have BW3:Below w.heap.size w (wa.setCells b8 0 ct):=below_setCellsg hne8.2.2 ct 0 wa (HBW2.out.trans (hBa.mono HBW2.out.size));clear e8 th8 hwa hb8 hBa HT2 HG5 HBW2 r6 m0 m1 m2 m3 hl2 hl5 hBW2;generalize wa.setCells b8 0 ct=w3 at *;have F8s:StB w3 b8 t:=by show _=_;rw[<-HCT.out];exact F8
    have HL:=lead_c c hr b8 oo aa dd t w3.drew W T F8s p.ak p.ck (CB BW3.drew).ks h24;have HS8:Hid (∀ w2,Kb b8 w3.drew w2->w2.cell? ⟨b5,0,none⟩=some (.int .i64 (oo:Nat))/\w2.cell? ⟨b5,1,none⟩=some (.int .i64 (aa:Nat))/\w2.cell? ⟨b5,2,none⟩=some (.int .i64 (dd:Nat))/\w2.cell? ⟨vb,3,none⟩=some (.slice p.ak c.ks.length p.ck)/\w2.heap[b5]?=some (bxW oo aa dd)/\StB w2 b6 t/\Below w.heap.size w w2):=fun w2 K=>by
     have BW:Below w.heap.size w w2:=BW3.drew.trans (K.below hne8.2.2 BW3.size);have hb5:w2.heap[b5]?=some (bxW oo aa dd):=(K.block b5 (lt_of_block F5) hne8.1).trans F5;exact⟨by rw[cell_of_row _ _ _ _ _ _ hb5];rfl,by rw[cell_of_row _ _ _ _ _ _ hb5];rfl,by rw[cell_of_row _ _ _ _ _ _ hb5];rfl,h3B.out BW,hb5,(K.block b6 F6.lt hne8.2.1).trans F6,BW⟩
    obtain⟨y0,y1,y2,y3,-,-,-⟩:=HS8.out w3.drew (Kb.refl _ _);clear F8 F5 F6 F8s;unfold PostLd at HL;cases hld:leadF c oo aa t with
    | none =>
     rw[hld] at HL HLK
     dsimp only at HL
     have HZ:Hid (∀ w2,Kb b8 w3.drew w2->PostKG w o vb z p c R (.returned (.int .i64 201)) w2):=fun w2 K=>by
      have hR:R=(201,v):=HLK.out;rw[hR];obtain⟨-,-,-,-,-,-,BW⟩:=HS8.out w2 K;exact⟨rfl,o1,SB BW,fun h=>by cases h⟩
     clear HLK MB CB SB hC hM V S D hk hcl hone hr W HCS BW3;go_upto_region 8 with fail;go_region_held3 (fun wx=>wx.cell? ⟨b5,0,none⟩=some (.int .i64 (oo:Nat))/\wx.cell? ⟨b5,1,none⟩=some (.int .i64 (aa:Nat))/\wx.cell? ⟨b5,2,none⟩=some (.int .i64 (dd:Nat))/\wx.cell? ⟨vb,3,none⟩=some (.slice p.ak c.ks.length p.ck)) (go_keep) (first|(go_at_call 40;refine HL.mono ?_;rintro e w2 ⟨K2,rfl⟩;obtain⟨m0,m1,m2,m3,-,-,-⟩:=HS8.out w2 K2;have HY:=HZ.out w2 K2;have HYY:=Lib.hid HY;clear HY));clear HL HZ HS8 m0 m1 m2 m3 y0 y1 y2 y3;go_wp2;go_ret;exact HYY.out
    | some d =>
     rw[hld] at HL HLK
     dsimp only at HL
     have hR:R=goF oo aa dd k t d v:=HLK.out;have Dd:=lead_ok hr W T hld;have hszd:=sizeSt d;obtain⟨cd,hcd⟩:∃cd,cd=stC d:=⟨_,rfl⟩
     rw[<-hcd] at hszd;have HCD:=Lib.hid hcd;have hkn:k<32768:=by have:=(rgt_lens hr).2.1;omega
     have hal:=W.al;have hbl:=W.bl;have hol:=W.ol;have hnn:n<=32768:=by have:=(rgt_lens hr).2.1;omega
     have HLD:=fun wx=>leads_c oo aa dd hol wx;clear hcd HLK hld;by_cases e13:oo=13
     ·have hR2:R=come aa d v:=by rw[hR];unfold goF;rw[if_pos e13];subst e13;rfl
      subst e13;clear hR;go_upto_region 8 with fail;go_region_held3 (fun wx=>wx.cell? ⟨b5,0,none⟩=some (.int .i64 (13:Nat))/\wx.cell? ⟨b5,1,none⟩=some (.int .i64 (aa:Nat))/\wx.cell? ⟨b5,2,none⟩=some (.int .i64 (dd:Nat))/\wx.cell? ⟨vb,3,none⟩=some (.slice p.ak c.ks.length p.ck)) (go_keep) (first|(go_at_call 40;refine HL.mono ?_;rintro e w4 ⟨K4,rfl,h8⟩;obtain⟨m0,m1,m2,m3,g5,g6,BW4⟩:=HS8.out w4 K4));clear HL HS8 y0 y1 y2 y3 K4;have r8:w4.rangeAt b8 0 cd:=by rw[HCD.out];exact range_blkg h8
      have G5:=Lib.hid g5;have G8:=Lib.hid h8;have HBW:=Lib.hid BW4;have HC:=fun w5 (B:Below w.heap.size w w5)=>come_c w5 o1 vb z p c v pb n aa d V D Dd hnn (by omega) (MB B);rw[<-HCD.out,<-hR2] at HC;have HK:Hid (∀ w5,Below w.heap.size w w5->∀ e w',PostV w5 o1 vb z p c R e w'->∃x:Nat,e=.returned (.int .i64 (x:Nat))/\PostKG w o vb z p c R (.returned (.int .i64 (x:Nat))) w'):=fun w5 B e w' ⟨x1,o',pb',x2,x3⟩=>⟨_,x1,rfl,o',(SB B).trans x3,fun _=>⟨pb',x2⟩⟩;have hled:ledTo 13 aa dd=some aa:=rfl;rw[hled] at HLD;simp only[Option.getD_some,Option.isSome_some] at HLD;have hRR:∀ w5,Below w4.heap.size w4 w5->w5.rangeAt b8 0 cd:=fun w5 B j x hx=>(B.cell (p:=⟨b8,0+j,none⟩) G8.out.lt).trans (r8 j x hx);have hBB:∀ w5,Below w4.heap.size w4 w5->Below w.heap.size w w5:=fun w5 B=>HBW.out.trans (B.mono HBW.out.size);have hBB2:=Lib.hid hBB;have hRR2:=Lib.hid hRR;clear hBB hRR hR2 hled MB CB SB hC hM V S D hk hcl hone hr W HCS BW3 BW4 g5 g6 h8 T Dd;go_wp2_with (first|(go_at_call 41;refine(HLD _).mono ?_;rintro e w5 ⟨rfl,B5⟩;have BW5:=hBB2.out w5 B5;have r9:=hRR2.out w5 B5;have HC5:=HC w5 BW5;have HK5:=Lib.hid (HK.out w5 BW5);clear HLD HC HK m0 m1 m2 m3 BW5 r8)|(refine wpList_load_mid rfl 81 _ rfl b8 0 rfl cd _ r9 Tryd.underlying81 rfl hszd ?_)|(go_at_call 35;refine HC5.mono ?_;intro e w6 h;obtain⟨x,rfl,HY⟩:=HK5.out e w6 h;have HYY:=Lib.hid HY;clear HC5 HK5 h HY));go_ret;exact HYY.out
     ·have e13I:¬(oo:Int)=13:=by omega
      have e13B:(((oo:Nat):Int) != 13)=true:=by simpa using e13I
      go_upto_region 8 with fail;go_region_held3 (fun wx=>wx.cell? ⟨b5,0,none⟩=some (.int .i64 (oo:Nat))/\wx.cell? ⟨b5,1,none⟩=some (.int .i64 (aa:Nat))/\wx.cell? ⟨b5,2,none⟩=some (.int .i64 (dd:Nat))/\wx.cell? ⟨vb,3,none⟩=some (.slice p.ak c.ks.length p.ck)) (go_keep) (first|(go_at_call 40;refine HL.mono ?_;rintro e w4 ⟨K4,rfl,h8⟩;obtain⟨m0,m1,m2,m3,g5,g6,BW4⟩:=HS8.out w4 K4));clear HL HS8 y0 y1 y2 y3 K4;have r8:w4.rangeAt b8 0 cd:=by rw[HCD.out];exact range_blkg h8
      have G5:=Lib.hid g5;have G8:=Lib.hid h8;have HBW:=Lib.hid BW4;have hR2:R=if (come (k+1) t v).1=0 then (match ledTo oo aa dd with|none=>come (k+1) t v|some q=>come q d (come (k+1) t v).2) else come (k+1) t v:=by
       rw[hR];unfold goF;rw[if_neg e13];rfl
      have hc1:=come_ok (q:=k+1) V T;have hd1:=come_d (q:=k+1) (s:=t) D;have HC:=come_c w4 o1 vb z p c v pb n (k+1) t V D T hnn (by omega) (MB BW4);have r6:=range_blkg g6;rw[<-HCT.out] at HC r6;have hkI:((k:Int)+1)=((k+1:Nat):Int):=by omega
      have HKI:=Lib.hid hkI;clear hkI;generalize come (k+1) t v=r1 at *;have l5:o1 b5=9:=hnl _ hge5;have l8:o1 b8=9:=hnl _ hne8.2.2
      -- behind the first one
      have HV:Hid (∀ e w5,PostV w4 o1 vb z p c r1 e w5->e=.returned (.int .i64 (r1.1:Nat))/\(∃o' pb',VwM w5 o' vb z p c r1.2 pb'/\Step I13 w o w5 o'/\o' b8=9/\o' b5=9)/\w5.heap[b5]?=some (bxW oo aa dd)/\StB w5 b8 d):=fun e w5 ⟨x1,o',pb',x2,x3⟩ =>
       ⟨x1,⟨o',pb',x2,(SB HBW.out).trans x3,(x3.lab _ G8.out.lt).trans l8,(x3.lab _ (lt_of_block G5.out)).trans l5⟩,(x3.block b5 (lt_of_block G5.out) (by rw[l5];decide)).trans G5.out,(x3.block b8 G8.out.lt (by rw[l8];decide)).trans G8.out⟩
      by_cases ez:r1.1=0
      ·rw[if_pos ez] at hR2;have ezI:((r1.1:Nat):Int)=0:=by omega
       cases hled:ledTo oo aa dd with
       | none =>
        rw[hled] at hR2 HLD
        dsimp only at hR2
        simp only[Option.getD_none,Option.isSome_none] at HLD;have HK:Hid (∀ e w5,PostV w4 o1 vb z p c r1 e w5->e=.returned (.int .i64 0)/\w5.cell? ⟨b5,0,none⟩=some (.int .i64 (oo:Nat))/\w5.cell? ⟨b5,1,none⟩=some (.int .i64 (aa:Nat))/\w5.cell? ⟨b5,2,none⟩=some (.int .i64 (dd:Nat))/\∀ w6,Below w5.heap.size w5 w6->PostKG w o vb z p c R (.returned (.int .i64 0)) w6):=fun e w5 h=>by
         obtain⟨y1,⟨o',pb',y2,y3,-,-⟩,y4,y5⟩:=HV.out e w5 h;refine⟨by rw[y1,ezI],by rw[cell_of_row _ _ _ _ _ _ y4];rfl,by rw[cell_of_row _ _ _ _ _ _ y4];rfl,by rw[cell_of_row _ _ _ _ _ _ y4];rfl,fun w6 B=>?_⟩;rw[hR2];exact⟨by rw[ezI],newLab w5 o' 0,y3.trans (stepNg B),fun _=>⟨pb',y2.step (stepNg (I:=fun _=>False) B) (fun h=>h) (fun h=>h) (fun h=>h) (fun h=>h)⟩⟩
        clear HV hc1 hd1 hR2 hR hled MB CB SB hC hM V S D hk hcl hone hr W HCS BW3 BW4 g5 g6 h8 T Dd l5 l8 hnl ez ezI r8 e13;go_wp2_with (first|(refine wpList_load_mid rfl 81 _ rfl b6 0 rfl ct _ r6 Tryd.underlying81 rfl hszt ?_)|(go_at_call 35;(try rw[HKI.out]);refine HC.mono ?_;intro e w5 h;obtain⟨rfl,n0,n1,n2,HY⟩:=HK.out e w5 h;have HYY:=Lib.hid HY;clear HC HK h HY r6 m0 m1 m2 m3)|(go_at_call 41;refine(HLD _).mono ?_;rintro e w6 ⟨rfl,B6⟩;have HY:=HYY.out w6 B6;have HYZ:=Lib.hid HY;clear HYY HY HLD n0 n1 n2));go_ret;exact HYZ.out
       | some q =>
        rw[hled] at hR2 HLD
        dsimp only at hR2
        simp only[Option.getD_some,Option.isSome_some] at HLD;have hql:=led_or hled;have HK:Hid (∀ e w5,PostV w4 o1 vb z p c r1 e w5->e=.returned (.int .i64 0)/\w5.cell? ⟨b5,0,none⟩=some (.int .i64 (oo:Nat))/\w5.cell? ⟨b5,1,none⟩=some (.int .i64 (aa:Nat))/\w5.cell? ⟨b5,2,none⟩=some (.int .i64 (dd:Nat)) /\
          ∀ w6,Below w5.heap.size w5 w6->w6.rangeAt b8 0 cd/\Calls Tryd.prog 35 #[.pointer (some ⟨vb,0,none⟩),.int .i64 (q:Nat),.agg cd.toArray] w6 fun e w'=>∃x:Nat,e=.returned (.int .i64 (x:Nat))/\PostKG w o vb z p c R (.returned (.int .i64 (x:Nat))) w'):=fun e w5 h=>by
         obtain⟨y1,⟨o',pb',y2,y3,y6,-⟩,y4,y5⟩:=HV.out e w5 h;refine⟨by rw[y1,ezI],by rw[cell_of_row _ _ _ _ _ _ y4];rfl,by rw[cell_of_row _ _ _ _ _ _ y4];rfl,by rw[cell_of_row _ _ _ _ _ _ y4];rfl,fun w6 B=>⟨?_,?_⟩⟩
         ·rw[HCD.out];exact range_blkg ((B.block b8 y5.lt).trans y5)
         ·have HC2:=come_c w6 (newLab w5 o' 0) vb z p c r1.2 pb' n q d hc1.1 hd1 Dd hnn (by omega) (y2.step (stepNg (I:=fun _=>False) B) (fun h=>h) (fun h=>h) (fun h=>h) (fun h=>h));rw[<-HCD.out,<-hR2] at HC2;exact HC2.mono fun e w' ⟨x1,o'',pb'',x2,x3⟩=>⟨_,x1,rfl,o'',(y3.trans (stepNg B)).trans x3,fun _=>⟨pb'',x2⟩⟩
        clear HV hc1 hd1 hR2 hR hled MB CB SB hC hM V S D hk hcl hone hr W HCS BW3 BW4 g5 g6 h8 T Dd l5 l8 hnl ez ezI r8 e13 hql;go_wp2_with (first|(refine wpList_load_mid rfl 81 _ rfl b6 0 rfl ct _ r6 Tryd.underlying81 rfl hszt ?_)|(refine wpList_load_mid rfl 81 _ rfl b8 0 rfl cd _ r9 Tryd.underlying81 rfl hszd ?_)|(go_at_call 35;(try rw[HKI.out]);refine HC.mono ?_;intro e w5 h;obtain⟨rfl,n0,n1,n2,HY⟩:=HK.out e w5 h;have HYY:=Lib.hid HY;clear HC HK h HY r6 m0 m1 m2 m3)|(go_at_call 41;refine(HLD _).mono ?_;rintro e w6 ⟨rfl,B6⟩;obtain⟨r9,HC6⟩:=HYY.out w6 B6;clear HYY HLD n0 n1 n2)|(go_at_call 35;refine HC6.mono ?_;rintro e w7 ⟨x,rfl,HY⟩;have HYZ:=Lib.hid HY;clear HC6 HY r9));go_ret;exact HYZ.out
      ·rw[if_neg ez] at hR2;have ezI:(((r1.1:Nat):Int) != 0)=true:=by simpa using ez
       have HK:Hid (∀ e w5,PostV w4 o1 vb z p c r1 e w5->∃x:Nat,e=.returned (.int .i64 (x:Nat))/\(((x:Nat):Int) != 0)=true/\PostKG w o vb z p c R (.returned (.int .i64 (x:Nat))) w5):=fun e w5 h=>by
        obtain⟨y1,⟨o',pb',y2,y3,-,-⟩,-,-⟩:=HV.out e w5 h;rw[hR2];exact⟨_,y1,ezI,rfl,o',y3,fun h=>absurd h ez⟩
       clear HV hc1 hd1 hR2 hR MB CB SB hC hM V S D hk hcl hone hr W HCS BW3 BW4 g5 g6 h8 T Dd l5 l8 hnl ez ezI r8 e13 HLD;go_wp2_with (first|(refine wpList_load_mid rfl 81 _ rfl b6 0 rfl ct _ r6 Tryd.underlying81 rfl hszt ?_)|(go_at_call 35;(try rw[HKI.out]);refine HC.mono ?_;intro e w5 h;obtain⟨x,rfl,xn,HY⟩:=HK.out e w5 h;have HYY:=Lib.hid HY;clear HC HK h HY r6 m0 m1 m2 m3));go_ret;exact HYY.out
end Go.Proofs.YtejnhibajmncaaaDoor

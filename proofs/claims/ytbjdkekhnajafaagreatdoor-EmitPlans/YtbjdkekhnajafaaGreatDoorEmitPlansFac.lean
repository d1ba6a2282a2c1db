import Derived.Test.YtbjdkekhnajafaaGreatDoorRowK11
import Derived.Test.YtbjdkekhnajafaaGreatDoorCards
import Derived.Test.YtbjdkekhnajafaaGreatDoorTie
set_option maxRecDepth 100000
set_option maxHeartbeats 8000000
namespace Go.Proofs.YtbjdkekhnajafaaGreatDoor
open Go.ChangeShapes Go.WideShapes Go.ChangeAt Go.RowKit
set_option linter.unusedVariables false
theorem gK {W:World}{m:Nat}{l:List Value}{a b:Int}{p:List MemPlace}
  (h:DataW.trod(fun _=>()) Tryz.prog W 0(fun _=>true) false m 263 l=some(.agg [.lit(.int .u64 a),.lit(.int .u64 b)],p)):l=[.int .u64 a,.int .u64 b]:=by
 obtain⟨y0,y1,n,hx,hl,h0,h1⟩:=trod_struct2 Tryz.underlying263 h;simp only[Prod.mk.injEq,DataW.agg.injEq,List.cons.injEq,and_true] at hx;obtain⟨⟨e0,e1⟩,_⟩:=hx;obtain⟨z0,c0,r0,_⟩:=DataW.trod_int Tryz.underlying202 h0;obtain⟨z1,c1,r1,_⟩:=DataW.trod_int Tryz.underlying54 h1;subst r0 r1;simp only[DataW.lit.injEq,Lit.int.injEq,true_and] at e0 e1;subst e0 e1;rw[mu] at hl;simp only[uA,pX] at c0 c1
 match l,hl with
 | [v0,v1],_ =>
  simp at c0 c1;rw[c0,c1]
theorem oi {W : World} {r : List (String × DataW Unit)} (h : laidMet Tryz.prog (("isthmus/pack.fields", Rows.laid_isthmus_pack_fields) :: r) W) : Tab W := by
 obtain⟨ps,⟨g',t',cs,fuel,p,q,hg',ht',hvar,hd,_,_⟩,_⟩:=h;obtain rfl:=Option.some.inj(gTab.symm.trans hg');obtain rfl:=Option.some.inj(y7.symm.trans ht');obtain⟨xs,m,_,hx,hl,hlen,hf⟩:=DataW.trod_array Tryz.underlying264 hd;rw[wP] at hl;simp only[mu] at hf
 match xs,hlen with
 | [x0,x1,x2],_ =>
  have f0:=hf 0(by omega);have f1:=hf 1(by omega);have f2:=hf 2(by omega);simp only[Rows.laid_isthmus_pack_fields,List.map_cons,List.map_nil,Prod.mk.injEq,DataW.agg.injEq,List.cons.injEq,and_true] at hx;obtain⟨⟨e0,e1,e2⟩,_⟩:=hx;obtain⟨d0,p0⟩:=x0;obtain⟨d1,p1⟩:=x1;obtain⟨d2,p2⟩:=x2;simp only at e0 e1 e2;subst e0 e1 e2;have g0:=gK f0;have g1:=gK f1;have g2:=gK f2;obtain⟨l⟩:=cs
  match l,hl with
  | [v0,v1,v2,v3,v4,v5],_ =>
   simp at g0 g1 g2;obtain⟨rfl,rfl⟩:=g0;obtain⟨rfl,rfl⟩:=g1;obtain⟨rfl,rfl⟩:=g2;have hc:=fun i=>World.var?_cell gTab hvar i;have c0:=hc 0;have c1:=hc 1;have c2:=hc 2;have c3:=hc 3;have c4:=hc 4;have c5:=hc 5;simp at c0 c1 c2 c3 c4 c5;refine⟨c0,c1,c2,c3,c4,c5,?_⟩;by_cases hs:2<W.heap.size
   ·exact hs
   ·exfalso
    have:W.heap[2]?=none:=Array.getElem?_eq_none(by omega)
    simp[World.cell?,this] at c0
theorem gBar : Tryz.prog.globalNamed "isthmus/emit.bare" = some 0 := by kernel_rfl
theorem wN:(Tryz.prog.globals[0]?).map (·.type)=some 208:=by kernel_rfl
theorem yE:Tryz.prog.cellsOf 208=25:=by kernel_rfl
def AO:List Int:=[0,0,0,0,0,0,4,5,6,7,8,9,10,0,0,0,0,0,0,0,0,0,20,0,22]
def barD:List (DataW Unit):=(List.range 25).map fun j=>.lit (.int .i64 (AO.getD j 0))
theorem zw:(Rows.laid_isthmus_emit_bare:DataW Unit)=.agg barD:=by rfl
theorem kF {W : World} {r : List (String × DataW Unit)} (h : laidMet Tryz.prog (("isthmus/emit.bare", Rows.laid_isthmus_emit_bare) :: r) W) : (∀ k : Nat, k < 25 → W.cell? ⟨0, k, none⟩ = some (.int .i64 (AO.getD k 0))) ∧ 0 < W.heap.size := by
 rw[zw] at h;obtain⟨ps,⟨g',t',cs,fuel,p,q,hg',ht',hvar,hd,_,_⟩,_⟩:=h;obtain rfl:=Option.some.inj(gBar.symm.trans hg');obtain rfl:=Option.some.inj(wN.symm.trans ht');obtain⟨xs,m,_,hx,hl,hlen,hf⟩:=DataW.trod_array Tryz.underlying208 hd;rw[yE] at hl;simp only[mA,Nat.mul_one] at hf;simp only[Prod.mk.injEq,DataW.agg.injEq] at hx;have hc:=fun i=>World.var?_cell gBar hvar i;have key:∀ o,o<25->cs[o]?=some(.int .i64(AO.getD o 0)):=fun o ho=>by
  have hfi:=hf o ho;have hxi:xs[o]?=some xs[o]:=List.getElem?_eq_getElem(by omega);rw[hxi] at hfi;obtain⟨z,c0,r0,_⟩:=DataW.trod_int Tryz.underlying3 hfi;have hd:(xs.map(·.1))[o]?=some(.lit(.int .i64 z)):=by rw[List.getElem?_map,hxi,r0];rfl
  rw[<-hx.1] at hd;unfold barD at hd;rw[List.getElem?_map,List.getElem?_range ho] at hd;simp only[Option.map_some,Option.some.injEq,DataW.lit.injEq,Lit.int.injEq,true_and] at hd;have h0:((cs.toList.drop o).take 1)[0]?=some(.int .i64 z):=by rw[c0];rfl
  simp only[List.getElem?_take,List.getElem?_drop] at h0;rw[hd];simpa using h0
 refine⟨fun o ho=>(hc o).trans(key o ho),?_⟩;by_cases hs:0<W.heap.size
 ·exact hs
 ·exfalso;have h0:=(hc 0).trans(key 0(by omega))
  have:W.heap[0]?=none:=Array.getElem?_eq_none(by omega)
  simp[World.cell?,this] at h0
theorem mQ {W : World} (h : laidMet Tryz.prog [("isthmus/pack.fields", Rows.laid_isthmus_pack_fields), ("isthmus/lex.words", Rows.laid_isthmus_lex_words), ("isthmus/emit.bare", Rows.laid_isthmus_emit_bare)] W) : iz W := ⟨oi h, (kF h.tail.tail).1, (kF h.tail.tail).2⟩
def D3:Array Value:=((List.range 25).map fun j=>Value.int .i64 (AO.getD j 0)).toArray
def iI (P:Program)(os:Os):World :=
 let w0:=World.holding P os⟨#[],#[],[]⟩
 { w0 with heap:=((w0.heap.modify 2(lI #[.int .u64 56,.int .u64 255,.int .u64 28,.int .u64 268435455,.int .u64 0,.int .u64 268435455])).modify 3(lI a7)).modify 0(lI D3) }
theorem sP {s:ByteArray}{a:List UInt8}(h:s.data.toList=a):Value.string s=stv a:=by
 subst h;rfl
def rawP (n:Int)(nm:List UInt8)(a:Int)(len:Nat):Prop:=-9223372036854775808<=n/\n<=9223372036854775807/\nm.length<=maxLen/\-9223372036854775808<=a/\a<=9223372036854775807/\len<=maxLen
def Fs.raw:Fs->Prop
 | ⟨none⟩=>True
 | ⟨some⟨_,n,nm,a,ks,r⟩⟩=>rawP n nm a ks.len/\ks.raw/\r.raw
def Ex.raw (e:Ex):Prop:=rawP e.n e.nm e.a e.kids.len/\e.kids.raw
theorem Fs.raw_wide:∀ {f:Fs},f.raw->f.wide
 | ⟨none⟩,h=>trivial
 | ⟨some⟨k,n,nm,a,ks,r⟩⟩,h=>⟨h.1.2.2.2.2.2,Fs.raw_wide(f:=ks) h.2.1,Fs.raw_wide(f:=r) h.2.2⟩
theorem Fs.len_size':∀ (x:Fs),x.len<=x.size
 | ⟨none⟩=>Nat.le_refl _
 | ⟨some⟨k,n,nm,a,ks,r⟩⟩=>by have:=Fs.len_size' r;show r.len+1<=ks.size+r.size+1;omega
theorem Fs.raw_fit:∀ {f:Fs},f.raw->f.size<=100000000->f.short/\f.rng
 | ⟨none⟩,h,hs=>⟨trivial,trivial⟩
 | ⟨some⟨k,n,nm,a,ks,r⟩⟩,h,hs=>by
  have hs:ks.size+r.size+1<=100000000:=hs;have h1:=Fs.raw_fit(f:=ks) h.2.1(by omega);have h2:=Fs.raw_fit(f:=r) h.2.2(by omega)
  have:=Fs.len_size' ks
  exact⟨⟨h.1.2.2.1,by omega,h1.1,h2.1⟩,⟨h.1.1,h.1.2.1,h1.2,h2.2⟩⟩
theorem Ex.raw_fit {e:Ex}(h:e.raw)(hs:e.kids.size<=100000000):e.fit:=by
 obtain⟨h1,h2⟩:=Fs.raw_fit h.2 hs
 have:=Fs.len_size' e.kids
 exact⟨h.1.2.2.1,h1,by omega,h.1.1,h.1.2.1,h2⟩
theorem iP (b off j:Nat):(⟨b,off,none⟩:Addr).add j=⟨b,off+j,none⟩:=by
 unfold Addr.add;split
 ·subst j;simp_all
 ·rfl
theorem iX:Tryz.prog.cellsOf 34=4:=by kernel_rfl
theorem Bf:Tryz.prog.cellsOf 32=1:=by kernel_rfl
theorem zu:Tryz.prog.cellsOf 35=1:=by kernel_rfl
theorem Aw:Tryz.prog.cellsOf 37=5:=by kernel_rfl
theorem uT {H:Type}{enc:TypeId × Value->H}{W:World}{sp:Nat->Bool}{held:Bool}:∀ (fuel:Nat) (cs:List Value) (x:DataW H × List MemPlace),DataW.trod enc Tryz.prog W 0 sp held fuel 34 cs=some x->(∀ q ∈ x.2,q.block<W.heap.size) ->
  ∃(e:Ex)(ao:Option Addr)(cap:Nat),cs=[.int .i64 e.k,.int .i64 e.n,stv e.nm,.slice ao e.kids.len cap]/\SnA W e.kids ao/\e.raw:=by
 intro fuel
 induction fuel using Nat.strongRecOn with
 | _ fuel IH =>
 intro cs x h hlt;obtain⟨xs,k,hk,hxy,hl,hxl,hff⟩:=DataW.trod_struct Tryz.underlying34 h;rw[iX] at hl
 match xs,hxl,cs,hl with
 | [y0,y1,y2,y3],_,[u0,u1,u2,u3],_ =>
  have g0:=hff 0 _ rfl;have g1:=hff 1 _ rfl;have g2:=hff 2 _ rfl;have g3:=hff 3 _ rfl;simp[mA,pe,Bf] at g0 g1 g2 g3;obtain⟨z0,e0,x0,w0⟩:=DataW.trod_int Tryz.underlying3 g0;obtain⟨z1,e1,x1,w1⟩:=DataW.trod_int Tryz.underlying3 g1;obtain⟨z2,e2,x2,w2⟩:=DataW.trod_string Tryz.underlying9 g2;simp at e0 e1 e2;have b1:=xG w1;have hz2:(z2.data.toList).length<=maxLen:=by rw[bR];exact w2
  have hlt3:∀ q ∈ y3.2,q.block<W.heap.size:=fun q hq=>hlt q(by rw[hxy];simp[hq]);rcases DataW.trod_slice Tryz.underlying32 g3 with⟨hs,_⟩|⟨a,len,cap,elems,rest,n,hn,hs,hx3,_,hlc,hcm,hel,hE,_,_⟩
  ·simp at hs;refine⟨⟨z0,z1,z2.data.toList,0,.nil⟩,none,0,?_,.inl rfl,⟨b1.1,b1.2,hz2,by show -9223372036854775808<=(0:Int);decide,by show(0:Int)<=9223372036854775807;decide,by show 0<=_;omega⟩,trivial⟩;rw[e0,e1,e2,hs,sP rfl];rfl
  ·simp at hs;obtain⟨b,off,spot⟩:=a;have each:∀ i,i<len->∃(e:Ex)(ak:Option Addr)(ck:Nat),spot=none/\b<W.heap.size/\(∀ j u,([.int .i64 e.k,.int .i64 e.n,stv e.nm,.slice ak e.kids.len ck]:List Value)[j]?=some u->W.cell?⟨b,off+i*4+j,none⟩=some u)/\SnA W e.kids ak/\e.raw:=by
    intro i hi;have hEi:=hE i hi;rw[List.getElem?_eq_getElem(by omega),iX] at hEi;obtain⟨cs',h1,h2⟩:=Option.bind_eq_some_iff.1 hEi;obtain⟨_,hlen,hcell⟩:=World.cells?_some h1;have hsub:∀ q ∈ (elems[i]'(by omega)).2,q.block<W.heap.size:=fun q hq=>hlt3 q(by
     rw[hx3];simp only[List.mem_append,List.mem_flatMap];exact .inr⟨_,.inl(List.getElem_mem _),hq⟩)
    obtain⟨e,ak,ck,hcs,SK,hr⟩:=IH n(by omega) cs' _ h2 hsub;have hspot:spot=none:=by
     have hE0:=hE 0(by omega);rw[List.getElem?_eq_getElem(by omega),iX] at hE0;obtain⟨cs0,k1,k2⟩:=Option.bind_eq_some_iff.1 hE0;obtain⟨_,klen,kcell⟩:=World.cells?_some k1;have k3:=kcell 0(by omega);rw[List.getElem?_eq_getElem(by omega)] at k3;simpa [Addr.add] using World.cell?_spot k3
    subst hspot;have hbl:b<W.heap.size:=hlt3(.cell b off)(by
     rw[hx3];exact List.mem_append_left _(MemPlace.mem_row.2⟨0,by rw[iX];omega,by simp⟩))
    refine⟨e,ak,ck,rfl,hbl,fun j u hu=>?_,SK,hr⟩;rw[<-hcs] at hu;have hj:j<4:=by
     by_cases hj:j<4
     ·exact hj
     ·rw[List.getElem?_eq_none(by omega)] at hu;cases hu
    have:=hcell j hj
    rw[iP,iP,hu] at this;exact this
   have build:∀ m,m<=len->∃f:Fs,f.len=m/\f.raw/\(m=0\/spot=none/\b<W.heap.size)/\∃zs,(∀ j u,zs[j]?=some u->W.cell?⟨b,off+(len-m)*4+j,none⟩=some u)/\FcN W(fun _=>True) f zs:=by
    intro m
    induction m with
    | zero=>intro _;exact⟨.nil,rfl,trivial,.inl rfl,[],fun j u hu=>by simp at hu,rfl⟩
    | succ m ih =>
     intro hm;obtain⟨f,f1,f2,_,zs,f3,f4⟩:=ih(by omega);obtain⟨e,ak,ck,s1,s2,s3,s4,s5⟩:=each(len-(m+1))(by omega);refine⟨.cons e.k e.n e.nm e.a e.kids f,by show f.len+1=_;rw[f1],⟨s5.1,s5.2,f2⟩,.inr⟨s1,s2⟩,.int .i64 e.k::.int .i64 e.n::stv e.nm::.slice ak e.kids.len ck::zs,fun j u hu=>?_,ak,ck,zs,rfl,s4,f4⟩;by_cases hj:j<4
     ·refine s3 j u ?_;rw[<-hu]
      match j,hj with
      | 0,_=>rfl
      | 1,_=>rfl
      | 2,_=>rfl
      | 3,_=>rfl
     ·obtain⟨i,rfl⟩:∃i,j=i+4:=⟨j-4,by omega⟩
      have:=f3 i u(by simpa using hu)
      rw[show off+(len-(m+1))*4+(i+4)=off+(len-m)*4+i by
       have:len-m=len-(m+1)+1:=by omega
       rw[this];omega]
      exact this
   obtain⟨f,f1,f2,f5,zs,f3,f4⟩:=build len(Nat.le_refl _);have hcm':len<=maxLen:=Nat.le_trans hlc hcm;refine⟨⟨z0,z1,z2.data.toList,0,f⟩,some⟨b,off,spot⟩,cap,?_,?_,⟨b1.1,b1.2,hz2,by show -9223372036854775808<=(0:Int);decide,by show(0:Int)<=9223372036854775807;decide,by show f.len<=_;rw[f1];exact hcm'⟩,f2⟩
   ·show _=[Value.int .i64 z0,.int .i64 z1,stv z2.data.toList,.slice(some⟨b,off,spot⟩) f.len cap];rw[e0,e1,e2,hs,sP rfl,f1]
   ·rcases f5 with h0|⟨rfl,hb⟩
    ·refine .inl ?_;rw[h0] at f1;cases f using Fs.on with
     | nil=>rfl
     | cons k n nm a ks r=>cases f1
    ·refine .inr⟨b,off,zs,rfl,trivial,hb,fun j u hu=>?_,f4⟩
     have:=f3 j u hu
     rw[Nat.sub_self,Nat.zero_mul,Nat.add_zero] at this;exact this
def AA (cells:List Int):Prop:=cells.length<=maxLen/\∀ c,c ∈ cells->-9223372036854775808<=c/\c<=9223372036854775807
theorem uZ {H:Type}{enc:TypeId × Value->H}{W:World}{v:Value}{d:DataW H}{ps:List MemPlace}(h:DataW.Trod enc Tryz.prog W 0 (fun _=>true) true 37 v d ps)(hlt:∀ q ∈ ps,q.block<W.heap.size) :
  ∃(e:Ex)(ao:Option Addr)(cap:Nat)(cv:Value)(cells:List Int),v=plV e ao cap cv/\SnA W e.kids ao/\e.raw/\InA W cv cells/\AA cells:=by
 obtain⟨fuel,hf⟩:=h;obtain⟨xs,k,hk,hxy,hl,hxl,hff⟩:=DataW.trod_struct Tryz.underlying37 hf;rw[Aw] at hl;obtain⟨cs,hcs⟩:∃cs,cs=v.cells.toList:=⟨_,rfl⟩
 rw[<-hcs] at hl hff
 match xs,hxl,cs,hl with
 | [y0,y1],_,[u0,u1,u2,u3,u4],_ =>
  have g0:=hff 0 _ rfl;have g1:=hff 1 _ rfl;simp[iX,zu] at g0 g1;have hp0:∀ q ∈ y0.2,q.block<W.heap.size:=fun q hq=>hlt q(by
   have h2:ps=[y0,y1].flatMap(·.2):=congrArg Prod.snd hxy;rw[h2];simp[hq])
  have hp1:∀ q ∈ y1.2,q.block<W.heap.size:=fun q hq=>hlt q(by
   have h2:ps=[y0,y1].flatMap(·.2):=congrArg Prod.snd hxy;rw[h2];simp[hq])
  obtain⟨e,ao,cap,hc4,S,R⟩:=uT _ _ _ g0 hp0;obtain⟨cv,cells,hcv,IN,RI⟩:∃(cv:Value)(cells:List Int),u4=cv/\InA W cv cells/\AA cells:=by
   rcases open_ints Tryz.underlying35 Tryz.underlying3 mA g1 with⟨hcs,hx⟩|⟨a,len',cap',zs,hcs,_,hl,hm,hz,hx,hcell,hwz⟩
   ·simp at hcs;exact⟨_,[],hcs,⟨none,0,rfl,.inl rfl⟩,by simp[AA]⟩
   ·simp at hcs;simp only[if_true] at hz;refine⟨_,zs.take len',hcs,?_,by simp[AA];exact⟨by omega,fun c hc=>by have:=xG(hwz c(List.mem_of_mem_take hc));omega⟩⟩;obtain⟨b,off,spot⟩:=a;refine⟨some⟨b,off,spot⟩,cap',by simp;omega,?_⟩;by_cases h0:len'=0
    ·exact .inl(by simp[h0])
    ·refine .inr ?_;have hspot:spot=none:=by simpa [Addr.add] using World.cell?_spot(hcell 0(by omega))
     subst hspot;have hbW:b<W.heap.size:=hp1(.cell b off)(by
      rw[hx];exact MemPlace.mem_row.2⟨0,by omega,by simp⟩)
     refine⟨b,off,rfl,trivial,hbW,fun j x hj=>?_⟩;rw[List.getElem?_take] at hj;split at hj
     ·rename_i hjl
      have h3:=hcell j(by omega);rw[iP,List.getD_eq_getElem?_getD,hj] at h3;exact h3
     ·cases hj
  refine⟨e,ao,cap,cv,cells,?_,S,R,IN,RI⟩;subst hcv;have hcs':v.cells=#[.int .i64 e.k,.int .i64 e.n,stv e.nm,.slice ao e.kids.len cap,u4]:=by
   apply Array.toList_inj.1;rw[<-hcs];simp at hc4;obtain⟨rfl,rfl,rfl,rfl⟩:=hc4;rfl
  cases v with
  | agg cs=>rw[show(Value.agg cs).cells=cs from rfl] at hcs';rw[hcs'];rfl
  | _=>have h5:=congrArg Array.size hcs';simp[Value.cells] at h5
end Go.Proofs.YtbjdkekhnajafaaGreatDoor
namespace Go.Proofs.YtbjdkekhnajafaaGreatDoor.emitPlans
open Go.ChangeShapes Go.WideShapes Go.ChangeAt Go.RowKit
open Go.ChangeMaps(open_string shut_string)
set_option linter.unusedVariables false
theorem contract (H:Type)(enc:TypeId × Value->H)(W:World)(base:Nat)(args:Array Value)(ds gs:List (DataW H))(before:List MemPlace)
  (hval:∀ (j:Nat) t v,Tryz.f4.params[j]?=some t->args[j]?=some v->Value.okWide Tryz.prog W .any base t v)
  (hW:DataW.Whole enc Tryz.prog Tryz.f4.params.toList Rows.emitPlansSpec.vars false W args.toList ds gs before)
  (hsz:(DataW.weightsEach Tryz.prog(Tryz.f4.params.toList++(OpenSpec.ofChange Rows.emitPlansSpec).bare.plain.varTypes Tryz.prog)(ds++gs)).all(·<=reachBytes)=true)(hL:laidMetH Tryz.prog Rows.emitPlansRow.laid W) :
  Calls Tryz.prog 4 args W fun e W'=>∃v,e=.returned v/\Rows.emitPlansSpec.post enc Tryz.prog Tryz.f4 false true false false W args v W':=by
 have hW':=hW;obtain⟨p,q,hA0,hV,rfl,hfz,hnd⟩:=hW;have hA:DataW.TrodAll enc Tryz.prog W 0(fun _=>true) true Tryz.f4.params.toList args.toList ds p:=hA0;rw[Tryz.params4] at hA hval hsz;obtain⟨v0,vs0,d0,ds0,p0,q0,hargs,rfl,rfl,h0,r0⟩:=trodAll_cons hA;obtain⟨rfl,rfl,rfl⟩:=trodAll_nil r0;obtain rfl:args=#[v0]:=by cases args;simp_all
 obtain⟨rfl,rfl⟩:=trodVars_none hV;clear hA0;simp only[List.append_nil] at hW';have hlt0:∀ x ∈ p0,x.block<W.heap.size:=fun x hx=>by simpa using hW'.lt x(by simp[hx])
 obtain⟨e0,ao0,cap0,cv0,cells0,rfl,SX0,RX0,IC0,RI0⟩:=uZ h0 hlt0;refine(mt e0 ao0 cap0 cv0 cells0   W RX0.1.2.2.2.2.2(Fs.raw_wide RX0.2)(fun h=>⟨⟨(Ex.raw_fit RX0 h).nm,(Ex.raw_fit RX0 h).len,(Ex.raw_fit RX0 h).sh⟩,⟨(Ex.raw_fit RX0 h).n1,(Ex.raw_fit RX0 h).n2⟩,(Ex.raw_fit RX0 h).rng⟩) SX0 IC0 RI0.1  (si hL.tail)(mQ hL)).mono fun e W'⟨he,hnx⟩=>?_;subst he;exact⟨_,rfl,_,_,_,[],(p0++[]),[],hW',trodAll_cons_mk(shut_bool Tryz.underlying4 _) trodAll_mk0,(trodAll_cons_mk(Below.trod Ap(by kernel_rfl)(of_decide_eq_true(by kernel_rfl)) h0 hnx hlt0) trodAll_mk0),rfl,hnx.frame _,fun h=>by cases h⟩
theorem laid_met (os:Os):laidMet Tryz.prog Rows.emitPlansRow.laid ((iI Tryz.prog os).forCall (fun _ _=>0) ⟨#[],#[.agg #[.int .i64 0,.int .i64 0,.string ByteArray.empty,.slice none 0 0,.slice none 0 0]],[]⟩).memory :=
 laidMet_of_run' 8(by kernel_rfl)(by kernel_rfl)
theorem reads (os:Os){H:Type}(enc:TypeId × Value->H):∃places,DataW.whole enc Tryz.prog ((iI Tryz.prog os).forCall (fun _ _=>0) ⟨#[],#[.agg #[.int .i64 0,.int .i64 0,.string ByteArray.empty,.slice none 0 0,.slice none 0 0]],[]⟩).memory Tryz.f4.params.toList Rows.emitPlansSpec.vars false (#[.agg #[.int .i64 0,.int .i64 0,.string ByteArray.empty,.slice none 0 0,.slice none 0 0]]:Array Value).toList 8=some ([.agg [.agg [.lit (.int .i64 0),.lit (.int .i64 0),.lit (.string []),.nil],.nil]],[],places) :=
 ⟨[],by kernel_rfl⟩
theorem lifted (os:Os)(started:os.Started)(H:Type)(enc:TypeId × Value->H)(F:Stop.Interp) :
  ReturnsInHanded {} Tryz.checked os 4 .any((OpenSpec.ofChange Rows.emitPlansSpec).preRow enc Tryz.prog Tryz.f4 Rows.emitPlansRow.domain false Rows.emitPlansRow.laid)(((OpenSpec.ofChange Rows.emitPlansSpec).at F).post enc Tryz.prog Tryz.f4 false true false false):=by
 obtain⟨places,hx⟩:=reads os enc;refine returnsInHanded_of_row(C:=Tryz.checked)(s:=OpenSpec.ofChange Rows.emitPlansSpec) ownK started(by kernel_rfl) Tryz.func4
  (witness_row_at(enc:=enc)(C:=Tryz.checked) false(iI Tryz.prog os) #[.agg #[.int .i64 0,.int .i64 0,.string ByteArray.empty,.slice none 0 0,.slice none 0 0]] rfl(by kernel_rfl)(by kernel_rfl)(by kernel_rfl)
   (OpenSpec.preRow_of_cond 8 hx(by kernel_rfl)(fun k hk=>by cases hk)(by kernel_rfl)(laid_met os))) ?_
 intro W base args ds gs before hval hW _ _ hsz hL _ _;exact contract H enc W base args ds gs before hval hW hsz hL
theorem facts:joinedFacts Tryz.pinned.checked.prog 4 Tryz.f4 (OpenSpec.ofChange Rows.emitPlansSpec).bare Rows.emitPlansRow=true:=by
 unfold joinedFacts;simp only[Bool.and_eq_true]
 repeat' apply And.intro
 all_goals(as_aux_lemma=>kernel_rfl)
end Go.Proofs.YtbjdkekhnajafaaGreatDoor.emitPlans

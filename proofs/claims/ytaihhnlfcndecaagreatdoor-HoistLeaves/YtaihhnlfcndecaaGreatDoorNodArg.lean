import Derived.Test.YtaihhnlfcndecaaGreatDoorRowK12
namespace Go.Proofs.YtaihhnlfcndecaaGreatDoor
open Go.ChangeShapes Go.WideShapes Go.ChangeAt Go.RowKit
set_option linter.unusedVariables false
def rawP (n:Int) (nm:List UInt8) (a:Int) (len:Nat):Prop:=-9223372036854775808≤n∧n≤9223372036854775807∧nm.length≤maxLen∧-9223372036854775808≤a∧a≤9223372036854775807∧len≤maxLen
def Fs.raw:Fs→Prop
 | ⟨none⟩=>True
 | ⟨some ⟨_,n,nm,a,ks,r⟩⟩=>rawP n nm a ks.len∧ks.raw∧r.raw
def Ex.raw (e:Ex):Prop:=rawP e.n e.nm e.a e.kids.len∧e.kids.raw
theorem Fs.raw_wide:∀ {f:Fs},f.raw→f.wide
 | ⟨none⟩,h=>trivial
 | ⟨some ⟨k,n,nm,a,ks,r⟩⟩,h=>⟨h.1.2.2.2.2.2,Fs.raw_wide (f:=ks) h.2.1,Fs.raw_wide (f:=r) h.2.2⟩
theorem Fs.len_size':∀ (x:Fs),x.len≤x.size
 | ⟨none⟩=>Nat.le_refl _
 | ⟨some ⟨k,n,nm,a,ks,r⟩⟩=>by have:=Fs.len_size' r;show r.len+1≤ks.size+r.size+1;omega
theorem Fs.raw_fit:∀ {f:Fs},f.raw→f.size≤100000000→f.short∧f.rng
 | ⟨none⟩,h,hs=>⟨trivial,trivial⟩
 | ⟨some ⟨k,n,nm,a,ks,r⟩⟩,h,hs=>by
  have hs:ks.size+r.size+1≤100000000:=hs
  have h1:=Fs.raw_fit (f:=ks) h.2.1 (by omega)
  have h2:=Fs.raw_fit (f:=r) h.2.2 (by omega)
  have:=Fs.len_size' ks
  exact ⟨⟨h.1.2.2.1,by omega,h1.1,h2.1⟩,⟨h.1.1,h.1.2.1,h1.2,h2.2⟩⟩
theorem Ex.raw_fit {e:Ex} (h:e.raw) (hs:e.kids.size≤100000000):e.fit:=by
 obtain ⟨h1,h2⟩:=Fs.raw_fit h.2 hs
 have:=Fs.len_size' e.kids
 exact ⟨h.1.2.2.1,h1,by omega,h.1.1,h.1.2.1,h2⟩
theorem add_plain' (b off j:Nat):(⟨b,off,none⟩:Addr).add j=⟨b,off+j,none⟩:=by
 unfold Addr.add
 split
 ·subst j;simp_all
 ·rfl
theorem cellsNd:Tryz.prog.cellsOf 34=4:=by kernel_rfl
theorem cellsNs:Tryz.prog.cellsOf 32=1:=by kernel_rfl
theorem cellsIs:Tryz.prog.cellsOf 35=1:=by kernel_rfl
theorem cellsPl:Tryz.prog.cellsOf 37=5:=by kernel_rfl
set_option maxRecDepth 100000 in
theorem open_node {H:Type} {enc:TypeId × Value→H} {W:World} {sp:Nat→Bool} {held:Bool}:∀ (fuel:Nat) (cs:List Value) (x:DataW H × List MemPlace),DataW.trod enc Tryz.prog W 0 sp held fuel 34 cs=some x→(∀ q ∈ x.2,q.block < W.heap.size) →
  ∃ (e:Ex) (ao:Option Addr) (cap:Nat),cs=[.int .i64 e.k,.int .i64 e.n,stv e.nm,.slice ao e.kids.len cap]∧SnA W e.kids ao∧e.raw:=by
 intro fuel
 induction fuel using Nat.strongRecOn with
 | _ fuel IH =>
 intro cs x h hlt
 obtain ⟨xs,k,hk,hxy,hl,hxl,hff⟩:=DataW.trod_struct Tryz.underlying34 h
 rw [cellsNd] at hl
 match xs,hxl,cs,hl with
 | [y0,y1,y2,y3],_,[u0,u1,u2,u3],_ =>
  have g0:=hff 0 _ rfl
  have g1:=hff 1 _ rfl
  have g2:=hff 2 _ rfl
  have g3:=hff 3 _ rfl
  simp [cellsInt,cellsStr,cellsNs] at g0 g1 g2 g3
  obtain ⟨z0,e0,x0,w0⟩:=DataW.trod_int Tryz.underlying3 g0
  obtain ⟨z1,e1,x1,w1⟩:=DataW.trod_int Tryz.underlying3 g1
  obtain ⟨z2,e2,x2,w2⟩:=DataW.trod_string Tryz.underlying9 g2
  simp at e0 e1 e2
  have b1:=bd_i64 w1
  have hz2:(z2.data.toList).length≤maxLen:=by rw [data_len];exact w2
  have hlt3:∀ q ∈ y3.2,q.block < W.heap.size:=fun q hq=>hlt q (by rw [hxy];simp [hq])
  rcases DataW.trod_slice Tryz.underlying32 g3 with ⟨hs,_⟩ | ⟨a,len,cap,elems,rest,n,hn,hs,hx3,_,hlc,hcm,hel,hE,_,_⟩
  ·simp at hs
   refine ⟨⟨z0,z1,z2.data.toList,0,.nil⟩,none,0,?_,.inl rfl,⟨b1.1,b1.2,hz2,by show -9223372036854775808≤(0:Int);decide,by show (0:Int)≤9223372036854775807;decide,by show 0≤_;omega⟩,trivial⟩
   rw [e0,e1,e2,hs,str_lit rfl]
   rfl
  ·simp at hs
   obtain ⟨b,off,spot⟩:=a
   have each:∀ i,i < len→∃ (e:Ex) (ak:Option Addr) (ck:Nat),spot=none∧b < W.heap.size∧(∀ j u,([.int .i64 e.k,.int .i64 e.n,stv e.nm,.slice ak e.kids.len ck]:List Value)[j]?=some u→W.cell? ⟨b,off+i * 4+j,none⟩=some u)∧SnA W e.kids ak∧e.raw:=by
    intro i hi
    have hEi:=hE i hi
    rw [List.getElem?_eq_getElem (by omega),cellsNd] at hEi
    obtain ⟨cs',h1,h2⟩:=Option.bind_eq_some_iff.1 hEi
    obtain ⟨_,hlen,hcell⟩:=World.cells?_some h1
    have hsub:∀ q ∈ (elems[i]'(by omega)).2,q.block < W.heap.size:=fun q hq=>hlt3 q (by
     rw [hx3]
     simp only [List.mem_append,List.mem_flatMap]
     exact .inr ⟨_,.inl (List.getElem_mem _),hq⟩)
    obtain ⟨e,ak,ck,hcs,SK,hr⟩:=IH n (by omega) cs' _ h2 hsub
    have hspot:spot=none:=by
     have hE0:=hE 0 (by omega)
     rw [List.getElem?_eq_getElem (by omega),cellsNd] at hE0
     obtain ⟨cs0,k1,k2⟩:=Option.bind_eq_some_iff.1 hE0
     obtain ⟨_,klen,kcell⟩:=World.cells?_some k1
     have k3:=kcell 0 (by omega)
     rw [List.getElem?_eq_getElem (by omega)] at k3
     simpa [Addr.add] using World.cell?_spot k3
    subst hspot
    have hbl:b < W.heap.size:=hlt3 (.cell b off) (by
     rw [hx3]
     exact List.mem_append_left _ (MemPlace.mem_row.2 ⟨0,by rw [cellsNd];omega,by simp⟩))
    refine ⟨e,ak,ck,rfl,hbl,fun j u hu=>?_,SK,hr⟩
    rw [←hcs] at hu
    have hj:j < 4:=by
     by_cases hj:j < 4
     ·exact hj
     ·rw [List.getElem?_eq_none (by omega)] at hu
      cases hu
    have:=hcell j hj
    rw [add_plain',add_plain',hu] at this
    exact this
   have build:∀ m,m≤len→∃ f:Fs,f.len=m∧f.raw∧(m=0∨spot=none∧b < W.heap.size)∧∃ zs,(∀ j u,zs[j]?=some u→W.cell? ⟨b,off+(len - m) * 4+j,none⟩=some u)∧FcN W (fun _=>True) f zs:=by
    intro m
    induction m with
    | zero=>intro _;exact ⟨.nil,rfl,trivial,.inl rfl,[],fun j u hu=>by simp at hu,rfl⟩
    | succ m ih =>
     intro hm
     obtain ⟨f,f1,f2,_,zs,f3,f4⟩:=ih (by omega)
     obtain ⟨e,ak,ck,s1,s2,s3,s4,s5⟩:=each (len - (m+1)) (by omega)
     refine ⟨.cons e.k e.n e.nm e.a e.kids f,by show f.len+1=_;rw [f1],⟨s5.1,s5.2,f2⟩,.inr ⟨s1,s2⟩,.int .i64 e.k :: .int .i64 e.n :: stv e.nm :: .slice ak e.kids.len ck :: zs,fun j u hu=>?_,ak,ck,zs,rfl,s4,f4⟩
     by_cases hj:j < 4
     ·refine s3 j u ?_
      rw [←hu]
      match j,hj with
      | 0,_=>rfl
      | 1,_=>rfl
      | 2,_=>rfl
      | 3,_=>rfl
     ·obtain ⟨i,rfl⟩:∃ i,j=i+4:=⟨j - 4,by omega⟩
      have:=f3 i u (by simpa using hu)
      rw [show off+(len - (m+1)) * 4+(i+4)=off+(len - m) * 4+i by
       have:len - m=len - (m+1)+1:=by omega
       rw [this]
       omega]
      exact this
   obtain ⟨f,f1,f2,f5,zs,f3,f4⟩:=build len (Nat.le_refl _)
   have hcm':len≤maxLen:=Nat.le_trans hlc hcm
   refine ⟨⟨z0,z1,z2.data.toList,0,f⟩,some ⟨b,off,spot⟩,cap,?_,?_,⟨b1.1,b1.2,hz2,by show -9223372036854775808≤(0:Int);decide,by show (0:Int)≤9223372036854775807;decide,by show f.len≤_;rw [f1];exact hcm'⟩,f2⟩
   ·show _=[Value.int .i64 z0,.int .i64 z1,stv z2.data.toList,.slice (some ⟨b,off,spot⟩) f.len cap]
    rw [e0,e1,e2,hs,str_lit rfl,f1]
   ·rcases f5 with h0 | ⟨rfl,hb⟩
    ·refine .inl ?_
     rw [h0] at f1
     cases f using Fs.on with
     | nil=>rfl
     | cons k n nm a ks r=>cases f1
    ·refine .inr ⟨b,off,zs,rfl,trivial,hb,fun j u hu=>?_,f4⟩
     have:=f3 j u hu
     rw [Nat.sub_self,Nat.zero_mul,Nat.add_zero] at this
     exact this
def rawI (cells:List Int):Prop:=cells.length≤maxLen∧∀ c,c ∈ cells→-9223372036854775808≤c∧c≤9223372036854775807
set_option maxRecDepth 100000 in
theorem open_plan {H:Type} {enc:TypeId × Value→H} {W:World} {v:Value} {d:DataW H} {ps:List MemPlace} (h:DataW.Trod enc Tryz.prog W 0 (fun _=>true) true 37 v d ps) (hlt:∀ q ∈ ps,q.block < W.heap.size) :
  ∃ (e:Ex) (ao:Option Addr) (cap:Nat) (cv:Value) (cells:List Int),v=plV e ao cap cv∧SnA W e.kids ao∧e.raw∧InA W cv cells∧rawI cells:=by
 obtain ⟨fuel,hf⟩:=h
 obtain ⟨xs,k,hk,hxy,hl,hxl,hff⟩:=DataW.trod_struct Tryz.underlying37 hf
 rw [cellsPl] at hl
 obtain ⟨cs,hcs⟩:∃ cs,cs=v.cells.toList:=⟨_,rfl⟩
 rw [←hcs] at hl hff
 match xs,hxl,cs,hl with
 | [y0,y1],_,[u0,u1,u2,u3,u4],_ =>
  have g0:=hff 0 _ rfl
  have g1:=hff 1 _ rfl
  simp [cellsNd,cellsIs] at g0 g1
  have hp0:∀ q ∈ y0.2,q.block < W.heap.size:=fun q hq=>hlt q (by
   have h2:ps=[y0,y1].flatMap (·.2):=congrArg Prod.snd hxy
   rw [h2]
   simp [hq])
  have hp1:∀ q ∈ y1.2,q.block < W.heap.size:=fun q hq=>hlt q (by
   have h2:ps=[y0,y1].flatMap (·.2):=congrArg Prod.snd hxy
   rw [h2]
   simp [hq])
  obtain ⟨e,ao,cap,hc4,S,R⟩:=open_node _ _ _ g0 hp0
  obtain ⟨cv,cells,hcv,IN,RI⟩:∃ (cv:Value) (cells:List Int),u4=cv∧InA W cv cells∧rawI cells:=by
   rcases open_ints Tryz.underlying35 Tryz.underlying3 cellsInt g1 with ⟨hcs,hx⟩ | ⟨a,len',cap',zs,hcs,_,hl,hm,hz,hx,hcell,hwz⟩
   ·simp at hcs
    exact ⟨_,[],hcs,⟨none,0,rfl,.inl rfl⟩,by simp [rawI]⟩
   ·simp at hcs
    simp only [if_true] at hz
    refine ⟨_,zs.take len',hcs,?_,by simp [rawI];exact ⟨by omega,fun c hc=>by have:=bd_i64 (hwz c (List.mem_of_mem_take hc));omega⟩⟩
    obtain ⟨b,off,spot⟩:=a
    refine ⟨some ⟨b,off,spot⟩,cap',by simp;omega,?_⟩
    by_cases h0:len'=0
    ·exact .inl (by simp [h0])
    ·refine .inr ?_
     have hspot:spot=none:=by simpa [Addr.add] using World.cell?_spot (hcell 0 (by omega))
     subst hspot
     have hbW:b < W.heap.size:=hp1 (.cell b off) (by
      rw [hx]
      exact MemPlace.mem_row.2 ⟨0,by omega,by simp⟩)
     refine ⟨b,off,rfl,trivial,hbW,fun j x hj=>?_⟩
     rw [List.getElem?_take] at hj
     split at hj
     ·rename_i hjl
      have h3:=hcell j (by omega)
      rw [add_plain',List.getD_eq_getElem?_getD,hj] at h3
      exact h3
     ·cases hj
  refine ⟨e,ao,cap,cv,cells,?_,S,R,IN,RI⟩
  subst hcv
  have hcs':v.cells=#[.int .i64 e.k,.int .i64 e.n,stv e.nm,.slice ao e.kids.len cap,u4]:=by
   apply Array.toList_inj.1
   rw [←hcs]
   simp at hc4
   obtain ⟨rfl,rfl,rfl,rfl⟩:=hc4
   rfl
  cases v with
  | agg cs=>rw [show (Value.agg cs).cells=cs from rfl] at hcs';rw [hcs'];rfl
  | _=>have h5:=congrArg Array.size hcs';simp [Value.cells] at h5
end Go.Proofs.YtaihhnlfcndecaaGreatDoor

import Derived.Test.YtaihhnlfcndecaaGreatDoorNovB
set_option maxRecDepth 100000
set_option maxHeartbeats 8000000
namespace Go.Proofs.YtaihhnlfcndecaaGreatDoor
open Go.ChangeShapes Go.WideShapes Go.ChangeAt Go.RowKit
set_option linter.unusedVariables false
set_option linter.unusedSimpArgs false
def PostOn (n0 m:Nat)(w:World)(e:Ending)(w':World):Prop:=e=.returned (.tuple #[])/\OvN n0 m w.heap.size w w'
def OverNOk (N:Nat):Prop:=∀ (x y:Int) (st:ByteArray) (ks:Fs) (ao:Option Addr) (cap n0 m:Nat) (w:World),ks.size<N->ks.len<=1000000000->ks.short->m<=w.heap.size->SwN n0 m w ks ao cap ->
 Calls Tryz.prog 45 #[.agg #[.int .i64 x,.int .i64 y,.string st,.slice ao ks.len cap]] w (PostOn n0 m w)
theorem overn_step {N:Nat}(IH:OverNOk N):OverNOk (N+1):=by
 intro x y st ks ao cap n0 m w hN hlen hsh hm S;obtain⟨ii,hii,hzi0,hzi1,hzi2⟩:=info_parts infoNode;have B0:Below w.heap.size w (w.alloc (.cells #[.int .i64 x,.int .i64 y,.string st,.slice ao ks.len cap] 34)):=(Below.refl _ w).alloc (Nat.le_refl _) _;have E0:(w.alloc (.cells #[.int .i64 x,.int .i64 y,.string st,.slice ao ks.len cap] 34)).heap[w.heap.size]?=some (.cells #[.int .i64 x,.int .i64 y,.string st,.slice ao ks.len cap] 34):=heap_alloc_new w _;have O0:OvN n0 m w.heap.size w (w.alloc (.cells #[.int .i64 x,.int .i64 y,.string st,.slice ao ks.len cap] 34)):=OvN.ofBelow B0 hm;have HS:Hid (SwN n0 m w ks ao cap):=S;go_enter Tryz.func45,Tryz.ntmps45;go_upto_region 1 with fail;generalize w.alloc (.cells #[.int .i64 x,.int .i64 y,.string st,.slice ao ks.len cap] 34)=w0 at *;obtain⟨bx,hbx⟩:∃bx,bx=w.heap.size:=⟨_,rfl⟩
 unfold PostOn;rw[<-hbx] at E0 O0 hm ⊢;have HB:Hid (bx=w.heap.size):=hbx;clear hbx B0 S;go_wp2;go_loopw [2] (fun v wr=>∃(d r:Fs),Hid (ks=d.app r)/\v=.int .i64 (d.len:Nat)/\wr.heap[bx]?=some (.cells #[.int .i64 x,.int .i64 y,.string st,.slice ao ks.len cap] 34)/\OvN n0 m bx w wr) (fun v _=>ks.len-(intOf v).toNat)
 case atStart=>exact⟨.nil,ks,rfl,by show _=Value.int .i64 ((0:Nat):Int);rfl,E0,O0⟩
 case round =>
  clear E0 O0;obtain⟨d,r,hf,rfl,E1,O1⟩:=hrel;have hlk:ks.len=d.len+r.len:=by rw[hf.out,Fs.len_app]
  obtain⟨p0,p1,p2,p3,pf⟩:=box4 E1;have hbr:bx<wr.heap.size:=lt_of_block E1;have S1:=HS.out.ov O1;cases r using Fs.on with
  | nil =>
   have hl0:¬(d.len:Int)<(ks.len:Int):=by simp only[Fs.len] at hlk;omega
   have b2:Below wr.heap.size wr (wr.alloc (.cells #[.int .i64 (-2),.int .i64 0,.string ⟨#[]⟩,.slice none 0 0] 34)):=(Below.refl _ wr).alloc (Nat.le_refl _) _;have S2:SwN n0 m (wr.alloc (.cells #[.int .i64 (-2),.int .i64 0,.string ⟨#[]⟩,.slice none 0 0] 34)) ks ao cap:=S1.ov (OvN.ofBelow b2 (by omega) (s:=wr.heap.size));have hv:(ks.len=0/\ao=none/\cap=0)\/∃b cur,ao=some ⟨b,0,none⟩/\ks.len<=cap/\(wr.alloc (.cells #[.int .i64 (-2),.int .i64 0,.string ⟨#[]⟩,.slice none 0 0] 34)).heap[b]?=some (.cells cur 34 (0,0))/\cur.size=cap*4:=by
    rcases S2 with h|⟨b,cur,h1,-,-,h4,h5,h6,-⟩
    ·exact .inl ⟨by rw[h.1];rfl,h.2⟩
    ·exact .inr ⟨b,cur,h1,h4,h5,h6⟩
   have hrng:∀ (b:Nat) (cur:Array Value),ao=some ⟨b,0,none⟩->n0<=b/\b<m:=by
    intro b cur hb;rcases S2 with h|⟨b',cur',h1,h2,h3,-⟩
    ·rw[h.2.1] at hb;cases hb
    ·rw[h1] at hb;injection hb with hb
     injection hb with hb
     subst hb;exact⟨h2,h3⟩
   have OA:OvN n0 m bx w (wr.alloc (.cells #[.int .i64 (-2),.int .i64 0,.string ⟨#[]⟩,.slice none 0 0] 34)):=O1.trans (OvN.ofBelow (b2.mono (Nat.le_of_lt hbr)) hm);have hone:∀ u ∈ [Value.int .i64 (-2),.int .i64 0,.string ⟨#[]⟩,.slice none 0 0],u.oneCell'=true:=by intro u hu;simp at hu;rcases hu with rfl|rfl|rfl|rfl<;>rfl
   have b3:ks.len+1<=maxLen:=by unfold maxLen;omega
   have b4:(ks.len+1)*56<=140737488355328:=by omega
   clear hf hlk S1 S2 O1;go_wp2_with (first|(at_builtin;refine wpList_append_on rfl (.tmp 23) (.tmp 25) 32 rfl 34 ii _ 56 Tryz.underlying32 hii hzi0 hzi1 hzi2 rfl ao ks.len cap rfl hv ⟨wr.heap.size,0,none⟩ [.int .i64 (-2),.int .i64 0,.string ⟨#[]⟩,.slice none 0 0] rfl rfl (new_cells_at wr _ _) hone b3 b4 ?_)|go_in);intro g cap2 w3 cur3 R3;have k3:w3.heap[g]?=some (.cells cur3 34 (0,0)):=R3.1;have c4:w3.cell? ⟨g,ks.len*4+1,none⟩=some (.int .i64 0):=(cell_of_row _ g _ _ _ (0,0) k3).trans (R3.2.1 1 _ rfl);have f4:w3.frozen? ⟨g,ks.len*4+1,none⟩=false:=frozen_of_row w3 g _ _ _ k3;have HZ:Hid (OvN n0 m bx w (w3.setCell ⟨g,ks.len*4+1,none⟩ (.int .i64 1))):=by
    refine OA.trans ?_;rcases R3.2.2 with ⟨cur,ha,hcb,hw3,hcs,hsame⟩|⟨hg,hb⟩
    ·obtain⟨hg0,hg1⟩:=hrng g cur ha;have h5:∀ (t:Nat) (u:Value),[Value.int .i64 (-2),.int .i64 0,.string ⟨#[]⟩,.slice none 0 0][t]?=some u->cur3[ks.len*4+t]?=some u:=R3.2.1;have hsz4:ks.len*4+1<cur3.size:=(Array.getElem?_eq_some_iff.1 (h5 1 _ rfl)).1;refine OvN.row hg0 hg1 hcb _ (cur3.setIfInBounds (ks.len*4+1) (.int .i64 1)) ?_ ?_ ?_ ?_ (fun k hk=>?_) (heap_setCell_same w3 g _ _ _ _ k3) (by simpa using hcs) (fun j=>?_)
     ·rw[hw3];rfl
     ·rw[hw3];rfl
     ·rw[hw3];rfl
     ·rw[hw3];simp
     ·rw[heap_setCell_other w3 ⟨g,ks.len*4+1,none⟩ k _ hk,hw3,setRow_other _ g k _ hk]
     ·by_cases hj:j=ks.len
      ·subst hj;refine .inr ⟨-2,1,⟨#[]⟩,?_,?_,?_,?_⟩
       ·rw[Array.getElem?_setIfInBounds_ne (by omega)];exact h5 0 _ rfl
       ·rw[Array.getElem?_setIfInBounds_self_of_lt hsz4]
       ·rw[Array.getElem?_setIfInBounds_ne (by omega)];exact h5 2 _ rfl
       ·rw[Array.getElem?_setIfInBounds_ne (by omega)];exact h5 3 _ rfl
      ·exact .inl fun t ht=>by
        rw[Array.getElem?_setIfInBounds_ne (by omega)];exact hsame _ (by omega)
    ·have hbw:bx<=(wr.alloc (.cells #[.int .i64 (-2),.int .i64 0,.string ⟨#[]⟩,.slice none 0 0] 34)).heap.size:=by simp;omega
     exact OvN.ofBelow ((hb.setCell (p:=⟨g,ks.len*4+1,none⟩) (by rw[hg];exact Nat.le_refl _) (.int .i64 1)).mono hbw) hm
   clear R3 k3 OA hv hrng hone;go_wp2
   go_end0
   exact⟨rfl,by rw[<-HB.out];exact HZ.out⟩
  | cons kk kn km ka kks kr =>
   have hl0:(d.len:Int)<(ks.len:Int):=by simp only[Fs.len] at hlk;omega
   have hl1:d.len<ks.len:=by simp only[Fs.len] at hlk;omega
   have hsz:ks.size=d.size+(kks.size+kr.size+1):=by rw[hf.out,Fs.size_app];rfl
   have hsk:(Fs.cons kk kn km ka kks kr).short:=Fs.app_short (by rw[<-hf.out];exact hsh);obtain⟨b,cur,rfl,hb0,hb1,hlc,hcb,hcs,G1⟩:∃b cur,ao=some ⟨b,0,none⟩/\n0<=b/\b<m/\ks.len<=cap/\wr.heap[b]?=some (.cells cur 34 (0,0))/\cur.size=cap*4/\GwN n0 m wr ks cur 0:=by
    rcases S1 with h|h
    ·have h2:=h.1;rw[h2] at hl1;exact absurd hl1 (Nat.not_lt_zero _)
    ·exact h
   have G2:GwN n0 m wr (Fs.cons kk kn km ka kks kr) cur (0+d.len):=GwN.at (d:=d) (by rw[<-hf.out];exact G1);rw[Nat.zero_add] at G2;obtain⟨x',y',s',ks',ao',cap',hks,hks1,hks2,g0,g1,g2,g3,SK⟩:∃(x' y':Int) (s':ByteArray) (ks':Fs) (ao':Option Addr) (cap':Nat),ks'.size<N/\ks'.len<=1000000000/\ks'.short/\cur[d.len*4]?=some (.int .i64 x')/\cur[d.len*4+1]?=some (.int .i64 y')/\cur[d.len*4+2]?=some (.string s')/\cur[d.len*4+3]?=some (.slice ao' ks'.len cap')/\SwN n0 m wr ks' ao' cap':=by
    rcases G2.1 with ⟨x',y',s',g0,g1,g2,g3⟩|⟨ao',cap',⟨g0,g1,g2,g3⟩,hs⟩
    ·exact⟨x',y',s',.nil,none,0,by show 0<N;omega,by show 0<=_;omega,trivial,g0,g1,g2,g3,.inl ⟨rfl,rfl,rfl⟩⟩
    ·exact⟨kk,kn,⟨km.toArray⟩,kks,ao',cap',by omega,hsk.2.1,hsk.2.2.1,g0,g1,g2,g3,hs⟩
   have e0:=(cell_of_row _ b (d.len*4) _ _ (0,0) hcb).trans g0;have e1:=(cell_of_row _ b (d.len*4+1) _ _ (0,0) hcb).trans g1;have e2:=(cell_of_row _ b (d.len*4+2) _ _ (0,0) hcb).trans g2;have e3:=(cell_of_row _ b (d.len*4+3) _ _ (0,0) hcb).trans g3;have c1:=IH x' y' s' ks' ao' cap' n0 m wr hks hks1 hks2 (by omega) SK;have hf2:Hid (ks=(d.snoc ⟨kk,kn,km,ka,kks⟩).app kr):=by show ks=_;rw[hf.out];unfold Fs.snoc;rw[Fs.app_assoc];rfl
   have hl2:(d.len:Int)+1=((d.snoc ⟨kk,kn,km,ka,kks⟩).len:Nat):=by rw[Fs.len_snoc];rfl
   clear hf hlk hsz hsk G1 G2 g0 g1 g2 g3 SK hks hks1 hks2;go_wp2_with fail;refine c1.mono ?_;rintro u w2 ⟨rfl,o2⟩;have E2:=(o2.blk bx hbr (.inr hm)).trans E1;have O2:OvN n0 m bx w w2:=O1.trans (o2.low (Nat.le_of_lt hbr));obtain⟨cur2,hcb2,hcs2,-⟩:=o2.lst b cur hb0 hb1 hcb;have hi5:d.len*4+4<=cur2.size:=by rw[hcs2,hcs];omega
   have O3:=O2.trans (OvN.set4 (s:=bx) (i:=d.len) (-1) (-1) ⟨#[111,118,101,114]⟩ hb0 hb1 hcb2 hi5);obtain⟨q0,q1,q2,q3,qf⟩:=box4 E2;have hfz:∀ j,w2.frozen? ⟨b,j,none⟩=false:=fun j=>frozen_of_row w2 b j _ _ hcb2;have hbne:bx≠b:=by omega
   have E3:((((w2.setCell ⟨b,d.len*4,none⟩ (.int .i64 (-1))).setCell ⟨b,d.len*4+1,none⟩ (.int .i64 (-1))).setCell ⟨b,d.len*4+2,none⟩ (.string ⟨#[111,118,101,114]⟩)).setCell ⟨b,d.len*4+3,none⟩ (.slice none 0 0)).heap[bx]?=some (.cells #[.int .i64 x,.int .i64 y,.string st,.slice (some ⟨b,0,none⟩) ks.len cap] 34 (0,0)) :=
    ((heap_setCell_other _ ⟨b,d.len*4+3,none⟩ bx _ hbne).trans ((heap_setCell_other _ ⟨b,d.len*4+2,none⟩ bx _ hbne).trans ((heap_setCell_other _ ⟨b,d.len*4+1,none⟩ bx _ hbne).trans (heap_setCell_other _ ⟨b,d.len*4,none⟩ bx _ hbne)))).trans E2
   have f0:∃u,w2.cell? ⟨b,d.len*4,none⟩=some u:=⟨_,(cell_of_row _ b (d.len*4) _ _ (0,0) hcb2).trans (Array.getElem?_eq_getElem (by omega))⟩
   have f1:∃u,w2.cell? ⟨b,d.len*4+1,none⟩=some u:=⟨_,(cell_of_row _ b (d.len*4+1) _ _ (0,0) hcb2).trans (Array.getElem?_eq_getElem (by omega))⟩
   have f2:∃u,w2.cell? ⟨b,d.len*4+2,none⟩=some u:=⟨_,(cell_of_row _ b (d.len*4+2) _ _ (0,0) hcb2).trans (Array.getElem?_eq_getElem (by omega))⟩
   have f3:∃u,w2.cell? ⟨b,d.len*4+3,none⟩=some u:=⟨_,(cell_of_row _ b (d.len*4+3) _ _ (0,0) hcb2).trans (Array.getElem?_eq_getElem (by omega))⟩
   obtain⟨u0,f0⟩:=f0;obtain⟨u1,f1⟩:=f1;obtain⟨u2,f2⟩:=f2;obtain⟨u3,f3⟩:=f3;have HZ:Hid (∃wz,wz=((((w2.setCell ⟨b,d.len*4,none⟩ (.int .i64 (-1))).setCell ⟨b,d.len*4+1,none⟩ (.int .i64 (-1))).setCell ⟨b,d.len*4+2,none⟩ (.string ⟨#[111,118,101,114]⟩)).setCell ⟨b,d.len*4+3,none⟩ (.slice none 0 0))/\OvN n0 m bx w wz/\wz.heap[bx]?=some (.cells #[.int .i64 x,.int .i64 y,.string st,.slice (some ⟨b,0,none⟩) ks.len cap] 34 (0,0))):=⟨_,rfl,O3,E3⟩
   clear c1 o2 O1 O2 O3 E1 E2 E3 e0 e1 e2 e3 p0 p1 p2 p3 pf hcb hcs hcb2 hcs2 hi5 hbne S1;go_wp2;obtain⟨wz,hwz,O4,E4⟩:=HZ.out;clear HZ;rw[<-hwz];exact⟨⟨_,kr,hf2,rfl,E4,O4⟩,by simp[intOf];omega⟩
theorem overn_ok:∀ N,OverNOk N
 | 0=>fun x y st ks ao cap n0 m w h=>absurd h (Nat.not_lt_zero _)
 | N+1=>overn_step (overn_ok N)
theorem overplan_c (Y:Ex)(ay:Option Addr)(cy:Nat)(v:Value)(C2:List Int)(n0 g:Nat)(w:World)(hlen:Y.kids.len<=1000000000)(hsh:Y.kids.short)(hcl:C2.length<=1000000000)(hn:n0<=w.heap.size)(S:SlcN w (fun k=>n0<=k/\k≠g) Y.kids ay cy)(hown:w.ownsRow 0 3 1 v C2.length (C2.map (Value.int .i64)))(hk:∀ k,v.ownBlock=some k->k=g/\n0<=k) :
  Calls Tryz.prog 21 #[plV Y ay cy v] w fun x w'=>x=.returned (.tuple #[])/\Below n0 w w':=by
 obtain⟨ii,hii,hzi0,hzi1,hzi2⟩:=info_parts infoInt;obtain⟨o,ho⟩:∃o:Nat->Nat,o=fun k=>if v.ownBlock=some k then 5 else 0:=⟨_,rfl⟩
 have R:Row w o 5 3 1 v C2.length (C2.map (Value.int .i64)):=⟨hown,fun k hk=>by rw[ho];simp only;rw[if_pos hk]⟩
 have LO:Hid (∀ k,k<n0->o k=0):=fun k hkn=>by
  rw[ho];simp only;rw[if_neg];intro h
  have:=(hk k h).2
  omega
 obtain⟨av,cw,hv⟩:=R.form;have HT:Hid (∀ k,o k=5->k<w.heap.size->∃cur,w.heap[k]?=some (.cells cur 3 (0,0))):=fun k hk5 hkl=>by
  rw[ho] at hk5;simp only at hk5;split at hk5
  ·rename_i h1
   rcases hown.2 with ⟨h2,-⟩|⟨g',cap,cur,h2,hb,hgg,rest⟩
   ·rw[h2] at h1;simp[Value.ownBlock] at h1
   ·rw[h2] at h1;simp[Value.ownBlock] at h1;subst h1;exact⟨cur,hgg⟩
  ·cases hk5
 have HN:Hid (o w.heap.size≠5):=fun h=>by
  rw[ho] at h;simp only at h;split at h
  ·rename_i h1
   exact absurd (R.lt h1) (Nat.lt_irrefl _)
  ·cases h
 clear ho hown;subst hv;obtain⟨w0,hw0⟩:∃w0,w0=w.alloc (.cells #[.int .i64 Y.k,.int .i64 Y.n,stv Y.nm,.slice ay Y.kids.len cy,.slice av C2.length cw] 37):=⟨_,rfl⟩
 have B0:Below w.heap.size w w0:=by rw[hw0];exact(Below.refl _ w).alloc (Nat.le_refl _) _
 have E0:w0.heap[w.heap.size]?=some (.cells #[.int .i64 Y.k,.int .i64 Y.n,stv Y.nm,.slice ay Y.kids.len cy,.slice av C2.length cw] 37 (0,0)):=by rw[hw0];exact heap_alloc_new w _
 have S0:SwN n0 w.heap.size w0 Y.kids ay cy:=(SlcN.sw (S.mono (fun _ _ _=>rfl) (Nat.le_refl _) (fun k hp _=>hp.1))).ov (OvN.ofBelow B0 (Nat.le_refl _));have c1:=overn_ok (Y.kids.size+1) Y.k Y.n ⟨Y.nm.toArray⟩ Y.kids ay cy n0 w.heap.size w0 (by omega) hlen hsh B0.size S0;have c1:Calls Tryz.prog 45 #[.agg #[.int .i64 Y.k,.int .i64 Y.n,stv Y.nm,.slice ay Y.kids.len cy]] w0 (PostOn n0 w.heap.size w0):=c1;rw[plV_out];go_enter Tryz.func21,Tryz.ntmps21;go_upto_region 1 with fail;rw[<-hw0];clear hw0;obtain⟨p0,p1,p2,p3,p4,pf⟩:=box5 E0;go_wp2_with fail;refine c1.mono ?_;rintro x w1 ⟨rfl,o1⟩;have E1:w1.heap[w.heap.size]?=some (.cells #[.int .i64 Y.k,.int .i64 Y.n,stv Y.nm,.slice ay Y.kids.len cy,.slice av C2.length cw] 37 (0,0)):=(o1.blk _ (lt_of_block E0) (.inr (Nat.le_refl _))).trans E0;have s1:Step (fun k=>k≠5/\k≠0) w (fun k=>if o k=5 then 5 else if k<n0\/w.heap.size<=k then 0 else 1) w1 (fun k=>if o k=5 then 5 else if k<n0\/w.heap.size<=k then 0 else 1):=by
  refine⟨o1.os.trans B0.os,o1.tape.trans B0.tape,o1.output.trans B0.output,Nat.le_trans B0.size o1.size,fun _ _=>rfl,fun k hkl hnn=>?_⟩;by_cases h5:o k=5
  ·obtain⟨cur,hcur⟩:=HT.out k h5 hkl;have h0:=(B0.block k hkl).trans hcur;refine((o1.oth k _ (Nat.lt_of_lt_of_le hkl B0.size) h0 ?_)).trans hcur.symm;intro cur' he;injection he with he1 he2
   exact absurd he2 (by decide)
  ·by_cases h6:k<n0
   ·exact(o1.blk k (Nat.lt_of_lt_of_le hkl B0.size) (.inl h6)).trans (B0.block k hkl)
   ·exact absurd (by rw[if_neg h5,if_neg (by omega)];decide) hnn
 have R1:Row w1 (fun k=>if o k=5 then 5 else if k<n0\/w.heap.size<=k then 0 else 1) 5 3 1 (.slice av C2.length cw) C2.length (C2.map (Value.int .i64)) :=
  Row.step (w:=w) ⟨R.1,fun k hk=>by show (if o k=5 then 5 else if k<n0\/w.heap.size<=k then 0 else 1)=5;rw[if_pos (R.2 k hk)]⟩ s1 (by simp)
 have B1:Below n0 w w1:=⟨s1.os,s1.tape,s1.output,s1.size,fun k hkn=>s1.block k (by omega) (by show ¬((if o k=5 then 5 else if k<n0\/w.heap.size<=k then 0 else 1)≠5/\(if o k=5 then 5 else if k<n0\/w.heap.size<=k then 0 else 1)≠0);rw[if_neg (by rw[LO.out k hkn];decide),if_pos (.inl hkn)];decide)⟩
 have hob:o w.heap.size≠5:=HN.out;have X1:Blk w1 (fun k=>if o k=5 then 5 else if k<n0\/w.heap.size<=k then 0 else 1) 0 w.heap.size (.cells #[.int .i64 Y.k,.int .i64 Y.n,stv Y.nm,.slice ay Y.kids.len cy,.slice av C2.length cw] 37):=⟨E1,by show (if o w.heap.size=5 then 5 else if w.heap.size<n0\/w.heap.size<=w.heap.size then 0 else 1)=0;rw[if_neg hob,if_pos (.inr (Nat.le_refl _))]⟩
 have L2:Hid (∀ k,k<n0->(fun k=>if o k=5 then 5 else if k<n0\/w.heap.size<=k then 0 else 1) k≠5):=fun k hkn=>by show (if o k=5 then 5 else if k<n0\/w.heap.size<=k then 0 else 1)≠5;rw[if_neg (by rw[LO.out k hkn];decide),if_pos (.inl hkn)];decide
 clear c1 o1 s1 E0 E1 B0 S0 S R HT LO HN hk hob p0 p1 p2 p3 p4 pf;generalize (fun k=>if o k=5 then 5 else if k<n0\/w.heap.size<=k then 0 else 1)=o2 at *;obtain⟨bx,hbx⟩:∃bx,bx=w.heap.size:=⟨_,rfl⟩
 rw[<-hbx] at X1 hn;try rw[<-hbx]
 have HB:Hid (bx=w.heap.size):=hbx;clear hbx;go_wp2;go_loopw [2] (fun vi wr=>∃(i:Nat) (xs:List Value),vi=.int .i64 (i:Nat)/\i<=C2.length/\Row wr o2 5 3 1 (.slice av C2.length cw) C2.length xs/\Blk wr o2 0 bx (.cells #[.int .i64 Y.k,.int .i64 Y.n,stv Y.nm,.slice ay Y.kids.len cy,.slice av C2.length cw] 37)/\Below n0 w wr) (fun vi _=>C2.length-(intOf vi).toNat)
 case atStart=>exact⟨0,_,by show _=Value.int .i64 ((0:Nat):Int);rfl,by omega,R1,X1,B1⟩
 case round =>
  clear R1 X1 B1;obtain⟨i,xs,rfl,hi,R1,X1,B1⟩:=hrel;obtain⟨p0,p1,p2,p3,p4,pf⟩:=box5 X1.1;have hxl:=R1.len;by_cases hlt:i<C2.length
  ·obtain⟨g',cap',hv,hg5,hc1,hc2,hgl,hc,hfz⟩:=R1.pos (by omega);injection hv with hv1 hv2 hv3
   subst hv1;subst hv3;have hltI:(i:Int)<(C2.length:Int):=by omega
   obtain⟨u0,hcell⟩:∃u0,wr.cell? ⟨g',i,none⟩=some u0:=⟨xs[i]'(by omega),by rw[hc i (by omega)];exact List.getElem?_eq_getElem _⟩
   have hfi:=hfz i;have s2:Step (fun k=>k=5) wr o2 (wr.setCell ⟨g',i,none⟩ (.int .i64 (-9))) o2:=setStep _ wr o2 ⟨g',i,none⟩ _ hg5;have R2:=R1.store i (.int .i64 (-9));have X2:=X1.step s2 (by decide);have B2:Below n0 w (wr.setCell ⟨g',i,none⟩ (.int .i64 (-9))):=below_stepB B1 s2 (fun k hk=>L2.out k hk) (by rw[<-HB.out];exact hn);clear hc hfz hxl R1 X1 B1 s2 hv2;go_wp2;go_roundw
   case rel=>(try ((repeat apply Exists.intro);refine⟨?_,rfl⟩));exact⟨i+1,_,by go_num,by omega,R2,X2,B2⟩
   case measure=>simp[intOf];omega
  ·have hltI:¬(i:Int)<(C2.length:Int):=by omega
   have s2:=boxStep (fun _=>False) wr o2 (.cells #[.int .i64 (-8)] 3);have R2:=R1.step s2 id;have hone:∀ u ∈ [Value.int .i64 (-8)],u.oneCell'=true:=by intro u hu;simp at hu;subst hu;rfl
   have q1:C2.length+1<=maxLen:=by unfold maxLen;omega
   have q2:(C2.length+1)*8<=140737488355328:=by omega
   have hwr:=X1.lt;have B2:Below n0 w (wr.alloc (.cells #[.int .i64 (-8)] 3)):=B1.alloc (by omega) _;have L3:Hid (∀ k,k<n0->newLab wr o2 0 k≠5):=fun k hk=>by rw[newLab_old (by omega)];exact L2.out k hk
   clear hxl s2 R1 B1;go_wp2_with (first|(at_builtin;refine wpList_append_lab rfl (.tmp 19) (.tmp 20) 35 rfl 3 ii (.int .i64 0) 1 8 Tryz.underlying35 hii hzi0 hzi1 hzi2 rfl (by decide) (newLab wr o2 0) 5 _ C2.length xs rfl R2 ⟨wr.heap.size,0,none⟩ 1 1 [.int .i64 (-8)] rfl rfl (new_one wr _ _) hone (by decide) q1 q2 ?_)|go_in);intro g9 c9 w9 o9 r9 s9;have B9:=below_stepB B2 s9 (fun k hk=>L3.out k hk) (by rw[<-HB.out];exact hn);have hg9:n0<=g9:=by
    rcases Nat.lt_or_ge g9 n0 with h|h
    ·have h1:o9 g9=5:=r9.2 g9 rfl;rw[s9.lab g9 (by simp;omega)] at h1;exact absurd h1 (L3.out g9 h)
    ·exact h
   have hxl9:=r9.len;obtain⟨g',cap',hv,-,hc1,hc2,hgl,hc,hfz⟩:=r9.pos (by omega);injection hv with hv1 hv2 hv3
   injection hv1 with hv1
   injection hv1 with hv1
   subst hv1;subst hv3;obtain⟨u0,hcell⟩:∃u0,w9.cell? ⟨g9,C2.length,none⟩=some u0:=⟨(xs++[Value.int .i64 (-8)])[C2.length]'(by omega),by rw[hc C2.length (by omega)];exact List.getElem?_eq_getElem _⟩
   have hfi:=hfz C2.length;have HZ:Hid (Below n0 w (w9.setCell ⟨g9,C2.length,none⟩ (.int .i64 1))):=B9.setCell hg9 _;have hwI:IntKind.i64.wrap (((C2.length+1:Nat):Int)-1)=(C2.length:Int):=by rw[IntKind.wrap_i64];omega
   clear hc hfz hxl9 r9 s9 B9 B2 R2 L3 hv2;go_wp2
   go_end0
   exact⟨rfl,HZ.out⟩
def fltP (k a b:Int):Int:=match rckP k a b with
 | some _=>0
 | none=>if (k=11\/k=12)/\b=0 then 4 else 1
def wrV (k a b:Int):Value:=.tuple #[.int .i64 ((rckP k a b).getD 0),.int .i64 (fltP k a b)]
theorem ov_wr {k a b x:Int}(h:rckP k a b=okI x)(hn:¬((k=11\/k=12)/\b=0)):wrV k a b=ovV x:=by
 unfold wrV fltP ovV;rw[h,if_neg hn];unfold okI;cases inI x<;>rfl
theorem tr_wr {k a b x:Int}(h:rckP k a b=some x):wrV k a b=.tuple #[.int .i64 x,.int .i64 0]:=by
 unfold wrV fltP;rw[h];rfl
theorem qu_wr (a b:Int):wrV 11 a b=quV a b:=by
 unfold quV;by_cases h:b=0
 ·rw[if_pos h];unfold wrV fltP;rw[show rckP 11 a b=none by simp[rckP,h],if_pos ⟨.inl rfl,h⟩];rfl
 ·rw[if_neg h];exact ov_wr (by simp[rckP,h]) (fun hh=>h hh.2)
theorem re_wr (a b:Int):wrV 12 a b=reV a b:=by
 unfold reV;by_cases h:b=0
 ·rw[if_pos h];unfold wrV fltP;rw[show rckP 12 a b=none by simp[rckP,h],if_pos ⟨.inr rfl,h⟩];rfl
 ·rw[if_neg h];exact tr_wr (by simp[rckP,h])
theorem qu_form (a b:Int):∃p q,quV a b=.tuple #[.int .i64 p,.int .i64 q]:=by unfold quV;split<;>exact⟨_,_,rfl⟩
theorem re_form (a b:Int):∃p q,reV a b=.tuple #[.int .i64 p,.int .i64 q]:=by unfold reV;split<;>exact⟨_,_,rfl⟩
theorem ov_form (a:Int):∃p q,ovV a=.tuple #[.int .i64 p,.int .i64 q]:=⟨_,_,rfl⟩
theorem worth6_c {a b:Int}(ha:In64 a)(hb:In64 b)(w:World):Calls Tryz.prog 162 #[.int .i64 6,.int .i64 a,.int .i64 b] w fun e w'=>e=.returned (wrV 6 a b)/\w'=w:=by
 have c:=minus_c (a:=0) (b:=a) ⟨by omega,by omega⟩ ha w;rw[show wrV 6 a b=ovV (0-a) from ov_wr (by simp[rckP]) (by omega)];obtain⟨p,q,hv⟩:=ov_form (0-a);rw[hv] at c ⊢;clear hv ha hb;go_enter Tryz.func162,Tryz.ntmps162;go_wp2_with fail;refine c.mono ?_;rintro u w2 ⟨rfl,rfl⟩;go_wp2;exact bodyPost_ret (v:=.tuple #[.int .i64 p,.int .i64 q]) (by simp[results,Tryz.results162,go_sem]) rfl ⟨rfl,rfl⟩
theorem worth7_c {a b:Int}(ha:In64 a)(hb:In64 b)(w:World):Calls Tryz.prog 162 #[.int .i64 7,.int .i64 a,.int .i64 b] w fun e w'=>e=.returned (wrV 7 a b)/\w'=w:=by
 have c:=truth_c (a==0) w;rw[show wrV 7 a b=.tuple #[.int .i64 (trI (a==0)),.int .i64 0] from tr_wr (by simp[rckP])];clear ha hb;go_enter Tryz.func162,Tryz.ntmps162;go_wp2_with fail;refine c.mono ?_;rintro u w2 ⟨rfl,rfl⟩;go_wp2;exact bodyPost_ret (v:=.tuple #[.int .i64 (trI (a==0)),.int .i64 0]) (by simp[results,Tryz.results162,go_sem]) rfl ⟨rfl,rfl⟩
theorem worth8_c {a b:Int}(ha:In64 a)(hb:In64 b)(w:World):Calls Tryz.prog 162 #[.int .i64 8,.int .i64 a,.int .i64 b] w fun e w'=>e=.returned (wrV 8 a b)/\w'=w:=by
 have c:=plus_c ha hb w;rw[show wrV 8 a b=ovV (a+b) from ov_wr (by simp[rckP]) (by omega)];obtain⟨p,q,hv⟩:=ov_form (a+b);rw[hv] at c ⊢;clear hv ha hb;go_enter Tryz.func162,Tryz.ntmps162;go_wp2_with fail;refine c.mono ?_;rintro u w2 ⟨rfl,rfl⟩;go_wp2;exact bodyPost_ret (v:=.tuple #[.int .i64 p,.int .i64 q]) (by simp[results,Tryz.results162,go_sem]) rfl ⟨rfl,rfl⟩
theorem worth9_c {a b:Int}(ha:In64 a)(hb:In64 b)(w:World):Calls Tryz.prog 162 #[.int .i64 9,.int .i64 a,.int .i64 b] w fun e w'=>e=.returned (wrV 9 a b)/\w'=w:=by
 have c:=minus_c ha hb w;rw[show wrV 9 a b=ovV (a-b) from ov_wr (by simp[rckP]) (by omega)];obtain⟨p,q,hv⟩:=ov_form (a-b);rw[hv] at c ⊢;clear hv ha hb;go_enter Tryz.func162,Tryz.ntmps162;go_wp2_with fail;refine c.mono ?_;rintro u w2 ⟨rfl,rfl⟩;go_wp2;exact bodyPost_ret (v:=.tuple #[.int .i64 p,.int .i64 q]) (by simp[results,Tryz.results162,go_sem]) rfl ⟨rfl,rfl⟩
theorem worth10_c {a b:Int}(ha:In64 a)(hb:In64 b)(w:World):Calls Tryz.prog 162 #[.int .i64 10,.int .i64 a,.int .i64 b] w fun e w'=>e=.returned (wrV 10 a b)/\w'=w:=by
 have c:=times_c ha hb w;rw[show wrV 10 a b=ovV (a*b) from ov_wr (by simp[rckP]) (by omega)];obtain⟨p,q,hv⟩:=ov_form (a*b);rw[hv] at c ⊢;clear hv ha hb;go_enter Tryz.func162,Tryz.ntmps162;go_wp2_with fail;refine c.mono ?_;rintro u w2 ⟨rfl,rfl⟩;go_wp2;exact bodyPost_ret (v:=.tuple #[.int .i64 p,.int .i64 q]) (by simp[results,Tryz.results162,go_sem]) rfl ⟨rfl,rfl⟩
theorem worth11_c {a b:Int}(ha:In64 a)(hb:In64 b)(w:World):Calls Tryz.prog 162 #[.int .i64 11,.int .i64 a,.int .i64 b] w fun e w'=>e=.returned (wrV 11 a b)/\w'=w:=by
 have c:=quotient_c ha hb w;rw[qu_wr];obtain⟨p,q,hv⟩:=qu_form a b;rw[hv] at c ⊢;clear hv ha hb;go_enter Tryz.func162,Tryz.ntmps162;go_wp2_with fail;refine c.mono ?_;rintro u w2 ⟨rfl,rfl⟩;go_wp2;exact bodyPost_ret (v:=.tuple #[.int .i64 p,.int .i64 q]) (by simp[results,Tryz.results162,go_sem]) rfl ⟨rfl,rfl⟩
theorem worth12_c {a b:Int}(ha:In64 a)(hb:In64 b)(w:World):Calls Tryz.prog 162 #[.int .i64 12,.int .i64 a,.int .i64 b] w fun e w'=>e=.returned (wrV 12 a b)/\w'=w:=by
 have c:=rest_c ha hb w;rw[re_wr];obtain⟨p,q,hv⟩:=re_form a b;rw[hv] at c ⊢;clear hv ha hb;go_enter Tryz.func162,Tryz.ntmps162;go_wp2_with fail;refine c.mono ?_;rintro u w2 ⟨rfl,rfl⟩;go_wp2;exact bodyPost_ret (v:=.tuple #[.int .i64 p,.int .i64 q]) (by simp[results,Tryz.results162,go_sem]) rfl ⟨rfl,rfl⟩
theorem worth13_c {a b:Int}(ha:In64 a)(hb:In64 b)(w:World):Calls Tryz.prog 162 #[.int .i64 13,.int .i64 a,.int .i64 b] w fun e w'=>e=.returned (wrV 13 a b)/\w'=w:=by
 have c:=truth_c (a==b) w;rw[show wrV 13 a b=.tuple #[.int .i64 (trI (a==b)),.int .i64 0] from tr_wr (by simp[rckP])];clear ha hb;go_enter Tryz.func162,Tryz.ntmps162;go_wp2_with fail;refine c.mono ?_;rintro u w2 ⟨rfl,rfl⟩;go_wp2;exact bodyPost_ret (v:=.tuple #[.int .i64 (trI (a==b)),.int .i64 0]) (by simp[results,Tryz.results162,go_sem]) rfl ⟨rfl,rfl⟩
theorem worth14_c {a b:Int}(ha:In64 a)(hb:In64 b)(w:World):Calls Tryz.prog 162 #[.int .i64 14,.int .i64 a,.int .i64 b] w fun e w'=>e=.returned (wrV 14 a b)/\w'=w:=by
 have c:=truth_c (a != b) w;rw[show wrV 14 a b=.tuple #[.int .i64 (trI (a != b)),.int .i64 0] from tr_wr (by simp[rckP])];clear ha hb;go_enter Tryz.func162,Tryz.ntmps162;go_wp2_with fail;refine c.mono ?_;rintro u w2 ⟨rfl,rfl⟩;go_wp2;exact bodyPost_ret (v:=.tuple #[.int .i64 (trI (a != b)),.int .i64 0]) (by simp[results,Tryz.results162,go_sem]) rfl ⟨rfl,rfl⟩
theorem worth15_c {a b:Int}(ha:In64 a)(hb:In64 b)(w:World):Calls Tryz.prog 162 #[.int .i64 15,.int .i64 a,.int .i64 b] w fun e w'=>e=.returned (wrV 15 a b)/\w'=w:=by
 have c:=truth_c (decide (a<b)) w;rw[show wrV 15 a b=.tuple #[.int .i64 (trI (decide (a<b))),.int .i64 0] from tr_wr (by simp[rckP])];clear ha hb;go_enter Tryz.func162,Tryz.ntmps162;go_wp2_with fail;refine c.mono ?_;rintro u w2 ⟨rfl,rfl⟩;go_wp2;exact bodyPost_ret (v:=.tuple #[.int .i64 (trI (decide (a<b))),.int .i64 0]) (by simp[results,Tryz.results162,go_sem]) rfl ⟨rfl,rfl⟩
theorem worth16_c {a b:Int}(ha:In64 a)(hb:In64 b)(w:World):Calls Tryz.prog 162 #[.int .i64 16,.int .i64 a,.int .i64 b] w fun e w'=>e=.returned (wrV 16 a b)/\w'=w:=by
 have c:=truth_c (decide (a<=b)) w;rw[show wrV 16 a b=.tuple #[.int .i64 (trI (decide (a<=b))),.int .i64 0] from tr_wr (by simp[rckP])];clear ha hb;go_enter Tryz.func162,Tryz.ntmps162;go_wp2_with fail;refine c.mono ?_;rintro u w2 ⟨rfl,rfl⟩;go_wp2;exact bodyPost_ret (v:=.tuple #[.int .i64 (trI (decide (a<=b))),.int .i64 0]) (by simp[results,Tryz.results162,go_sem]) rfl ⟨rfl,rfl⟩
theorem worth_c {k a b:Int}(hk:6<=k/\k<=16)(ha:In64 a)(hb:In64 b)(w:World):Calls Tryz.prog 162 #[.int .i64 k,.int .i64 a,.int .i64 b] w fun e w'=>e=.returned (wrV k a b)/\w'=w:=by
 have:k=6\/k=7\/k=8\/k=9\/k=10\/k=11\/k=12\/k=13\/k=14\/k=15\/k=16:=by omega
 rcases this with rfl|rfl|rfl|rfl|rfl|rfl|rfl|rfl|rfl|rfl|rfl
 ·exact worth6_c ha hb w
 ·exact worth7_c ha hb w
 ·exact worth8_c ha hb w
 ·exact worth9_c ha hb w
 ·exact worth10_c ha hb w
 ·exact worth11_c ha hb w
 ·exact worth12_c ha hb w
 ·exact worth13_c ha hb w
 ·exact worth14_c ha hb w
 ·exact worth15_c ha hb w
 ·exact worth16_c ha hb w
theorem reck8_c {a b:Int}(ha:In64 a)(hb:In64 b)(w:World):Calls Tryz.prog 106 #[.int .i64 8,.int .i64 a,.int .i64 b] w fun e w'=>e=.returned (wrV 8 a b)/\w'=w:=by
 rw[show wrV 8 a b=ovV (a+b) from ov_wr (by simp[rckP]) (by omega)];obtain⟨ha1,ha2⟩:=ha;obtain⟨hb1,hb2⟩:=hb;unfold ovV;by_cases h0:0<b
 ·have r1:-9223372036854775808<=9223372036854775807-b:=by omega
  have r2:9223372036854775807-b<=9223372036854775807:=by omega
  by_cases h:9223372036854775807-b<a
  ·have hn:¬In64 (a+b):=by unfold In64;omega
   rw[inI_neg hn];simp only[Bool.false_eq_true,if_false];clear hn;go_enter Tryz.func106,Tryz.ntmps106;go_wp2;exact bodyPost_ret (v:=.tuple #[.int .i64 (0),.int .i64 1]) (by simp[results,Tryz.results106,go_sem]) rfl ⟨rfl,rfl⟩
  ·have hn:In64 (a+b):=by unfold In64;omega
   rw[inI_pos hn];simp only[if_true];obtain⟨hi1,hi2⟩:=hn;go_enter Tryz.func106,Tryz.ntmps106;go_wp2;exact bodyPost_ret (v:=.tuple #[.int .i64 (a+b),.int .i64 0]) (by simp[results,Tryz.results106,go_sem]) rfl ⟨rfl,rfl⟩
 ·by_cases h2:b<0
  ·have r1:-9223372036854775808<=-9223372036854775808-b:=by omega
   have r2:-9223372036854775808-b<=9223372036854775807:=by omega
   by_cases h:a < -9223372036854775808-b
   ·have hn:¬In64 (a+b):=by unfold In64;omega
    rw[inI_neg hn];simp only[Bool.false_eq_true,if_false];clear hn;go_enter Tryz.func106,Tryz.ntmps106;go_wp2;exact bodyPost_ret (v:=.tuple #[.int .i64 (0),.int .i64 1]) (by simp[results,Tryz.results106,go_sem]) rfl ⟨rfl,rfl⟩
   ·have hn:In64 (a+b):=by unfold In64;omega
    rw[inI_pos hn];simp only[if_true];obtain⟨hi1,hi2⟩:=hn;go_enter Tryz.func106,Tryz.ntmps106;go_wp2;exact bodyPost_ret (v:=.tuple #[.int .i64 (a+b),.int .i64 0]) (by simp[results,Tryz.results106,go_sem]) rfl ⟨rfl,rfl⟩
  ·have hn:In64 (a+b):=by unfold In64;omega
   rw[inI_pos hn];simp only[if_true];obtain⟨hi1,hi2⟩:=hn;go_enter Tryz.func106,Tryz.ntmps106;go_wp2;exact bodyPost_ret (v:=.tuple #[.int .i64 (a+b),.int .i64 0]) (by simp[results,Tryz.results106,go_sem]) rfl ⟨rfl,rfl⟩
theorem reck9_c {a b:Int}(ha:In64 a)(hb:In64 b)(w:World):Calls Tryz.prog 106 #[.int .i64 9,.int .i64 a,.int .i64 b] w fun e w'=>e=.returned (wrV 9 a b)/\w'=w:=by
 rw[show wrV 9 a b=ovV (a-b) from ov_wr (by simp[rckP]) (by omega)];obtain⟨ha1,ha2⟩:=ha;obtain⟨hb1,hb2⟩:=hb;unfold ovV;by_cases h0:b<0
 ·have r1:-9223372036854775808<=9223372036854775807+b:=by omega
  have r2:9223372036854775807+b<=9223372036854775807:=by omega
  by_cases h:9223372036854775807+b<a
  ·have hn:¬In64 (a-b):=by unfold In64;omega
   rw[inI_neg hn];simp only[Bool.false_eq_true,if_false];clear hn;go_enter Tryz.func106,Tryz.ntmps106;go_wp2;exact bodyPost_ret (v:=.tuple #[.int .i64 (0),.int .i64 1]) (by simp[results,Tryz.results106,go_sem]) rfl ⟨rfl,rfl⟩
  ·have hn:In64 (a-b):=by unfold In64;omega
   rw[inI_pos hn];simp only[if_true];obtain⟨hi1,hi2⟩:=hn;go_enter Tryz.func106,Tryz.ntmps106;go_wp2;exact bodyPost_ret (v:=.tuple #[.int .i64 (a-b),.int .i64 0]) (by simp[results,Tryz.results106,go_sem]) rfl ⟨rfl,rfl⟩
 ·by_cases h2:0<b
  ·have r1:-9223372036854775808<=-9223372036854775808+b:=by omega
   have r2:-9223372036854775808+b<=9223372036854775807:=by omega
   by_cases h:a < -9223372036854775808+b
   ·have hn:¬In64 (a-b):=by unfold In64;omega
    rw[inI_neg hn];simp only[Bool.false_eq_true,if_false];clear hn;go_enter Tryz.func106,Tryz.ntmps106;go_wp2;exact bodyPost_ret (v:=.tuple #[.int .i64 (0),.int .i64 1]) (by simp[results,Tryz.results106,go_sem]) rfl ⟨rfl,rfl⟩
   ·have hn:In64 (a-b):=by unfold In64;omega
    rw[inI_pos hn];simp only[if_true];obtain⟨hi1,hi2⟩:=hn;go_enter Tryz.func106,Tryz.ntmps106;go_wp2;exact bodyPost_ret (v:=.tuple #[.int .i64 (a-b),.int .i64 0]) (by simp[results,Tryz.results106,go_sem]) rfl ⟨rfl,rfl⟩
  ·have hn:In64 (a-b):=by unfold In64;omega
   rw[inI_pos hn];simp only[if_true];obtain⟨hi1,hi2⟩:=hn;go_enter Tryz.func106,Tryz.ntmps106;go_wp2;exact bodyPost_ret (v:=.tuple #[.int .i64 (a-b),.int .i64 0]) (by simp[results,Tryz.results106,go_sem]) rfl ⟨rfl,rfl⟩
theorem reck10_c {a b:Int}(ha:In64 a)(hb:In64 b)(w:World):Calls Tryz.prog 106 #[.int .i64 10,.int .i64 a,.int .i64 b] w fun e w'=>e=.returned (wrV 10 a b)/\w'=w:=by
 rw[show wrV 10 a b=ovV (a*b) from ov_wr (by simp[rckP]) (by omega)];by_cases h0:a=0
 ·subst h0;rw[Int.zero_mul];unfold ovV;rw[inI_pos (show In64 0 from ⟨by decide,by decide⟩)];simp only[if_true];go_enter Tryz.func106,Tryz.ntmps106;go_wp2;exact bodyPost_ret (v:=.tuple #[.int .i64 (0),.int .i64 0]) (by simp[results,Tryz.results106,go_sem]) rfl ⟨rfl,rfl⟩
 by_cases h1:b=0
 ·subst h1;rw[Int.mul_zero];unfold ovV;rw[inI_pos (show In64 0 from ⟨by decide,by decide⟩)];simp only[if_true];have ha0:(a==0)=false:=by simpa using h0
  go_enter Tryz.func106,Tryz.ntmps106;go_wp2;exact bodyPost_ret (v:=.tuple #[.int .i64 (0),.int .i64 0]) (by simp[results,Tryz.results106,go_sem]) rfl ⟨rfl,rfl⟩
 have ha0:(a==0)=false:=by simpa using h0
 have hb0:(b==0)=false:=by simpa using h1
 unfold ovV;by_cases h:In64 (a*b)
 ·rw[inI_pos h];simp only[if_true];have hq:(a*b).tdiv b=a:=Int.mul_tdiv_cancel a h1;have n1:a=-1->(b==-9223372036854775808)=false:=fun e=>by
   rw[beq_eq_false_iff_ne];rintro rfl;rw[e] at h;exact absurd h.2 (by decide)
  have n2:b=-1->(a==-9223372036854775808)=false:=fun e=>by
   rw[beq_eq_false_iff_ne];rintro rfl;rw[e] at h;exact absurd h.2 (by decide)
  obtain⟨hi1,hi2⟩:=h;obtain⟨ha1,ha2⟩:=ha;by_cases e1:a=-1
  ·have x1:(a==-1)=true:=by simpa using e1
   have y1:=n1 e1;by_cases e2:b=-1
   ·have x2:(b==-1)=true:=by simpa using e2
    have y2:=n2 e2;clear e1 e2 n1 n2;go_enter Tryz.func106,Tryz.ntmps106;go_wp2;exact bodyPost_ret (v:=.tuple #[.int .i64 (a*b),.int .i64 0]) (by simp[results,Tryz.results106,go_sem]) rfl ⟨rfl,rfl⟩
   ·have x2:(b==-1)=false:=by simpa using e2
    clear e1 e2 n1 n2;go_enter Tryz.func106,Tryz.ntmps106;go_wp2;exact bodyPost_ret (v:=.tuple #[.int .i64 (a*b),.int .i64 0]) (by simp[results,Tryz.results106,go_sem]) rfl ⟨rfl,rfl⟩
  ·have x1:(a==-1)=false:=by simpa using e1
   by_cases e2:b=-1
   ·have x2:(b==-1)=true:=by simpa using e2
    have y2:=n2 e2;clear e1 e2 n1 n2;go_enter Tryz.func106,Tryz.ntmps106;go_wp2;exact bodyPost_ret (v:=.tuple #[.int .i64 (a*b),.int .i64 0]) (by simp[results,Tryz.results106,go_sem]) rfl ⟨rfl,rfl⟩
   ·have x2:(b==-1)=false:=by simpa using e2
    clear e1 e2 n1 n2;go_enter Tryz.func106,Tryz.ntmps106;go_wp2;exact bodyPost_ret (v:=.tuple #[.int .i64 (a*b),.int .i64 0]) (by simp[results,Tryz.results106,go_sem]) rfl ⟨rfl,rfl⟩
 ·rw[inI_neg h];simp only[Bool.false_eq_true,if_false];by_cases m1:a=-1/\b=-9223372036854775808
  ·have x1:(a==-1)=true:=by simpa using m1.1
   have y1:(b==-9223372036854775808)=true:=by simpa using m1.2
   clear m1 h;go_enter Tryz.func106,Tryz.ntmps106;go_wp2;exact bodyPost_ret (v:=.tuple #[.int .i64 (0),.int .i64 1]) (by simp[results,Tryz.results106,go_sem]) rfl ⟨rfl,rfl⟩
  by_cases m2:b=-1/\a=-9223372036854775808
  ·have x1:(a==-1)=false:=by rw[m2.2];decide
   have x2:(b==-1)=true:=by simpa using m2.1
   have y2:(a==-9223372036854775808)=true:=by simpa using m2.2
   clear m1 m2 h;go_enter Tryz.func106,Tryz.ntmps106;go_wp2;exact bodyPost_ret (v:=.tuple #[.int .i64 (0),.int .i64 1]) (by simp[results,Tryz.results106,go_sem]) rfl ⟨rfl,rfl⟩
  have hq:¬(wrap64 (a*b)).tdiv b=a:=fun hq=>mul_round ha hb h1 h hq;have hp:In64 (wrap64 (a*b)):=by unfold In64 wrap64;omega
  have hx:¬(wrap64 (a*b)=-9223372036854775808/\b=-1):=by
   rintro ⟨h2,rfl⟩;obtain⟨ha1,ha2⟩:=ha;unfold In64 at h;unfold wrap64 at h2;omega
  obtain⟨hi1,hi2⟩:=tdiv_in hp h1 hx;have n1:a=-1->(b==-9223372036854775808)=false:=fun e=>by
   rw[beq_eq_false_iff_ne];exact fun e2=>m1 ⟨e,e2⟩
  have n2:b=-1->(a==-9223372036854775808)=false:=fun e=>by
   rw[beq_eq_false_iff_ne];exact fun e2=>m2 ⟨e,e2⟩
  clear m1 m2 hx h;by_cases e1:a=-1
  ·have x1:(a==-1)=true:=by simpa using e1
   have y1:=n1 e1;by_cases e2:b=-1
   ·have x2:(b==-1)=true:=by simpa using e2
    have y2:=n2 e2;clear e1 e2 n1 n2;go_enter Tryz.func106,Tryz.ntmps106;go_wp2;exact bodyPost_ret (v:=.tuple #[.int .i64 (0),.int .i64 1]) (by simp[results,Tryz.results106,go_sem]) rfl ⟨rfl,rfl⟩
   ·have x2:(b==-1)=false:=by simpa using e2
    clear e1 e2 n1 n2;go_enter Tryz.func106,Tryz.ntmps106;go_wp2;exact bodyPost_ret (v:=.tuple #[.int .i64 (0),.int .i64 1]) (by simp[results,Tryz.results106,go_sem]) rfl ⟨rfl,rfl⟩
  ·have x1:(a==-1)=false:=by simpa using e1
   by_cases e2:b=-1
   ·have x2:(b==-1)=true:=by simpa using e2
    have y2:=n2 e2;clear e1 e2 n1 n2;go_enter Tryz.func106,Tryz.ntmps106;go_wp2;exact bodyPost_ret (v:=.tuple #[.int .i64 (0),.int .i64 1]) (by simp[results,Tryz.results106,go_sem]) rfl ⟨rfl,rfl⟩
   ·have x2:(b==-1)=false:=by simpa using e2
    clear e1 e2 n1 n2;go_enter Tryz.func106,Tryz.ntmps106;go_wp2;exact bodyPost_ret (v:=.tuple #[.int .i64 (0),.int .i64 1]) (by simp[results,Tryz.results106,go_sem]) rfl ⟨rfl,rfl⟩
theorem reck11_c {a b:Int}(ha:In64 a)(hb:In64 b)(w:World):Calls Tryz.prog 106 #[.int .i64 11,.int .i64 a,.int .i64 b] w fun e w'=>e=.returned (wrV 11 a b)/\w'=w:=by
 rw[qu_wr];unfold quV;by_cases h0:b=0
 ·subst h0;rw[if_pos rfl];go_enter Tryz.func106,Tryz.ntmps106;go_wp2;exact bodyPost_ret (v:=.tuple #[.int .i64 (0),.int .i64 4]) (by simp[results,Tryz.results106,go_sem]) rfl ⟨rfl,rfl⟩
 ·rw[if_neg h0];have hb0:(b==0)=false:=by simpa using h0
  by_cases h1:b=-1
  ·have hv:ovV (a.tdiv b)=wrV 9 0 a:=by
    rw[h1,show wrV 9 0 a=ovV (0-a) from ov_wr (by simp[rckP]) (by omega),show a.tdiv (-1)=0-a by rw[Int.tdiv_neg,Int.tdiv_one];omega]
   have c:=reck9_c (a:=0) (b:=a) ⟨by decide,by decide⟩ ha w;have x1:(b==-1)=true:=by simpa using h1
   rw[hv];obtain⟨p,q,hw⟩:∃p q,wrV 9 0 a=.tuple #[.int .i64 p,.int .i64 q]:=⟨_,_,rfl⟩
   rw[hw] at c ⊢;clear hv hw h1 h0 ha hb;go_enter Tryz.func106,Tryz.ntmps106;go_wp2_with fail;refine c.mono ?_;rintro u w2 ⟨rfl,rfl⟩;go_wp2;exact bodyPost_ret (v:=.tuple #[.int .i64 p,.int .i64 q]) (by simp[results,Tryz.results106,go_sem]) rfl ⟨rfl,rfl⟩
  ·have hn:=tdiv_in ha h0 (fun h=>h1 h.2);have x1:(b==-1)=false:=by simpa using h1
   unfold ovV;rw[inI_pos hn];simp only[if_true];obtain⟨hi1,hi2⟩:=hn;clear h1;go_enter Tryz.func106,Tryz.ntmps106;go_wp2;exact bodyPost_ret (v:=.tuple #[.int .i64 (a.tdiv b),.int .i64 0]) (by simp[results,Tryz.results106,go_sem]) rfl ⟨rfl,rfl⟩
theorem reck12_c {a b:Int}(ha:In64 a)(hb:In64 b)(w:World):Calls Tryz.prog 106 #[.int .i64 12,.int .i64 a,.int .i64 b] w fun e w'=>e=.returned (wrV 12 a b)/\w'=w:=by
 rw[re_wr];unfold reV;by_cases h0:b=0
 ·subst h0;rw[if_pos rfl];go_enter Tryz.func106,Tryz.ntmps106;go_wp2;exact bodyPost_ret (v:=.tuple #[.int .i64 (0),.int .i64 4]) (by simp[results,Tryz.results106,go_sem]) rfl ⟨rfl,rfl⟩
 ·rw[if_neg h0];have hb0:(b==0)=false:=by simpa using h0
  obtain⟨hi1,hi2⟩:=tmod_in ha h0;by_cases h1:b=-1
  ·have x1:(b==-1)=true:=by simpa using h1
   rw[show a.tmod b=0 by rw[h1,Int.tmod_neg,Int.tmod_one]];clear h1;go_enter Tryz.func106,Tryz.ntmps106;go_wp2;exact bodyPost_ret (v:=.tuple #[.int .i64 (0),.int .i64 0]) (by simp[results,Tryz.results106,go_sem]) rfl ⟨rfl,rfl⟩
  ·have x1:(b==-1)=false:=by simpa using h1
   clear h1;go_enter Tryz.func106,Tryz.ntmps106;go_wp2;exact bodyPost_ret (v:=.tuple #[.int .i64 (a.tmod b),.int .i64 0]) (by simp[results,Tryz.results106,go_sem]) rfl ⟨rfl,rfl⟩
theorem reck_c {k a b:Int}(hk:8<=k/\k<=12)(ha:In64 a)(hb:In64 b)(w:World):Calls Tryz.prog 106 #[.int .i64 k,.int .i64 a,.int .i64 b] w fun e w'=>e=.returned (wrV k a b)/\w'=w:=by
 have:k=8\/k=9\/k=10\/k=11\/k=12:=by omega
 rcases this with rfl|rfl|rfl|rfl|rfl
 ·exact reck8_c ha hb w
 ·exact reck9_c ha hb w
 ·exact reck10_c ha hb w
 ·exact reck11_c ha hb w
 ·exact reck12_c ha hb w
theorem isr_c (e:Ex)(ao:Option Addr)(cap:Nat)(k n:Int)(w:World):Calls Tryz.prog 107 #[exN e ao cap,.int .i64 k,.int .i64 n] w fun x w'=>x=.returned (.bool (isE e k n))/\Below w.heap.size w w':=by
 have B0:Below w.heap.size w (w.alloc (.cells #[.int .i64 e.k,.int .i64 e.n,stv e.nm,.slice ao e.kids.len cap] 34)):=(Below.refl _ w).alloc (Nat.le_refl _) _;have E0:(w.alloc (.cells #[.int .i64 e.k,.int .i64 e.n,stv e.nm,.slice ao e.kids.len cap] 34)).heap[w.heap.size]?=some (.cells #[.int .i64 e.k,.int .i64 e.n,stv e.nm,.slice ao e.kids.len cap] 34):=heap_alloc_new w _;rw[exN_out];unfold isE;go_enter Tryz.func107,Tryz.ntmps107;go_upto_region 1 with fail;generalize w.alloc (.cells #[.int .i64 e.k,.int .i64 e.n,stv e.nm,.slice ao e.kids.len cap] 34)=w0 at *;obtain⟨bx,hbx⟩:∃bx,bx=w.heap.size:=⟨_,rfl⟩
 rw[<-hbx] at E0 B0 ⊢;have HB:Hid (bx=w.heap.size):=hbx;clear hbx;obtain⟨p0,p1,p2,p3,pf⟩:=box4 E0;cases hk:(e.k==k) with
 | true =>
  go_wp2;go_ret;exact⟨by simp[hk],by rw[<-HB.out];exact B0⟩
 | false =>
  go_wp2;go_ret;exact⟨by simp[hk],by rw[<-HB.out];exact B0⟩
theorem isnum_c (e:Ex)(ao:Option Addr)(cap:Nat)(n:Int)(w:World):Calls Tryz.prog 164 #[exN e ao cap,.int .i64 n] w fun x w'=>x=.returned (.bool (isE e 1 n))/\Below w.heap.size w w':=by
 have B0:Below w.heap.size w (w.alloc (.cells #[.int .i64 e.k,.int .i64 e.n,stv e.nm,.slice ao e.kids.len cap] 34)):=(Below.refl _ w).alloc (Nat.le_refl _) _;have E0:(w.alloc (.cells #[.int .i64 e.k,.int .i64 e.n,stv e.nm,.slice ao e.kids.len cap] 34)).heap[w.heap.size]?=some (.cells #[.int .i64 e.k,.int .i64 e.n,stv e.nm,.slice ao e.kids.len cap] 34):=heap_alloc_new w _;rw[exN_out];unfold isE;go_enter Tryz.func164,Tryz.ntmps164;go_upto_region 1 with fail;generalize w.alloc (.cells #[.int .i64 e.k,.int .i64 e.n,stv e.nm,.slice ao e.kids.len cap] 34)=w0 at *;obtain⟨bx,hbx⟩:∃bx,bx=w.heap.size:=⟨_,rfl⟩
 rw[<-hbx] at E0 B0 ⊢;have HB:Hid (bx=w.heap.size):=hbx;clear hbx;obtain⟨p0,p1,p2,p3,pf⟩:=box4 E0;cases hk:(e.k==1) with
 | true =>
  go_wp2;go_ret;exact⟨by simp[hk],by rw[<-HB.out];exact B0⟩
 | false =>
  go_wp2;go_ret;exact⟨by simp[hk],by rw[<-HB.out];exact B0⟩
theorem istru_c (e:Ex)(ao:Option Addr)(cap:Nat)(n:Int)(w:World):Calls Tryz.prog 165 #[exN e ao cap,.int .i64 n] w fun x w'=>x=.returned (.bool (isE e 2 n))/\Below w.heap.size w w':=by
 have B0:Below w.heap.size w (w.alloc (.cells #[.int .i64 e.k,.int .i64 e.n,stv e.nm,.slice ao e.kids.len cap] 34)):=(Below.refl _ w).alloc (Nat.le_refl _) _;have E0:(w.alloc (.cells #[.int .i64 e.k,.int .i64 e.n,stv e.nm,.slice ao e.kids.len cap] 34)).heap[w.heap.size]?=some (.cells #[.int .i64 e.k,.int .i64 e.n,stv e.nm,.slice ao e.kids.len cap] 34):=heap_alloc_new w _;rw[exN_out];unfold isE;go_enter Tryz.func165,Tryz.ntmps165;go_upto_region 1 with fail;generalize w.alloc (.cells #[.int .i64 e.k,.int .i64 e.n,stv e.nm,.slice ao e.kids.len cap] 34)=w0 at *;obtain⟨bx,hbx⟩:∃bx,bx=w.heap.size:=⟨_,rfl⟩
 rw[<-hbx] at E0 B0 ⊢;have HB:Hid (bx=w.heap.size):=hbx;clear hbx;obtain⟨p0,p1,p2,p3,pf⟩:=box4 E0;cases hk:(e.k==2) with
 | true =>
  go_wp2;go_ret;exact⟨by simp[hk],by rw[<-HB.out];exact B0⟩
 | false =>
  go_wp2;go_ret;exact⟨by simp[hk],by rw[<-HB.out];exact B0⟩
theorem iscon_c (e:Ex)(ao:Option Addr)(cap:Nat)(w:World):Calls Tryz.prog 115 #[exN e ao cap] w fun x w'=>x=.returned (.bool (cnE e))/\Below w.heap.size w w':=by
 have B0:Below w.heap.size w (w.alloc (.cells #[.int .i64 e.k,.int .i64 e.n,stv e.nm,.slice ao e.kids.len cap] 34)):=(Below.refl _ w).alloc (Nat.le_refl _) _;have E0:(w.alloc (.cells #[.int .i64 e.k,.int .i64 e.n,stv e.nm,.slice ao e.kids.len cap] 34)).heap[w.heap.size]?=some (.cells #[.int .i64 e.k,.int .i64 e.n,stv e.nm,.slice ao e.kids.len cap] 34):=heap_alloc_new w _;rw[exN_out];unfold cnE;go_enter Tryz.func115,Tryz.ntmps115;go_upto_region 1 with fail;generalize w.alloc (.cells #[.int .i64 e.k,.int .i64 e.n,stv e.nm,.slice ao e.kids.len cap] 34)=w0 at *;obtain⟨bx,hbx⟩:∃bx,bx=w.heap.size:=⟨_,rfl⟩
 rw[<-hbx] at E0 B0 ⊢;have HB:Hid (bx=w.heap.size):=hbx;clear hbx;obtain⟨p0,p1,p2,p3,pf⟩:=box4 E0;cases hk:(e.k==1) with
 | true =>
  go_wp2;go_ret;exact⟨by simp[hk],by rw[<-HB.out];exact B0⟩
 | false =>
  go_wp2;go_ret;exact⟨by simp[hk],by rw[<-HB.out];exact B0⟩
def ckE (k:Int):Int:=if k=6\/(8<=k/\k<=12) then 1 else 2
theorem conkind_c {k:Int}(hk:6<=k/\k<=16)(w:World):Calls Tryz.prog 163 #[.int .i64 k] w fun x w'=>x=.returned (.int .i64 (ckE k))/\w'=w:=by
 have:k=6\/k=7\/k=8\/k=9\/k=10\/k=11\/k=12\/k=13\/k=14\/k=15\/k=16:=by omega
 rcases this with rfl|rfl|rfl|rfl|rfl|rfl|rfl|rfl|rfl|rfl|rfl
 ·go_enter Tryz.func163,Tryz.ntmps163;go_wp2;go_ret;exact⟨rfl,rfl⟩
 ·go_enter Tryz.func163,Tryz.ntmps163;go_wp2;go_ret;exact⟨rfl,rfl⟩
 ·go_enter Tryz.func163,Tryz.ntmps163;go_wp2;go_ret;exact⟨rfl,rfl⟩
 ·go_enter Tryz.func163,Tryz.ntmps163;go_wp2;go_ret;exact⟨rfl,rfl⟩
 ·go_enter Tryz.func163,Tryz.ntmps163;go_wp2;go_ret;exact⟨rfl,rfl⟩
 ·go_enter Tryz.func163,Tryz.ntmps163;go_wp2;go_ret;exact⟨rfl,rfl⟩
 ·go_enter Tryz.func163,Tryz.ntmps163;go_wp2;go_ret;exact⟨rfl,rfl⟩
 ·go_enter Tryz.func163,Tryz.ntmps163;go_wp2;go_ret;exact⟨rfl,rfl⟩
 ·go_enter Tryz.func163,Tryz.ntmps163;go_wp2;go_ret;exact⟨rfl,rfl⟩
 ·go_enter Tryz.func163,Tryz.ntmps163;go_wp2;go_ret;exact⟨rfl,rfl⟩
 ·go_enter Tryz.func163,Tryz.ntmps163;go_wp2;go_ret;exact⟨rfl,rfl⟩
theorem number_c (n:Int)(w:World):Calls Tryz.prog 104 #[.int .i64 n] w fun x w'=>x=.returned (exN (numE n) none 0)/\Below w.heap.size w w':=by
 have B0:Below w.heap.size w (w.alloc (.cells #[.int .i64 0,.int .i64 0,.string ⟨#[]⟩,.slice none 0 0] 34)):=(Below.refl _ w).alloc (Nat.le_refl _) _;have E0:(w.alloc (.cells #[.int .i64 0,.int .i64 0,.string ⟨#[]⟩,.slice none 0 0] 34)).heap[w.heap.size]?=some (.cells #[.int .i64 0,.int .i64 0,.string ⟨#[]⟩,.slice none 0 0] 34):=heap_alloc_new w _;have B1:=(((B0.setCell (p:=⟨w.heap.size,0,none⟩) (Nat.le_refl _) (.int .i64 1)).setCell (p:=⟨w.heap.size,1,none⟩) (Nat.le_refl _) (.int .i64 n)).setCell (p:=⟨w.heap.size,2,none⟩) (Nat.le_refl _) (.string ⟨#[]⟩)).setCell (p:=⟨w.heap.size,3,none⟩) (Nat.le_refl _) (.slice none 0 0);have E1:=set4k (b0:=.int .i64 1) (b1:=.int .i64 n) (b2:=.string ⟨#[]⟩) (b3:=.slice none 0 0) E0;go_enter Tryz.func104,Tryz.ntmps104;go_upto_region 1 with fail;generalize w.alloc (.cells #[.int .i64 0,.int .i64 0,.string ⟨#[]⟩,.slice none 0 0] 34)=w0 at *;obtain⟨bx,hbx⟩:∃bx,bx=w.heap.size:=⟨_,rfl⟩
 rw[<-hbx] at E0 E1 B0 B1 ⊢;have HB:Hid (bx=w.heap.size):=hbx;clear hbx;obtain⟨p0,p1,p2,p3,pf⟩:=box4 E0;have HU:Hid (∃wz,wz=(((w0.setCell ⟨bx,0,none⟩ (.int .i64 1)).setCell ⟨bx,1,none⟩ (.int .i64 n)).setCell ⟨bx,2,none⟩ (.string ⟨#[]⟩)).setCell ⟨bx,3,none⟩ (.slice none 0 0)/\wz.heap[bx]?=some (.cells #[.int .i64 1,.int .i64 n,.string ⟨#[]⟩,.slice none 0 0] 34)/\Below bx w wz):=⟨_,rfl,E1,B1⟩
 clear B0 E0 B1 E1;go_wp2;obtain⟨wz,hwz,E2,B2⟩:=HU.out;rw[<-hwz];obtain⟨v0,v1,v2,v3,-⟩:=box4 E2;refine bodyPost_ret (v:=exN (numE n) none 0) (by simp[results,Tryz.results104,go_sem,v0,v1,v2,v3,exN,numE,stv,Fs.nil,Fs.len]) rfl ⟨rfl,by rw[<-HB.out];exact B2⟩
theorem truthr_c (b:Bool)(w:World):Calls Tryz.prog 105 #[.bool b] w fun x w'=>x=.returned (exN (truE b) none 0)/\Below w.heap.size w w':=by
 have B0:Below w.heap.size w (w.alloc (.cells #[.int .i64 0,.int .i64 0,.string ⟨#[]⟩,.slice none 0 0] 34)):=(Below.refl _ w).alloc (Nat.le_refl _) _;have E0:(w.alloc (.cells #[.int .i64 0,.int .i64 0,.string ⟨#[]⟩,.slice none 0 0] 34)).heap[w.heap.size]?=some (.cells #[.int .i64 0,.int .i64 0,.string ⟨#[]⟩,.slice none 0 0] 34):=heap_alloc_new w _;cases b with
 | true =>
  have B1:=(((B0.setCell (p:=⟨w.heap.size,0,none⟩) (Nat.le_refl _) (.int .i64 2)).setCell (p:=⟨w.heap.size,1,none⟩) (Nat.le_refl _) (.int .i64 1)).setCell (p:=⟨w.heap.size,2,none⟩) (Nat.le_refl _) (.string ⟨#[]⟩)).setCell (p:=⟨w.heap.size,3,none⟩) (Nat.le_refl _) (.slice none 0 0);have E1:=set4k (b0:=.int .i64 2) (b1:=.int .i64 1) (b2:=.string ⟨#[]⟩) (b3:=.slice none 0 0) E0;go_enter Tryz.func105,Tryz.ntmps105;go_upto_region 1 with fail;generalize w.alloc (.cells #[.int .i64 0,.int .i64 0,.string ⟨#[]⟩,.slice none 0 0] 34)=w0 at *;obtain⟨bx,hbx⟩:∃bx,bx=w.heap.size:=⟨_,rfl⟩
  rw[<-hbx] at E0 E1 B0 B1 ⊢;have HB:Hid (bx=w.heap.size):=hbx;clear hbx;obtain⟨p0,p1,p2,p3,pf⟩:=box4 E0;have HU:Hid (∃wz,wz=(((w0.setCell ⟨bx,0,none⟩ (.int .i64 2)).setCell ⟨bx,1,none⟩ (.int .i64 1)).setCell ⟨bx,2,none⟩ (.string ⟨#[]⟩)).setCell ⟨bx,3,none⟩ (.slice none 0 0)/\wz.heap[bx]?=some (.cells #[.int .i64 2,.int .i64 1,.string ⟨#[]⟩,.slice none 0 0] 34)/\Below bx w wz):=⟨_,rfl,E1,B1⟩
  clear B0 E0 B1 E1;go_wp2;obtain⟨wz,hwz,E2,B2⟩:=HU.out;rw[<-hwz];obtain⟨v0,v1,v2,v3,-⟩:=box4 E2;refine bodyPost_ret (v:=exN (truE true) none 0) (by simp[results,Tryz.results105,go_sem,v0,v1,v2,v3,exN,truE,trI,stv,Fs.nil,Fs.len]) rfl ⟨rfl,by rw[<-HB.out];exact B2⟩
 | false =>
  have B1:=(((B0.setCell (p:=⟨w.heap.size,0,none⟩) (Nat.le_refl _) (.int .i64 2)).setCell (p:=⟨w.heap.size,1,none⟩) (Nat.le_refl _) (.int .i64 0)).setCell (p:=⟨w.heap.size,2,none⟩) (Nat.le_refl _) (.string ⟨#[]⟩)).setCell (p:=⟨w.heap.size,3,none⟩) (Nat.le_refl _) (.slice none 0 0);have E1:=set4k (b0:=.int .i64 2) (b1:=.int .i64 0) (b2:=.string ⟨#[]⟩) (b3:=.slice none 0 0) E0;go_enter Tryz.func105,Tryz.ntmps105;go_upto_region 1 with fail;generalize w.alloc (.cells #[.int .i64 0,.int .i64 0,.string ⟨#[]⟩,.slice none 0 0] 34)=w0 at *;obtain⟨bx,hbx⟩:∃bx,bx=w.heap.size:=⟨_,rfl⟩
  rw[<-hbx] at E0 E1 B0 B1 ⊢;have HB:Hid (bx=w.heap.size):=hbx;clear hbx;obtain⟨p0,p1,p2,p3,pf⟩:=box4 E0;have HU:Hid (∃wz,wz=(((w0.setCell ⟨bx,0,none⟩ (.int .i64 2)).setCell ⟨bx,1,none⟩ (.int .i64 0)).setCell ⟨bx,2,none⟩ (.string ⟨#[]⟩)).setCell ⟨bx,3,none⟩ (.slice none 0 0)/\wz.heap[bx]?=some (.cells #[.int .i64 2,.int .i64 0,.string ⟨#[]⟩,.slice none 0 0] 34)/\Below bx w wz):=⟨_,rfl,E1,B1⟩
  clear B0 E0 B1 E1;go_wp2;obtain⟨wz,hwz,E2,B2⟩:=HU.out;rw[<-hwz];obtain⟨v0,v1,v2,v3,-⟩:=box4 E2;refine bodyPost_ret (v:=exN (truE false) none 0) (by simp[results,Tryz.results105,go_sem,v0,v1,v2,v3,exN,truE,trI,stv,Fs.nil,Fs.len]) rfl ⟨rfl,by rw[<-HB.out];exact B2⟩
theorem FcNC.split {w:World}{P:Nat->Prop}:∀ {x y:Fs}{zs:List Value},FcNC w P (x.app y) zs->∃zx zy,zs=zx++zy/\FcNC w P x zx/\FcNC w P y zy
 | ⟨none⟩,y,zs,h=>⟨[],zs,rfl,rfl,h⟩
 | ⟨some ⟨k,n,nm,a,ks,r⟩⟩,y,zs,h=>by
  obtain⟨ao,cap,ys,rfl,h1,h2⟩:=h;obtain⟨zx,zy,rfl,h3,h4⟩:=FcNC.split h2;exact⟨_,zy,rfl,⟨ao,cap,zx,rfl,h1,h3⟩,h4⟩
theorem SlcN.kidC {P:Nat->Prop}{w:World}{x r:Fs}{k n:Int}{nm:List UInt8}{a:Int}{ks:Fs}{ao:Option Addr}{cap:Nat}(h:SlcN w P (x.app (.cons k n nm a ks r)) ao cap) :
  ∃b ak ck,ao=some ⟨b,0,none⟩/\b<w.heap.size/\w.cell? ⟨b,x.len*4,none⟩=some (.int .i64 k)/\w.cell? ⟨b,x.len*4+1,none⟩=some (.int .i64 n)/\w.cell? ⟨b,x.len*4+2,none⟩=some (stv nm)/\w.cell? ⟨b,x.len*4+3,none⟩=some (.slice ak ks.len ck)/\SlcN w P ks ak ck:=by
 rcases h with h|⟨b,zs,cur,rfl,hp,hlt,h4,h5,h6,h7,hf⟩
 ·cases x using Fs.on with
  | nil=>cases h.1
  | cons k n nm a ks r=>cases h.1
 ·obtain⟨zx,zy,rfl,h8,h9⟩:=FcNC.split hf;have hl:=h8.len;obtain⟨ak,ck,ys,rfl,h10,h11⟩:=h9;have hc':∀ j u,(.int .i64 k::.int .i64 n::stv nm::.slice ak ks.len ck::ys:List Value)[j]?=some u->w.cell? ⟨b,x.len*4+j,none⟩=some u:=fun j u hu=>by
   rw[cell_of_row _ b _ _ _ (0,0) h5];exact h7 (x.len*4+j) u (by rw[List.getElem?_append_right (by omega),hl,Nat.add_sub_cancel_left];exact hu)
  exact⟨b,ak,ck,rfl,hlt,hc' 0 _ rfl,hc' 1 _ rfl,hc' 2 _ rfl,hc' 3 _ rfl,h10⟩
def PostRu (v w:World)(P:Nat->Prop)(y:Ex)(x:Ending)(w':World):Prop:=∃ao cap,x=.returned (exN y ao cap)/\SlcN v P y.kids ao cap/\Below w.heap.size w w'
theorem SlcN.below {P:Nat->Prop}{w w':World}{f:Fs}{ao:Option Addr}{cap:Nat}(h:SlcN w P f ao cap)(b:Below w.heap.size w w'):SlcN w' P f ao cap:=h.mono (fun i _ hl=>b.block i hl) b.size (fun _ h _=>h)
theorem bxs {bx p q:Nat}{w v v':World}{E L R Z:Obj}(B:Below bx w v)(b:Below v.heap.size v v')(hE:v.heap[bx]?=some E)(hL:v.heap[p]?=some L)(hR:v.heap[q]?=some R)(hZ:v.heap[bx+1]?=some Z) :
  Below bx w v'/\v'.heap[bx]?=some E/\v'.heap[p]?=some L/\v'.heap[q]?=some R/\v'.heap[bx+1]?=some Z :=
 ⟨B.trans (b.mono (Nat.le_of_lt (lt_of_block hE))),(b.block _ (lt_of_block hE)).trans hE,(b.block _ (lt_of_block hL)).trans hL,(b.block _ (lt_of_block hR)).trans hR,(b.block _ (lt_of_block hZ)).trans hZ⟩
theorem hU4 {bx:Nat}{w v:World}(b0 b1 b2 b3:Value)(Z:v.heap[bx+1]?=some (.cells #[.int .i64 0,.int .i64 0,.string ⟨#[]⟩,.slice none 0 0] 34))(B:Below bx w v) :
  Hid (∃wz,wz=(((v.setCell ⟨bx+1,0,none⟩ b0).setCell ⟨bx+1,1,none⟩ b1).setCell ⟨bx+1,2,none⟩ b2).setCell ⟨bx+1,3,none⟩ b3/\wz.heap[bx+1]?=some (.cells #[b0,b1,b2,b3] 34)/\Below bx w wz) :=
 ⟨_,rfl,set4k Z,(((B.setCell (p:=⟨bx+1,0,none⟩) (Nat.le_succ _) b0).setCell (p:=⟨bx+1,1,none⟩) (Nat.le_succ _) b1).setCell (p:=⟨bx+1,2,none⟩) (Nat.le_succ _) b2).setCell (p:=⟨bx+1,3,none⟩) (Nat.le_succ _) b3⟩
def chE (e x y z:Ex):Ex:=if isE x 2 1 then y else if isE x 2 0 then z else e
theorem choice_c (e x y z:Ex)(ao:Option Addr)(cap:Nat)(P:Nat->Prop)(w:World)(hk:e.kids=.cons x.k x.n x.nm x.a x.kids (.cons y.k y.n y.nm y.a y.kids (.cons z.k z.n z.nm z.a z.kids .nil)))(S:SlcN w P e.kids ao cap) :
  Calls Tryz.prog 113 #[exN e ao cap] w (PostRu w w P (chE e x y z)):=by
 have hl:e.kids.len=3:=by rw[hk];rfl
 have HL:Hid (e.kids.len=3):=hl;have S1:=S;rw[hk] at S1;obtain⟨b,a0,c0,rfl,hb,x0,x1,x2,x3,SX⟩:=SlcN.kidC (x:=.nil) S1;obtain⟨b',a1,c1,hb1,-,y0,y1,y2,y3,SY⟩:=SlcN.kidC (x:=.cons x.k x.n x.nm x.a x.kids .nil) S1;cases hb1;obtain⟨b',a2,c2,hb1,-,z0,z1,z2,z3,SZ⟩:=SlcN.kidC (x:=.cons x.k x.n x.nm x.a x.kids (.cons y.k y.n y.nm y.a y.kids .nil)) S1;cases hb1;simp only[Fs.len,Fs.nil,Fs.cons,Nat.zero_mul,Nat.zero_add,Nat.reduceMul,Nat.reduceAdd] at x0 x1 x2 x3 y0 y1 y2 y3 z0 z1 z2 z3;obtain⟨w0,hw0⟩:∃w0,w0=(w.alloc (.cells #[.int .i64 e.k,.int .i64 e.n,stv e.nm,.slice (some ⟨b,0,none⟩) 3 cap] 34)).alloc (.cells #[.int .i64 0,.int .i64 0,.string ⟨#[]⟩,.slice none 0 0] 34):=⟨_,rfl⟩
 have B0:Below w.heap.size w w0:=by rw[hw0];exact((Below.refl _ w).alloc (Nat.le_refl _) _).alloc (by simp) _
 have E0:w0.heap[w.heap.size]?=some (.cells #[.int .i64 e.k,.int .i64 e.n,stv e.nm,.slice (some ⟨b,0,none⟩) 3 cap] 34):=by rw[hw0];exact(Below.heap_alloc _ _ _ (by simp)).trans (heap_alloc_new w _)
 have Z0:w0.heap[w.heap.size+1]?=some (.cells #[.int .i64 0,.int .i64 0,.string ⟨#[]⟩,.slice none 0 0] 34):=by
  rw[hw0]
  have:=heap_alloc_new (w.alloc (.cells #[.int .i64 e.k,.int .i64 e.n,stv e.nm,.slice (some ⟨b,0,none⟩) 3 cap] 34)) (.cells #[.int .i64 0,.int .i64 0,.string ⟨#[]⟩,.slice none 0 0] 34)
  simpa using this
 rw[exN_out,hl];go_enter Tryz.func113,Tryz.ntmps113;go_upto_region 1 with fail;rw[<-hw0];obtain⟨bx,hbx⟩:∃bx,bx=w.heap.size:=⟨_,rfl⟩
 rw[<-hbx] at E0 Z0 B0 hb ⊢;have HB:Hid (bx=w.heap.size):=hbx;clear hbx hw0 S1 hk hl;have x0:=(B0.cell (p:=⟨b,0,none⟩) hb).trans x0;have x1:=(B0.cell (p:=⟨b,1,none⟩) hb).trans x1;have x2:=(B0.cell (p:=⟨b,2,none⟩) hb).trans x2;have x3:=(B0.cell (p:=⟨b,3,none⟩) hb).trans x3;have y0:=(B0.cell (p:=⟨b,4,none⟩) hb).trans y0;have y1:=(B0.cell (p:=⟨b,5,none⟩) hb).trans y1;have y2:=(B0.cell (p:=⟨b,6,none⟩) hb).trans y2;have y3:=(B0.cell (p:=⟨b,7,none⟩) hb).trans y3;have z0:=(B0.cell (p:=⟨b,8,none⟩) hb).trans z0;have z1:=(B0.cell (p:=⟨b,9,none⟩) hb).trans z1;have z2:=(B0.cell (p:=⟨b,10,none⟩) hb).trans z2;have z3:=(B0.cell (p:=⟨b,11,none⟩) hb).trans z3;have hb0:b<w0.heap.size:=Nat.lt_trans hb (lt_of_block E0);obtain⟨p0,p1,p2,p3,pf⟩:=box4 E0;have hc1:=istru_c x a0 c0 1 w0;rw[exN_out] at hc1;go_wp2_with fail;refine hc1.mono ?_;rintro u w2 ⟨rfl,b2⟩;have B2:Below bx w w2:=B0.trans (b2.mono (Nat.le_of_lt (lt_of_block E0)));have E2:=(b2.block bx (lt_of_block E0)).trans E0;have Z2:=(b2.block (bx+1) (lt_of_block Z0)).trans Z0;have x0:=(b2.cell (p:=⟨b,0,none⟩) hb0).trans x0;have x1:=(b2.cell (p:=⟨b,1,none⟩) hb0).trans x1;have x2:=(b2.cell (p:=⟨b,2,none⟩) hb0).trans x2;have x3:=(b2.cell (p:=⟨b,3,none⟩) hb0).trans x3;have y0:=(b2.cell (p:=⟨b,4,none⟩) hb0).trans y0;have y1:=(b2.cell (p:=⟨b,5,none⟩) hb0).trans y1;have y2:=(b2.cell (p:=⟨b,6,none⟩) hb0).trans y2;have y3:=(b2.cell (p:=⟨b,7,none⟩) hb0).trans y3;have z0:=(b2.cell (p:=⟨b,8,none⟩) hb0).trans z0;have z1:=(b2.cell (p:=⟨b,9,none⟩) hb0).trans z1;have z2:=(b2.cell (p:=⟨b,10,none⟩) hb0).trans z2;have z3:=(b2.cell (p:=⟨b,11,none⟩) hb0).trans z3;have hb2:b<w2.heap.size:=Nat.lt_of_lt_of_le hb0 b2.size;clear B0 E0 Z0 hc1 b2 p0 p1 p2 p3 pf hb0;cases h1:isE x 2 1 with
 | true =>
  have hans:chE e x y z=y:=by simp[chE,h1]
  have HU:=hU4 (.int .i64 y.k) (.int .i64 y.n) (stv y.nm) (.slice a1 y.kids.len c1) Z2 B2;obtain⟨q0,q1,q2,q3,qf⟩:=box4 Z2;obtain⟨p0,p1,p2,p3,pf⟩:=box4 E2;clear Z2 E2;go_wp2;obtain⟨wz,hwz,EZ,BZ⟩:=HU.out;rw[<-hwz];obtain⟨v0,v1,v2,v3,-⟩:=box4 EZ;rw[HB.out] at BZ;exact bodyPost_ret (v:=exN y a1 c1) (by simp[results,Tryz.results113,go_sem,v0,v1,v2,v3,exN]) rfl ⟨a1,c1,by rw[hans],by rw[hans];exact SY,BZ⟩
 | false =>
  have hc2:=istru_c x a0 c0 0 w2;rw[exN_out] at hc2;obtain⟨p0,p1,p2,p3,pf⟩:=box4 E2;go_wp2_with fail;refine hc2.mono ?_;rintro u w3 ⟨rfl,b3⟩;have B3:Below bx w w3:=B2.trans (b3.mono (Nat.le_of_lt (lt_of_block E2)));have lE:=lt_of_block E2;have lZ:=lt_of_block Z2;have E2:=(b3.block bx lE).trans E2;have Z2:=(b3.block (bx+1) lZ).trans Z2;have z0:=(b3.cell (p:=⟨b,8,none⟩) hb2).trans z0;have z1:=(b3.cell (p:=⟨b,9,none⟩) hb2).trans z1;have z2:=(b3.cell (p:=⟨b,10,none⟩) hb2).trans z2;have z3:=(b3.cell (p:=⟨b,11,none⟩) hb2).trans z3;clear hc2 b3 B2 p0 p1 p2 p3 pf x0 x1 x2 x3 y0 y1 y2 y3 lE lZ;cases h2:isE x 2 0 with
  | true =>
   have hans:chE e x y z=z:=by simp[chE,h1,h2]
   have HU:=hU4 (.int .i64 z.k) (.int .i64 z.n) (stv z.nm) (.slice a2 z.kids.len c2) Z2 B3;obtain⟨q0,q1,q2,q3,qf⟩:=box4 Z2;obtain⟨p0,p1,p2,p3,pf⟩:=box4 E2;clear Z2 E2;go_wp2;obtain⟨wz,hwz,EZ,BZ⟩:=HU.out;rw[<-hwz];obtain⟨v0,v1,v2,v3,-⟩:=box4 EZ;rw[HB.out] at BZ;exact bodyPost_ret (v:=exN z a2 c2) (by simp[results,Tryz.results113,go_sem,v0,v1,v2,v3,exN]) rfl ⟨a2,c2,by rw[hans],by rw[hans];exact SZ,BZ⟩
  | false =>
   have hans:chE e x y z=e:=by simp[chE,h1,h2]
   have HU:=hU4 (.int .i64 e.k) (.int .i64 e.n) (stv e.nm) (.slice (some ⟨b,0,none⟩) 3 cap) Z2 B3;obtain⟨q0,q1,q2,q3,qf⟩:=box4 Z2;obtain⟨p0,p1,p2,p3,pf⟩:=box4 E2;clear Z2 E2;go_wp2;obtain⟨wz,hwz,EZ,BZ⟩:=HU.out;rw[<-hwz];obtain⟨v0,v1,v2,v3,-⟩:=box4 EZ;rw[HB.out] at BZ;exact bodyPost_ret (v:=exN e (some ⟨b,0,none⟩) cap) (by simp[results,Tryz.results113,go_sem,v0,v1,v2,v3,exN,HL.out]) rfl ⟨(some ⟨b,0,none⟩),cap,by rw[hans],by rw[hans];exact S,BZ⟩
end Go.Proofs.YtaihhnlfcndecaaGreatDoor

/- A sequence comes to what its own items do, and the first one with a flag is told: the walk of the law's own function. -/
import Derived.Test.YtijgilkpmkgbjaaPiece
import Derived.Deep.LoopGhost
import Derived.Deep.CutRange
import Derived.Deep.DeepCutAuto
namespace Go.Proofs.Ytijgilkpmkgbjaa
open Go.ChangeShapes Go.WideShapes Go.ChangeAt Go.RowKit
set_option linter.unusedVariables false

/-- What all come to so far, in its block; nothing else has turned. -/
def PW (w5 : World) (o4 o7 : Nat → Nat) (b : Nat) (c : Nat) (s l m : Int) (f : Nat) (wx : World) : Prop :=
  Blk wx o7 6001 b (.cells #[.int .i64 c, .int .i64 s, .int .i64 l, .int .i64 m, .int .i64 f] 60 (0, 0)) ∧ Step (fun k => k = 6001) w5 o4 wx o7
theorem PW.drew {w5 wx : World} {o4 o7 : Nat → Nat} {b c : Nat} {s l m : Int} {f : Nat} (h : PW w5 o4 o7 b c s l m f wx) : PW w5 o4 o7 b c s l m f wx.drew := ⟨h.1, h.2.drew⟩
theorem PW.drewN {w5 wx : World} {o4 o7 : Nat → Nat} {b c : Nat} {s l m : Int} {f : Nat} (h : PW w5 o4 o7 b c s l m f wx) (j : Nat) : PW w5 o4 o7 b c s l m f (wx.drewN j) := ⟨h.1, h.2.drewN j⟩
theorem PW.c {w5 wx : World} {o4 o7 : Nat → Nat} {b c : Nat} {s l m : Int} {f : Nat} (h : PW w5 o4 o7 b c s l m f wx) (u : Nat) : PW w5 o4 o7 b u s l m f (wx.setCell ⟨b, 0, none⟩ (.int .i64 (u : Nat))) := ⟨h.1.set 0 _, h.2.setCell _ _ h.1.2⟩
theorem PW.s {w5 wx : World} {o4 o7 : Nat → Nat} {b c : Nat} {s l m : Int} {f : Nat} (h : PW w5 o4 o7 b c s l m f wx) (u : Int) : PW w5 o4 o7 b c u l m f (wx.setCell ⟨b, 1, none⟩ (.int .i64 u)) := ⟨h.1.set 1 _, h.2.setCell _ _ h.1.2⟩
theorem PW.l {w5 wx : World} {o4 o7 : Nat → Nat} {b c : Nat} {s l m : Int} {f : Nat} (h : PW w5 o4 o7 b c s l m f wx) (u : Int) : PW w5 o4 o7 b c s u m f (wx.setCell ⟨b, 2, none⟩ (.int .i64 u)) := ⟨h.1.set 2 _, h.2.setCell _ _ h.1.2⟩
theorem PW.m {w5 wx : World} {o4 o7 : Nat → Nat} {b c : Nat} {s l m : Int} {f : Nat} (h : PW w5 o4 o7 b c s l m f wx) (u : Int) : PW w5 o4 o7 b c s l u f (wx.setCell ⟨b, 3, none⟩ (.int .i64 u)) := ⟨h.1.set 3 _, h.2.setCell _ _ h.1.2⟩
theorem PW.f {w5 wx : World} {o4 o7 : Nat → Nat} {b c : Nat} {s l m : Int} {f : Nat} (h : PW w5 o4 o7 b c s l m f wx) (u : Nat) : PW w5 o4 o7 b c s l m u (wx.setCell ⟨b, 4, none⟩ (.int .i64 (u : Nat))) := ⟨h.1.set 4 _, h.2.setCell _ _ h.1.2⟩

set_option maxRecDepth 100000 in
set_option maxHeartbeats 8000000 in
theorem piece_any (w : World) (o : Nat → Nat) (lb la li p room n : Nat) (free : List Nat) (it : Nat → It) (S : Nat → List Nat) (ys : List Nat) (f : Nat) (vl vo : Value) (F : Fo w o 1 p room n free it S) (h0 : 0 < ys.length) (hf : f ≤ 255) (hlive : ∀ k ∈ ys, Live n free k) (hseq : ∀ k ∈ ys, S k = ys)
    (hvl : Vw w o la vl ys) (hvo : VwI w o li vo (ys.map it)) (hla : ¬ PL lb la) (hli : ¬ PL lb li) (hlb : ¬ FL 1 lb) (hlb2 : lb ≠ 6000 ∧ lb ≠ 6001) :
    Calls Try.prog 18 #[.pointer (some ⟨p, 0, none⟩), vl, vo, .int .i64 f] w fun e w' => e = .returned (.bool true) ∧ ∃ o', Fo w' o' 1 p room n free it S ∧ Step (PL lb) w o w' o' := by
  have hlen : ys.length ≤ 1024 := by
    have h1 := F.len (hlive _ (List.getElem_mem h0))
    rw [hseq _ (List.getElem_mem h0)] at h1
    exact h1
  have hlast : ys.length - 1 < ys.length := by omega
  have HV : Hid (Vw w o la vl ys) := hvl
  have HVO : Hid (VwI w o li vo (ys.map it)) := hvo
  obtain ⟨g, off, cap, rfl, hc, hmx, hg, hgl, hcell⟩ := hvl.cells h0
  have HC : Hid (∀ wx ox, Step (PL lb) w o wx ox → ∀ j (hj : j < ys.length), wx.cell? ⟨g, off + j, none⟩ = some (.int .i64 (ys[j] : Nat))) := fun wx ox s j hj => by
    rw [s.cell hgl (by rw [hg]; exact hla)]; exact hcell j hj
  have c1 := hcell (ys.length - 1) hlast
  have hsum := sumInF w o 1 p room n free it S ys[ys.length - 1] F (hlive _ (List.getElem_mem _))
  rw [hseq _ (List.getElem_mem _)] at hsum
  obtain ⟨rf, hrf, hflag⟩ := flag_piece p room n free it S ys ys[0] f hf (hlive _ (List.getElem_mem _)) (hseq _ (List.getElem_mem _)) (fun k hk => by have := (hlive k hk).1; omega)
  have HFLAG : Hid _ := hflag
  have HRF : Hid _ := hrf
  have HALL : Hid (∀ wx ox, Fo wx ox 1 p room n free it S → Calls Try.prog 42 #[.pointer (some ⟨p, 0, none⟩), .int .i64 (ys[0] : Nat)] wx fun e w' => ∃ va o', e = .returned (.tuple #[va, .int .i64 0]) ∧ Vw w' o' lb va ys ∧ Fo w' o' 1 p room n free it S ∧ Step (fun k => FL 1 k ∨ k = lb) wx ox w' o') := fun wx ox Fx => by
    refine (allInF wx ox 1 p room n lb free it S ys[0] Fx (hlive _ (List.getElem_mem _)) hlb).mono ?_
    rintro e w' ⟨va, o', rfl, R, F', S'⟩
    rw [hseq _ (List.getElem_mem _)] at R
    exact ⟨va, o', rfl, R.vw, F', S'⟩
  obtain ⟨fi, hfi⟩ : ∃ fi, fi = firstF it f ys := ⟨_, rfl⟩
  obtain ⟨G, hG⟩ : ∃ G, G = agg (ys.map it) := ⟨_, rfl⟩
  obtain ⟨y0, hy0⟩ : ∃ y, y = ys[0] := ⟨_, rfl⟩
  obtain ⟨yl, hyl⟩ : ∃ y, y = ys[ys.length - 1] := ⟨_, rfl⟩
  rw [← hG] at hsum
  rw [← hyl] at hsum c1
  rw [← hy0, ← hfi] at HFLAG
  rw [← hfi] at HRF
  rw [← hy0] at HALL
  have HC0 : Hid (∀ wx ox, Step (PL lb) w o wx ox → wx.cell? ⟨g, off, none⟩ = some (.int .i64 (y0 : Nat))) := fun wx ox s => by rw [hy0]; exact HC.out wx ox s 0 h0
  have HFI : Hid (fi = firstF it f ys ∧ G = agg (ys.map it)) := ⟨hfi, hG⟩
  unfold aggV at hsum
  unfold maxLen at hmx
  have e1 : ((ys.length - 1 : Nat) : Int) = (ys.length : Int) - 1 := by omega
  clear hcell hflag hrf hfi hG hy0 hyl hvo
  go_enter Try.func18, Try.ntmps18
  go_wp2_with fail
  refine hsum.mono ?_
  rintro e w1 ⟨rfl, o1, F1, S1⟩
  have n2 := newStep (fun _ => False) w1 o1 6000 (.cells #[.int .i64 G.count, .int .i64 G.sum, .int .i64 G.least, .int .i64 G.most, .int .i64 G.flags] 60)
  have A2 : Blk (w1.alloc (.cells #[.int .i64 G.count, .int .i64 G.sum, .int .i64 G.least, .int .i64 G.most, .int .i64 G.flags] 60)) (newLab w1 o1 6000) 6000 w1.heap.size (.cells #[.int .i64 G.count, .int .i64 G.sum, .int .i64 G.least, .int .i64 G.most, .int .i64 G.flags] 60 (0, 0)) := ⟨heap_alloc_new w1 _, newLab_new (Nat.le_refl _)⟩
  have F2 := F1.quiet n2
  have S2 : Step (PL lb) w o _ _ := (S1.mono (J := PL lb) fun k hk => Or.inl hk).trans (n2.mono (J := PL lb) fun _ h => h.elim)
  have y1 := HC0.out _ _ S2
  clear hsum F1 S1 n2 c1
  go_wp2_with fail
  refine (HFLAG.out _ _ F2).mono ?_
  rintro e w3 ⟨rfl, o3, F3, S3⟩
  have S3' := S2.trans (S3.mono (J := PL lb) fun k hk => Or.inl hk)
  have A3 := A2.step S3 (fun h => by have := h.2; omega)
  have y2 := HC0.out _ _ S3'
  clear F2 S2 A2 S3 y1 HFLAG
  go_wp2_with fail
  refine (HALL.out _ _ F3).mono ?_
  rintro e w4 ⟨va, o4, rfl, V4, F4, S4⟩
  have S4' := S3'.trans (S4.mono (J := PL lb) fun k hk => hk.elim Or.inl (fun e => Or.inr (Or.inl e)))
  have A4 := A3.step S4 (fun h => h.elim (fun h => by have := h.2; omega) (fun e => hlb2.1 e.symm))
  have hsm := same_true w4 o4 o4 lb la va _ ys V4 (HV.out.step S4' hla) (by omega)
  clear F3 S3' A3 S4 y2 HALL V4
  go_wp2_with fail
  refine hsm.mono ?_
  rintro e w5 ⟨rfl, m5, hw5⟩
  have q5 : Step (fun _ => False) w4 o4 w5 o4 := by rw [hw5]; exact (Step.refl _ w4 o4).drewN m5
  have F5 := F4.quiet q5
  have A5 := A4.step q5 id
  have S5' := S4'.trans (q5.mono (J := PL lb) fun _ h => h.elim)
  have n6 := newStep (fun k => k = 6001) w5 o4 6001 (.cells #[.int .i64 0, .int .i64 0, .int .i64 0, .int .i64 0, .int .i64 0] 60)
  have START : PieceS w5 o4 w5.heap.size (ys.map it) 0 (w5.alloc (.cells #[.int .i64 0, .int .i64 0, .int .i64 0, .int .i64 0, .int .i64 0] 60)) := ⟨_, ⟨heap_alloc_new w5 _, newLab_new (Nat.le_refl _)⟩, n6⟩
  have hmaps : (ys.map it).length = ys.length := by simp
  have hvo4 := HVO.out.step S5' hli
  obtain ⟨go, offo, capo, hvo_e, hco, hmo, hgo, hglo, hcello⟩ := hvo4
  subst hvo_e
  rw [hmaps] at hco
  unfold maxLen at hmo
  have hmay : ∀ k ∈ ys, (it k).may := fun k hk => F5.may (hlive k hk)
  have HMAY : Hid (∀ k ∈ ys, (it k).may ∧ k ≠ 0) := fun k hk => ⟨hmay k hk, by have := (hlive k hk).1; omega⟩
  have HCO : Hid (∀ wx ox, Step (fun k => k = 6001) w5 o4 wx ox → ∀ j (hj : j < (ys.map it).length), wx.cell? ⟨go, offo + j * 3, none⟩ = some (.int .i64 (ys.map it)[j].v) ∧ wx.cell? ⟨go, offo + j * 3 + 1, none⟩ = some (.bool (ys.map it)[j].c) ∧ wx.cell? ⟨go, offo + j * 3 + 2, none⟩ = some (.int .i64 (ys.map it)[j].f)) := fun wx ox s j hj => by
    have hc' := fun k => s.cell hglo (by rw [hgo]; exact fun e => hli (Or.inr (Or.inr (Or.inr e)))) k
    obtain ⟨c0, c1, c2⟩ := hcello j hj
    exact ⟨(hc' _).trans c0, (hc' _).trans c1, (hc' _).trans c2⟩
  have HCL : Hid (∀ wx ox, Step (fun k => k = 6001) w5 o4 wx ox → ∀ j (hj : j < ys.length), wx.cell? ⟨g, off + j, none⟩ = some (.int .i64 (ys[j] : Nat))) := fun wx ox s j hj => HC.out wx ox (S5'.trans (s.mono fun k hk => Or.inr (Or.inr (Or.inr hk)))) j hj
  clear hsm q5 hcello hmay n6 hw5 F4 A4 S4'
  go_wp2
  obtain ⟨b, hb⟩ : ∃ b, b = w5.heap.size := ⟨_, rfl⟩
  rw [← hb] at START ⊢
  clear hb
  go_loopg [17, 18] ys.length (fun gh v u wr => ∃ k : Nat, u = .int .i64 (k : Nat) ∧ k ≤ ys.length ∧ gh = ys.length - k ∧ v = .int .i64 (firstF it f (ys.take k) : Nat) ∧ PieceS w5 o4 b (ys.map it) k wr)
  case atStart => exact ⟨0, by go_num, by omega, by omega, rfl, START⟩
  case round =>
    clear START
    obtain ⟨k, rfl, hk, rfl, rfl, o7, B7, s7⟩ := hrel
    by_cases hlt : k < ys.length
    · have hkm : k < (ys.map it).length := by rw [hmaps]; exact hlt
      have hx := HMAY.out ys[k] (List.getElem_mem _)
      have etk := take_agg hkm
      have eik : (ys.map it)[k] = it ys[k] := by simp
      rw [eik] at etk
      have HM : Hid (∀ wx ox, Step (fun k => k = 6001) w5 o4 wx ox → wx.cell? ⟨go, offo + k * 3, none⟩ = some (.int .i64 (it ys[k]).v) ∧ wx.cell? ⟨go, offo + k * 3 + 1, none⟩ = some (.bool (it ys[k]).c) ∧ wx.cell? ⟨go, offo + k * 3 + 2, none⟩ = some (.int .i64 (it ys[k]).f) ∧ wx.cell? ⟨g, off + k, none⟩ = some (.int .i64 (ys[k] : Nat))) := fun wx ox s => by
        obtain ⟨m0, m1, m2⟩ := HCO.out _ _ s k hkm
        rw [eik] at m0 m1 m2
        exact ⟨m0, m1, m2, HCL.out _ _ s k hlt⟩
      have bW := agg_bd ((ys.map it).take k) (fun x hx => by obtain ⟨j, hj, rfl⟩ := List.mem_map.1 (List.mem_of_mem_take hx); exact (HMAY.out j hj).1)
      have blen : ((ys.map it).take k).length ≤ 1024 := by simp; omega
      have efk : firstF it f (ys.take (k + 1)) = if firstF it f (ys.take k) = 0 ∧ (it ys[k]).f &&& f ≠ 0 then ys[k] else firstF it f (ys.take k) := by
        rw [List.take_succ_eq_append_getElem hlt]; exact firstF_snoc (fun j hj => (HMAY.out j (List.mem_of_mem_take hj)).2)
      obtain ⟨y, hy⟩ : ∃ y, y = ys[k] := ⟨_, rfl⟩
      rw [← hy] at HM hx etk efk
      obtain ⟨x, hxe⟩ : ∃ x, x = it y := ⟨_, rfl⟩
      rw [← hxe] at HM hx etk efk
      obtain ⟨Wk, hWk⟩ : ∃ W, W = agg ((ys.map it).take k) := ⟨_, rfl⟩
      rw [← hWk] at B7 etk bW
      obtain ⟨fk, hfk⟩ : ∃ fk, fk = firstF it f (ys.take k) := ⟨_, rfl⟩
      rw [← hfk] at efk ⊢
      have hn0 : Wk.count = 0 → Wk.sum = 0 ∧ Wk.least = 0 ∧ Wk.most = 0 := by rw [hWk]; exact agg_none _
      have HN0 : Hid (Wk.count = 0 → Wk.sum = 0 ∧ Wk.least = 0 ∧ Wk.most = 0) := hn0
      have HTK : Hid (agg ((ys.map it).take (k + 1)) = Wk.both x.one) := etk
      obtain ⟨qf, hqf⟩ : ∃ q, q = x.f &&& f := ⟨_, rfl⟩
      rw [← hqf] at efk
      obtain ⟨fn, hfn⟩ : ∃ fn, fn = if fk = 0 ∧ qf ≠ 0 then y else fk := ⟨_, rfl⟩
      rw [← hfn] at efk
      have HFN : Hid (fn = if fk = 0 ∧ qf ≠ 0 then y else fk) := hfn
      have HFK : Hid (firstF it f (ys.take (k + 1)) = fn) := efk
      obtain ⟨⟨hx1, hx2, hx3⟩, hyn⟩ := hx
      obtain ⟨w1', w2', w3', w4', w5', w6', w7', w8'⟩ := bW
      have hor := or_nat Wk.flags x.f w8' hx3
      have hand := and_nat x.f f hx3 hf
      rw [← hqf] at hand
      have NX : Hid (∀ (wx : World) (Wn : Ag), PW w5 o4 o7 b Wn.count Wn.sum Wn.least Wn.most Wn.flags wx → Wn = Wk.both x.one → PieceS w5 o4 b (ys.map it) (k + 1) wx) := fun wx Wn hB hW => ⟨o7, by rw [HTK.out, ← hW]; exact hB.1, hB.2⟩
      have wc1 : IntKind.i64.wrap ((Wk.count : Int) + 1) = (Wk.count : Int) + 1 := by rw [IntKind.wrap_i64]; omega
      have ws1 : IntKind.i64.wrap (Wk.sum + x.v) = Wk.sum + x.v := by rw [IntKind.wrap_i64]; omega
      have hkl : (k : Int) < (ys.length : Int) := by omega
      have hbgo : b ≠ go := fun e => hli (by rw [← hgo, ← s7.lab go hglo, ← e, B7.2]; exact Or.inr (Or.inr (Or.inr rfl)))
      have hgob := hbgo.symm
      have hbg : b ≠ g := fun e => hla (by rw [← hg, ← S5'.lab g hgl, ← s7.lab g (Nat.lt_of_lt_of_le hgl S5'.size), ← e, B7.2]; exact Or.inr (Or.inr (Or.inr rfl)))
      have hgb := hbg.symm
      have P7 : PW w5 o4 o7 b Wk.count Wk.sum Wk.least Wk.most Wk.flags wr := ⟨B7, s7⟩
      have HP7 : Hid (PW w5 o4 o7 b Wk.count Wk.sum Wk.least Wk.most Wk.flags wr) := P7
      have P8 := P7.f (Wk.flags ||| x.f)
      have HP8 : Hid (PW w5 o4 o7 b Wk.count Wk.sum Wk.least Wk.most (Wk.flags ||| x.f) (wr.setCell ⟨b, 4, none⟩ (.int .i64 ((Wk.flags ||| x.f : Nat) : Int)))) := P8
      clear P8 P7 hn0 hy hxe hWk hfk etk efk eik hkm hqf HTK hfn HMAY HCO HCL HC HC0 HV HVO HRF HFI
      obtain ⟨m0, m1, m2, m3⟩ := HM.out _ _ s7
      obtain ⟨d0, d1, d2, d3, d4, df⟩ := B7.cells5
      go_upto_region 10 with fail
      go_cut [66] (fun _ wx => PW w5 o4 o7 b Wk.count Wk.sum Wk.least Wk.most (Wk.flags ||| x.f) wx)
      case first =>
        go_region
        all_goals
          go_wp2
          go_meet
          first | exact HP8.out | exact HP8.out.drew | exact HP8.out.drew.drew
      case rest =>
        clear HP8 m0 m1 m2 m3 d0 d1 d2 d3 d4 df B7 s7
        have HP : Hid (PW w5 o4 o7 b Wk.count Wk.sum Wk.least Wk.most (Wk.flags ||| x.f) wc) := hcut
        obtain ⟨m0, m1, m2, m3⟩ := HM.out _ _ hcut.2
        obtain ⟨d0, d1, d2, d3, d4, df⟩ := hcut.1.cells5
        clear hcut
        go_upto_region 11 with fail
        go_cut [78] (fun s wx => s = .bool (decide (fk = 0 ∧ qf ≠ 0)) ∧ PW w5 o4 o7 b Wk.count Wk.sum Wk.least Wk.most (Wk.flags ||| x.f) wx)
        case first =>
          by_cases hfz : fk = 0
          · have z1 : ((fk : Int) == 0) = true := by simp [hfz]
            by_cases hqz : qf = 0
            · have z2 : ((qf : Int) != 0) = false := by simp [hqz]
              go_wp2
              go_meet
              exact ⟨by simp [hqz], HP.out⟩
            · have z2 : ((qf : Int) != 0) = true := by simp only [bne_iff_ne, ne_eq]; omega
              go_wp2
              go_meet
              exact ⟨by simp [hqz, hfz], HP.out⟩
          · have z1 : ((fk : Int) == 0) = false := by simp only [beq_eq_false_iff_ne, ne_eq]; omega
            go_wp2
            go_meet
            exact ⟨by simp [hfz], HP.out⟩
        case rest =>
          clear HP m0 m1 m2 m3 d0 d1 d2 d3 d4 df
          obtain ⟨rfl, hcut⟩ := hcut
          have HP : Hid (PW w5 o4 o7 b Wk.count Wk.sum Wk.least Wk.most (Wk.flags ||| x.f) wc) := hcut
          obtain ⟨m0, m1, m2, m3⟩ := HM.out _ _ hcut.2
          obtain ⟨d0, d1, d2, d3, d4, df⟩ := hcut.1.cells5
          clear hcut
          go_upto_if 78 with fail
          go_cut [17] (fun s wx => s = .int .i64 (fn : Nat) ∧ PW w5 o4 o7 b Wk.count Wk.sum Wk.least Wk.most (Wk.flags ||| x.f) wx)
          case first =>
            by_cases hz : fk = 0 ∧ qf ≠ 0
            · have z1 : decide (fk = 0 ∧ qf ≠ 0) = true := decide_eq_true hz
              go_wp2
              go_meet
              exact ⟨by rw [HFN.out, if_pos hz], HP.out⟩
            · have z1 : decide (fk = 0 ∧ qf ≠ 0) = false := decide_eq_false hz
              go_wp2
              go_meet
              exact ⟨by rw [HFN.out, if_neg hz], HP.out⟩
          case rest =>
            clear HP m0 m1 m2 m3 d0 d1 d2 d3 d4 df
            obtain ⟨rfl, hcut⟩ := hcut
            have HP : Hid (PW w5 o4 o7 b Wk.count Wk.sum Wk.least Wk.most (Wk.flags ||| x.f) wc) := hcut
            obtain ⟨m0, m1, m2, m3⟩ := HM.out _ _ hcut.2
            obtain ⟨d0, d1, d2, d3, d4, df⟩ := hcut.1.cells5
            clear hcut
            by_cases hxc : x.c = true
            · rw [hxc] at m1
              go_upto_region 14 with fail
              go_cut [101] (fun s wx => s = .bool (decide (Wk.count = 0 ∨ x.v < Wk.least)) ∧ PW w5 o4 o7 b Wk.count Wk.sum Wk.least Wk.most (Wk.flags ||| x.f) wx)
              case first =>
                by_cases hwc : Wk.count = 0
                · have v1 : ((Wk.count : Int) == 0) = true := by simp [hwc]
                  go_quiet (fail)
                  go_wp2
                  go_meet
                  exact ⟨by simp [hwc], by first | exact HP.out | exact HP.out.drew | exact HP.out.drewN _⟩
                · have v1 : ((Wk.count : Int) == 0) = false := by simp only [beq_eq_false_iff_ne, ne_eq]; omega
                  by_cases hvl : x.v < Wk.least
                  · go_quiet (fail)
                    go_wp2
                    go_meet
                    exact ⟨by simp [hvl], by first | exact HP.out | exact HP.out.drew | exact HP.out.drewN _⟩
                  · go_quiet (fail)
                    go_wp2
                    go_meet
                    exact ⟨by simp [hvl, hwc], by first | exact HP.out | exact HP.out.drew | exact HP.out.drewN _⟩
              case rest =>
                clear HP m0 m1 m2 m3 d0 d1 d2 d3 d4 df
                obtain ⟨rfl, hcut⟩ := hcut
                have HP : Hid (PW w5 o4 o7 b Wk.count Wk.sum Wk.least Wk.most (Wk.flags ||| x.f) wc) := hcut
                obtain ⟨m0, m1, m2, m3⟩ := HM.out _ _ hcut.2
                obtain ⟨d0, d1, d2, d3, d4, df⟩ := hcut.1.cells5
                rw [hxc] at m1
                clear hcut
                obtain ⟨LN, hLN⟩ : ∃ l, l = if Wk.count = 0 ∨ x.v < Wk.least then x.v else Wk.least := ⟨_, rfl⟩
                have HLN : Hid (LN = if Wk.count = 0 ∨ x.v < Wk.least then x.v else Wk.least) := hLN
                clear hLN
                go_upto_if 101 with fail
                go_cut [107] (fun _ wx => PW w5 o4 o7 b Wk.count Wk.sum LN Wk.most (Wk.flags ||| x.f) wx)
                case first =>
                  by_cases hz : Wk.count = 0 ∨ x.v < Wk.least
                  · have z1 : decide (Wk.count = 0 ∨ x.v < Wk.least) = true := decide_eq_true hz
                    have hl := HLN.out
                    rw [if_pos hz] at hl
                    have G := HP.out.l x.v
                    rw [← hl] at G
                    have HG : Hid (PW w5 o4 o7 b Wk.count Wk.sum LN Wk.most (Wk.flags ||| x.f) (wc.setCell ⟨b, 2, none⟩ (.int .i64 x.v))) := by rw [← hl]; exact G
                    clear G hl
                    go_wp2
                    go_meet
                    exact HG.out
                  · have z1 : decide (Wk.count = 0 ∨ x.v < Wk.least) = false := decide_eq_false hz
                    have hl := HLN.out
                    rw [if_neg hz] at hl
                    have HG : Hid (PW w5 o4 o7 b Wk.count Wk.sum LN Wk.most (Wk.flags ||| x.f) wc) := by rw [hl]; exact HP.out
                    clear hl
                    go_wp2
                    go_meet
                    exact HG.out
                case rest =>
                  clear HP m0 m1 m2 m3 d0 d1 d2 d3 d4 df
                  have HP : Hid (PW w5 o4 o7 b Wk.count Wk.sum LN Wk.most (Wk.flags ||| x.f) wc) := hcut
                  obtain ⟨m0, m1, m2, m3⟩ := HM.out _ _ hcut.2
                  obtain ⟨d0, d1, d2, d3, d4, df⟩ := hcut.1.cells5
                  rw [hxc] at m1
                  clear hcut
                  go_upto_region 16 with fail
                  go_cut [120] (fun s wx => s = .bool (decide (Wk.count = 0 ∨ Wk.most < x.v)) ∧ PW w5 o4 o7 b Wk.count Wk.sum LN Wk.most (Wk.flags ||| x.f) wx)
                  case first =>
                    by_cases hwc : Wk.count = 0
                    · have v1 : ((Wk.count : Int) == 0) = true := by simp [hwc]
                      go_quiet (fail)
                      go_wp2
                      go_meet
                      exact ⟨by simp [hwc], by first | exact HP.out | exact HP.out.drew | exact HP.out.drewN _⟩
                    · have v1 : ((Wk.count : Int) == 0) = false := by simp only [beq_eq_false_iff_ne, ne_eq]; omega
                      by_cases hvl : Wk.most < x.v
                      · go_quiet (fail)
                        go_wp2
                        go_meet
                        exact ⟨by simp [hvl], by first | exact HP.out | exact HP.out.drew | exact HP.out.drewN _⟩
                      · go_quiet (fail)
                        go_wp2
                        go_meet
                        exact ⟨by simp [hvl, hwc], by first | exact HP.out | exact HP.out.drew | exact HP.out.drewN _⟩
                  case rest =>
                    clear HP m0 m1 m2 m3 d0 d1 d2 d3 d4 df
                    obtain ⟨rfl, hcut⟩ := hcut
                    have HP : Hid (PW w5 o4 o7 b Wk.count Wk.sum LN Wk.most (Wk.flags ||| x.f) wc) := hcut
                    obtain ⟨m0, m1, m2, m3⟩ := HM.out _ _ hcut.2
                    obtain ⟨d0, d1, d2, d3, d4, df⟩ := hcut.1.cells5
                    rw [hxc] at m1
                    clear hcut
                    obtain ⟨MN, hMN⟩ : ∃ l, l = if Wk.count = 0 ∨ Wk.most < x.v then x.v else Wk.most := ⟨_, rfl⟩
                    have HMN : Hid (MN = if Wk.count = 0 ∨ Wk.most < x.v then x.v else Wk.most) := hMN
                    clear hMN
                    go_upto_if 120 with fail
                    go_cut [126] (fun _ wx => PW w5 o4 o7 b Wk.count Wk.sum LN MN (Wk.flags ||| x.f) wx)
                    case first =>
                      by_cases hz : Wk.count = 0 ∨ Wk.most < x.v
                      · have z1 : decide (Wk.count = 0 ∨ Wk.most < x.v) = true := decide_eq_true hz
                        have hl := HMN.out
                        rw [if_pos hz] at hl
                        have HG : Hid (PW w5 o4 o7 b Wk.count Wk.sum LN MN (Wk.flags ||| x.f) (wc.setCell ⟨b, 3, none⟩ (.int .i64 x.v))) := by rw [hl]; exact HP.out.m x.v
                        clear hl
                        go_wp2
                        go_meet
                        exact HG.out
                      · have z1 : decide (Wk.count = 0 ∨ Wk.most < x.v) = false := decide_eq_false hz
                        have hl := HMN.out
                        rw [if_neg hz] at hl
                        have HG : Hid (PW w5 o4 o7 b Wk.count Wk.sum LN MN (Wk.flags ||| x.f) wc) := by rw [hl]; exact HP.out
                        clear hl
                        go_wp2
                        go_meet
                        exact HG.out
                    case rest =>
                      clear HP m0 m1 m2 m3 d0 d1 d2 d3 d4 df
                      have HP : Hid (PW w5 o4 o7 b Wk.count Wk.sum LN MN (Wk.flags ||| x.f) wc) := hcut
                      obtain ⟨m0, m1, m2, m3⟩ := HM.out _ _ hcut.2
                      obtain ⟨d0, d1, d2, d3, d4, df⟩ := hcut.1.cells5
                      rw [hxc] at m1
                      clear hcut
                      have HEND : Hid (PieceS w5 o4 b (ys.map it) (k + 1) ((wc.setCell ⟨b, 0, none⟩ (.int .i64 ((Wk.count + 1 : Nat) : Int))).setCell ⟨b, 1, none⟩ (.int .i64 (Wk.sum + x.v)))) := by
                        refine NX.out _ (⟨Wk.count + 1, Wk.sum + x.v, LN, MN, Wk.flags ||| x.f⟩ : Ag) ((HP.out.c (Wk.count + 1)).s (Wk.sum + x.v)) ?_
                        have h1 := HLN.out
                        have h2 := HMN.out
                        apply Ag.ext2
                        · simp [both_count, It.one, hxc]
                        · simp [both_sum, It.one, hxc]
                        · simp only [both_least, It.one, hxc, if_true, h1]
                          by_cases h9 : Wk.count = 0
                          · simp [h9]
                          · simp only [h9, false_or, if_false]
                            split <;> simp <;> omega
                        · simp only [both_most, It.one, hxc, if_true, h2]
                          by_cases h9 : Wk.count = 0
                          · simp [h9]
                          · simp only [h9, false_or, if_false]
                            split <;> simp <;> omega
                        · simp [both_flags, It.one, hxc]
                      have HEND2 : Hid (∀ j, PieceS w5 o4 b (ys.map it) (k + 1) (((wc.setCell ⟨b, 0, none⟩ (.int .i64 ((Wk.count + 1 : Nat) : Int))).setCell ⟨b, 1, none⟩ (.int .i64 (Wk.sum + x.v))).drewN j)) := fun j => by
                        obtain ⟨oo, hB, hS⟩ := HEND.out
                        exact ⟨oo, hB, hS.drewN j⟩
                      clear HP NX HLN HMN
                      go_wp2
                      go_region
                      all_goals
                        go_wp2
                        go_roundg (ys.length - (k + 1))
                        case measure => omega
                        case rel =>
                          refine ⟨k + 1, by go_num, by omega, rfl, by rw [HFK.out], ?_⟩
                          first | exact HEND.out | exact HEND2.out 1 | exact HEND2.out 2
            · have hxc : x.c = false := by simpa using hxc
              rw [hxc] at m1
              go_wp2
              go_roundg (ys.length - (k + 1))
              case measure => omega
              case rel =>
                refine ⟨k + 1, by go_num, by omega, rfl, by rw [HFK.out], NX.out _ (⟨Wk.count, Wk.sum, Wk.least, Wk.most, Wk.flags ||| x.f⟩ : Ag) HP.out ?_⟩
                apply Ag.ext2 <;> simp only [both_count, both_sum, both_least, both_most, both_flags, It.one, hxc] <;> (first | (by_cases h9 : Wk.count = 0; (have := HN0.out h9; simp [h9, this]); (simp [h9])) | simp)
    · obtain rfl : k = ys.length := by omega
      have A7 := A5.step s7 (by omega)
      have F7 := F5.step s7 (fun k hk => by have := hk.2; omega)
      have S7 : Step (PL lb) w o wr o7 := S5'.trans (s7.mono fun k hk => Or.inr (Or.inr (Or.inr hk)))
      have etk : (ys.map it).take ys.length = ys.map it := by rw [← hmaps]; exact List.take_length ..
      rw [etk, ← HFI.out.2] at B7
      have efk : firstF it f (ys.take ys.length) = fi := by rw [List.take_length, HFI.out.1]
      rw [efk]
      obtain ⟨a0, a1, a2, a3, a4, af⟩ := A7.cells5
      obtain ⟨d0, d1, d2, d3, d4, df⟩ := B7.cells5
      have hkl : ¬ (ys.length : Int) < (ys.length : Int) := by omega
      have HR : Hid (∃ o', Fo wr o' 1 p room n free it S ∧ Step (PL lb) w o wr o') := ⟨o7, F7, S7⟩
      clear A7 F7 S7 etk efk HMAY HCO HCL HC HC0 HV HVO HFI s7 B7 F5 A5 S5'
      rcases HRF.out with ⟨hz, rfl⟩ | ⟨hz, rfl⟩
      · have z1 : ((fi : Int) != 0) = false := by simp [hz]
        go_wp2
        go_ret
        exact ⟨rfl, HR.out⟩
      · have z1 : ((fi : Int) != 0) = true := by simp only [bne_iff_ne, ne_eq]; omega
        go_wp2
        go_ret
        exact ⟨rfl, HR.out⟩

end Go.Proofs.Ytijgilkpmkgbjaa

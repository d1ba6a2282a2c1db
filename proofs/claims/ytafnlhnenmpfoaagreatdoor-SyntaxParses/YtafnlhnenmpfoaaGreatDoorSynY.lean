/- Numbers and truth values as texts. -/
import Derived.Test.YtafnlhnenmpfoaaGreatDoorSynV
import Derived.Lib.AppendStr
import Derived.RegionTactic
import Derived.ChangeAlike
import Derived.BigRegion
import Derived.Shelf.Strconv.Itoa3
import Derived.Lib.ItoaLen
import Derived.Lib.SmallJoins
import Derived.Lib.Small
import Derived.Lib.AppendIntMem
namespace Go.Proofs.YtafnlhnenmpfoaaGreatDoor
open Go.ChangeShapes Go.WideShapes Go.ChangeAt Go.RowKit
set_option linter.unusedVariables false
set_option linter.unusedSimpArgs false

/-- The parts of trees in a row are such as may be; c of them so far. -/
def hFs : Fs → Bool → Nat → Option Nat
  | ⟨none⟩, _, c => some c
  | ⟨some ⟨k, n, nm, a, ks, r⟩⟩, first, c =>
    if isSetK k != first then none
    else if 2000 < c + 1 then none
    else if numB k n && namB k nm && kidB k n ks.len then
      match hFs ks (k == 21) (c + 1) with
      | none => none
      | some c' => hFs r false c'
    else none
def hE (e : Ex) (c : Nat) : Option Nat := if 2000 < c + 1 then none else if numB e.k e.n && namB e.k e.nm && kidB e.k e.n e.kids.len then hFs e.kids (e.k == 21) (c + 1) else none
def Fs.size : Fs → Nat
  | ⟨none⟩ => 0
  | ⟨some ⟨_, _, _, _, ks, r⟩⟩ => ks.size + r.size + 1
/-- Names are no longer than a text may be. -/
def Fs.short : Fs → Prop
  | ⟨none⟩ => True
  | ⟨some ⟨_, _, nm, _, ks, r⟩⟩ => nm.length ≤ maxLen ∧ ks.len ≤ 1000000000 ∧ ks.short ∧ r.short
theorem Fs.size_app : ∀ (x y : Fs), (x.app y).size = x.size + y.size
  | ⟨none⟩, y => by simp [Fs.app, Fs.size]
  | ⟨some ⟨k, n, nm, a, ks, r⟩⟩, y => by simp only [Fs.app, Fs.size]; rw [Fs.size_app r y]; omega
theorem Fs.app_short : ∀ {x y : Fs}, (x.app y).short → y.short
  | ⟨none⟩, y, h => h
  | ⟨some ⟨k, n, nm, a, ks, r⟩⟩, y, h => Fs.app_short h.2.2.2
theorem hFs_cons (k n : Int) (nm : List UInt8) (a : Int) (ks r : Fs) (first : Bool) (c : Nat) : hFs (.cons k n nm a ks r) first c = if isSetK k != first then none else (hE ⟨k, n, nm, a, ks⟩ c).bind fun c' => hFs r false c' := by
  show (if isSetK k != first then none else if 2000 < c + 1 then none else if numB k n && namB k nm && kidB k n ks.len then (match hFs ks (k == 21) (c + 1) with | none => none | some c' => hFs r false c') else none) = _
  unfold hE
  simp only
  split
  · rfl
  · split
    · rfl
    · split
      · cases hFs ks (k == 21) (c + 1) <;> rfl
      · rfl
theorem hFs_le : ∀ (f : Fs) (b : Bool) (c c' : Nat), c ≤ 2000 → hFs f b c = some c' → c' ≤ 2000
  | ⟨none⟩, b, c, c', h, e => by
    unfold hFs at e
    injection e with e
    omega
  | ⟨some ⟨k, n, nm, a, ks, r⟩⟩, b, c, c', h, e => by
    unfold hFs at e
    split at e
    · cases e
    · split at e
      · cases e
      · split at e
        · split at e
          · cases e
          · rename_i c2 h2
            exact hFs_le r false c2 c' (hFs_le ks _ (c + 1) c2 (by omega) h2) e
        · cases e
theorem hE_le {e : Ex} {c c' : Nat} (h : hE e c = some c') : c' ≤ 2000 := by
  unfold hE at h
  split at h
  · cases h
  · split at h
    · exact hFs_le _ _ _ _ (by omega) h
    · cases h
theorem Fs.app_assoc : ∀ (x y z : Fs), (x.app y).app z = x.app (y.app z)
  | ⟨none⟩, y, z => rfl
  | ⟨some ⟨k, n, nm, a, ks, r⟩⟩, y, z => by simp only [Fs.app]; rw [Fs.app_assoc r y z]
theorem Fc.split {w : World} {P : Nat → Prop} : ∀ {x y : Fs} {zs : List Value}, Fc w P (x.app y) zs → ∃ zx zy, zs = zx ++ zy ∧ Fc w P x zx ∧ Fc w P y zy
  | ⟨none⟩, y, zs, h => ⟨[], zs, rfl, rfl, h⟩
  | ⟨some ⟨k, n, nm, a, ks, r⟩⟩, y, zs, h => by
    obtain ⟨ao, cap, ys, rfl, h1, h2⟩ := h
    obtain ⟨zx, zy, rfl, h3, h4⟩ := Fc.split h2
    exact ⟨_, zy, rfl, ⟨ao, cap, zx, rfl, h1, h3⟩, h4⟩
/-- Blocks other than one. -/
abbrev Nf (fb : Nat) : Nat → Prop := fun b => b ≠ fb
theorem Sl.keepF {fb : Nat} {w w' : World} {f : Fs} {ao : Option Addr} (h : Sl w (Nf fb) f ao) (k : Keep fb w w') : Sl w' (Nf fb) f ao := h.mono (fun i hp hl => k.block i hl hp) k.size (fun _ h _ => h)
/-- What one of the kids is. -/
theorem Sl.kid {fb : Nat} {w : World} {x r : Fs} {k n : Int} {nm : List UInt8} {a : Int} {ks : Fs} {ao : Option Addr} (h : Sl w (Nf fb) (x.app (.cons k n nm a ks r)) ao) : ∃ b off ak ck, ao = some ⟨b, off, none⟩ ∧ w.cell? ⟨b, off + x.len * 5, none⟩ = some (.int .i64 k) ∧ w.cell? ⟨b, off + x.len * 5 + 1, none⟩ = some (.int .i64 n) ∧ w.cell? ⟨b, off + x.len * 5 + 2, none⟩ = some (stv nm) ∧ w.cell? ⟨b, off + x.len * 5 + 3, none⟩ = some (.slice ak ks.len ck) ∧ w.cell? ⟨b, off + x.len * 5 + 4, none⟩ = some (.int .i64 a) ∧ Sl w (Nf fb) ks ak := by
  rcases h with h | ⟨b, off, zs, rfl, hp, hlt, hc, hf⟩
  · cases x using Fs.on with
    | nil => cases h
    | cons k n nm a ks r => cases h
  · obtain ⟨zx, zy, rfl, h3, h4⟩ := Fc.split hf
    have hl := h3.len
    obtain ⟨ak, ck, ys, rfl, h5, h6⟩ := h4
    have hc' : ∀ j u, (.int .i64 k :: .int .i64 n :: stv nm :: .slice ak ks.len ck :: .int .i64 a :: ys : List Value)[j]? = some u → w.cell? ⟨b, off + x.len * 5 + j, none⟩ = some u := fun j u hu => by
      have := hc (x.len * 5 + j) u (by rw [List.getElem?_append_right (by omega), hl, Nat.add_sub_cancel_left]; exact hu)
      rw [Nat.add_assoc]
      exact this
    exact ⟨b, off, ak, ck, rfl, hc' 0 _ rfl, hc' 1 _ rfl, hc' 2 _ rfl, hc' 3 _ rfl, hc' 4 _ rfl, h5⟩
/-- The tables, and the words of the language. -/
structure Fix (w : World) : Prop where
  wd : Wd w
  tb : OpW w ∧ ClW w ∧ QnW w
theorem Fix.below {w w' : World} (h : Fix w) (b : Below w.heap.size w w') : Fix w' := ⟨h.wd.below b, h.tb.1.below b, h.tb.2.1.below b, h.tb.2.2.below b⟩
/-- What lies fast stands while a block behind it is written. -/
def FixK (fb : Nat) (w : World) : Prop := Fix w ∧ 1 < fb ∧ 3 < fb ∧ 0 < fb ∧ 2 < fb
theorem FixK.keep {fb : Nat} {w w' : World} (h : FixK fb w) (k : Keep fb w w') : FixK fb w' := by
  have l0 := h.1.wd.lt
  have l1 := h.1.tb.1.lt
  have l2 := h.1.tb.2.1.lt
  have l3 := h.1.tb.2.2.lt
  obtain ⟨⟨⟨t0, f0, h0⟩, ⟨t1, f1, h1⟩, ⟨t2, f2, h2⟩, ⟨t3, f3, h3⟩⟩, g0, g1, g2, g3⟩ := h
  exact ⟨⟨⟨t0, f0, (k.block _ l0 (Nat.ne_of_lt g0)).trans h0⟩, ⟨t1, f1, (k.block _ l1 (Nat.ne_of_lt g1)).trans h1⟩, ⟨t2, f2, (k.block _ l2 (Nat.ne_of_lt g2)).trans h2⟩, ⟨t3, f3, (k.block _ l3 (Nat.ne_of_lt g3)).trans h3⟩⟩, g0, g1, g2, g3⟩
theorem Blk.cells1' {w : World} {b : Nat} {a0 : Value} {t : TypeId} (h : w.heap[b]? = some (.cells #[a0] t (0, 0))) : w.cell? ⟨b, 0, none⟩ = some a0 ∧ ∀ j, w.frozen? ⟨b, j, none⟩ = false := by
  refine ⟨?_, fun j => frozen_of_row w b j _ t h⟩
  simp [cell_of_row w b _ _ t (0, 0) h]
/-- What holds answers and leaves. -/
def PostH (fb : Nat) (w : World) (res : Option Nat) (x : Ending) (w' : World) : Prop :=
  match res with
  | none => x = .returned (.bool false) ∧ Keep fb w w'
  | some c => x = .returned (.bool true) ∧ w'.heap[fb]? = some (.cells #[.int .i64 (c : Nat)] 100 (0, 0)) ∧ Keep fb w w'
def HoldsOk (N : Nat) : Prop := ∀ (e : Ex) (ao : Option Addr) (cap fb c : Nat) (w : World), e.kids.size < N → e.nm.length ≤ maxLen → e.kids.short → e.kids.len ≤ 1000000000 → c ≤ 2000 → FixK fb w → Sl w (Nf fb) e.kids ao → w.heap[fb]? = some (.cells #[.int .i64 (c : Nat)] 100 (0, 0)) →
  Calls Tryz.prog 61 #[.pointer (some ⟨fb, 0, none⟩), exV e ao cap] w (PostH fb w (hE e c))
set_option maxRecDepth 100000 in
set_option maxHeartbeats 2000000 in
theorem holds_step {N : Nat} (IH : HoldsOk N) : HoldsOk (N + 1) := by
  intro e ao cap fb c w hN hnm hsh hlen hc FX S F
  obtain ⟨W, hW⟩ : ∃ W, W = hE e c := ⟨_, rfl⟩
  rw [← hW]
  have HW : Hid (W = hE e c) := hW
  have hfb := lt_of_block F
  have K0 : Keep fb w (w.alloc (.cells #[.int .i64 e.k, .int .i64 e.n, stv e.nm, .slice ao e.kids.len cap, .int .i64 e.a] 25)) := (Keep.refl fb w).alloc _
  have K1 := K0.set ⟨fb, 0, none⟩ (.int .i64 ((c : Int) + 1)) (.inr rfl)
  have F0 := (Below.heap_alloc w (.cells #[.int .i64 e.k, .int .i64 e.n, stv e.nm, .slice ao e.kids.len cap, .int .i64 e.a] 25) _ hfb).trans F
  have F1 := (Blk.set (o := fun _ => 0) (i := 0) ⟨F0, rfl⟩ 0 (.int .i64 ((c : Int) + 1))).1
  have E0 : (w.alloc (.cells #[.int .i64 e.k, .int .i64 e.n, stv e.nm, .slice ao e.kids.len cap, .int .i64 e.a] 25)).heap[w.heap.size]? = some (.cells #[.int .i64 e.k, .int .i64 e.n, stv e.nm, .slice ao e.kids.len cap, .int .i64 e.a] 25) := heap_alloc_new w _
  have E1 := (heap_setCell_other _ ⟨fb, 0, none⟩ w.heap.size (.int .i64 ((c : Int) + 1)) (show w.heap.size ≠ fb by omega)).trans E0
  obtain ⟨g0, gf⟩ := Blk.cells1' F0
  clear hW
  rw [exV_out]
  go_enter Tryz.func61, Tryz.ntmps61
  go_upto_region 1 with fail
  generalize w.alloc (.cells #[.int .i64 e.k, .int .i64 e.n, stv e.nm, .slice ao e.kids.len cap, .int .i64 e.a] 25) = w0 at *
  generalize w.heap.size = bx at *
  go_upto_region 2 with fail
  generalize w0.setCell ⟨fb, 0, none⟩ (.int .i64 ((c : Int) + 1)) = w1 at *
  clear E0 F0 K0 g0 gf F
  have S1 := S.keepF K1
  have FX1 := FX.keep K1
  obtain ⟨p0, p1, p2, p3, p4, pf⟩ := box5 E1
  obtain ⟨g0, gf⟩ := Blk.cells1' F1
  by_cases hbig : 2000 < c + 1
  · have hbI : (2000 : Int) < (c : Int) + 1 := by omega
    have FIN : Hid (W = none) := by show W = _; rw [HW.out]; simp only [hE, hbig, if_true]
    clear HW hbig FX1 S1
    go_wp2
    go_ret
    rw [FIN.out]
    exact ⟨rfl, K1⟩
  have hbI : ¬ (2000 : Int) < (c : Int) + 1 := by omega
  have c2 := number_r2 e.k e.n e.nm ao e.kids.len cap e.a w1 FX1.1.tb.2.1 FX1.1.tb.2.2
  go_wp2_with fail
  refine c2.mono ?_
  rintro x w2 ⟨rfl, b2⟩
  clear c2 p0 p1 p2 p3 p4 pf g0 gf
  have k2 : Keep fb w1 w2 := Keep.ofBelow b2
  have K2 := K1.trans k2
  have E2 := k2.blk E1 (by omega)
  have F2 := (b2.block _ (lt_of_block F1)).trans F1
  have S2 := S1.keepF k2
  have FX2 := FX1.keep k2
  obtain ⟨p0, p1, p2, p3, p4, pf⟩ := box5 E2
  clear b2 k2 K1 E1 F1 S1 FX1
  cases hnu : numB e.k e.n with
  | false =>
    have FIN : Hid (W = none) := by show W = _; rw [HW.out]; simp [hE, hbig, hnu]
    clear HW hbig hnu
    go_wp2
    go_ret
    rw [FIN.out]
    exact ⟨rfl, K2⟩
  | true =>
  have c3 := name_r2 e.k e.n e.nm ao e.kids.len cap e.a w2 FX2.1.wd hnm
  go_wp2_with fail
  refine c3.mono ?_
  rintro x w3 ⟨rfl, b3⟩
  clear c3 p0 p1 p2 p3 p4 pf
  have k3 : Keep fb w2 w3 := Keep.ofBelow b3
  have K3 := K2.trans k3
  have E3 := k3.blk E2 (by omega)
  have F3 := (b3.block _ (lt_of_block F2)).trans F2
  have S3 := S2.keepF k3
  have FX3 := FX2.keep k3
  obtain ⟨p0, p1, p2, p3, p4, pf⟩ := box5 E3
  clear b3 k3 K2 E2 F2 S2 FX2
  cases hna : namB e.k e.nm with
  | false =>
    have FIN : Hid (W = none) := by show W = _; rw [HW.out]; simp [hE, hbig, hnu, hna]
    clear HW hbig hnu hna
    go_wp2
    go_ret
    rw [FIN.out]
    exact ⟨rfl, K3⟩
  | true =>
  have c4 := kids_r e.k e.n e.nm ao e.kids.len cap e.a w3 FX3.1.tb.2.1 FX3.1.tb.1
  go_wp2_with fail
  refine c4.mono ?_
  rintro x w4 ⟨rfl, b4⟩
  clear c4 p0 p1 p2 p3 p4 pf
  have k4 : Keep fb w3 w4 := Keep.ofBelow b4
  have K4 := K3.trans k4
  have E4 := k4.blk E3 (by omega)
  have F4 := (b4.block _ (lt_of_block F3)).trans F3
  have S4 := S3.keepF k4
  have FX4 := FX3.keep k4
  obtain ⟨p0, p1, p2, p3, p4, pf⟩ := box5 E4
  clear b4 k4 K3 E3 F3 S3 FX3
  cases hki : kidB e.k e.n e.kids.len with
  | false =>
    have FIN : Hid (W = none) := by show W = _; rw [HW.out]; simp [hE, hbig, hnu, hna, hki]
    clear HW hbig hnu hna hki
    go_wp2
    go_ret
    rw [FIN.out]
    exact ⟨rfl, K4⟩
  | true =>
  have HA : Hid (hFs e.kids (e.k == 21) (c + 1) = W) := by show _ = W; rw [HW.out]; simp [hE, hbig, hnu, hna, hki]
  have ec : (c : Int) + 1 = ((c + 1 : Nat) : Int) := by omega
  rw [ec] at F4
  clear HW hnu hna hki ec hbI
  obtain ⟨q, hq⟩ : ∃ q, q = (e.k == 21) := ⟨_, rfl⟩
  rw [← hq] at HA
  go_wp2
  go_loopw [38] (fun v wr => ∃ (done r : Fs) (c' : Nat), Hid (e.kids = done.app r) ∧ v = .int .i64 (done.len : Nat) ∧ c' ≤ 2000 ∧ Hid (hFs r (q && done.len == 0) c' = W) ∧ wr.heap[fb]? = some (.cells #[.int .i64 (c' : Nat)] 100 (0, 0)) ∧ wr.heap[bx]? = some (.cells #[.int .i64 e.k, .int .i64 e.n, stv e.nm, .slice ao e.kids.len cap, .int .i64 e.a] 25) ∧ Sl wr (Nf fb) e.kids ao ∧ Keep fb w wr) (fun v _ => e.kids.len - (intOf v).toNat)
  case atStart => exact ⟨.nil, e.kids, c + 1, rfl, by show _ = Value.int .i64 ((0 : Nat) : Int); rfl, by omega, by cases q <;> exact HA, F4, E4, S4, K4⟩
  case round =>
    clear F4 E4 S4 K4 FX4 HA p0 p1 p2 p3 p4 pf
    obtain ⟨done, r, c', hk, rfl, hc', HA, F5, E5, S5, K5⟩ := hrel
    have hlk : e.kids.len = done.len + r.len := by rw [hk.out, Fs.len_app]
    obtain ⟨p0, p1, p2, p3, p4, pf⟩ := box5 E5
    cases r using Fs.on with
    | nil =>
      have hl0 : ¬ (done.len : Int) < (e.kids.len : Int) := by simp only [Fs.len] at hlk; omega
      have FIN : Hid (W = some c') := by show W = _; rw [← HA.out]; rfl
      clear HA hlk
      go_wp2
      go_ret
      rw [FIN.out]
      exact ⟨rfl, F5, K5⟩
    | cons kk kn km ka kks kr =>
      have hl0 : (done.len : Int) < (e.kids.len : Int) := by simp only [Fs.len] at hlk; omega
      have hsz : e.kids.size = done.size + (kks.size + kr.size + 1) := by rw [hk.out, Fs.size_app]; rfl
      have hsk : (Fs.cons kk kn km ka kks kr).short := Fs.app_short (by rw [← hk.out]; exact hsh)
      have hlen2 : kks.len ≤ 1000000000 ∨ True := .inr trivial
      obtain ⟨b, off, ak, ck, hao, x0, x1, x2, x3, x4, SK⟩ := Sl.kid (by rw [← hk.out]; exact S5)
      subst hao
      have FX5 := FX.keep K5
      have k6 : Keep fb wr (wr.alloc (.cells #[.int .i64 kk, .int .i64 kn, stv km, .slice ak kks.len ck, .int .i64 ka] 25)) := (Keep.refl fb wr).alloc _
      have Y6 : (wr.alloc (.cells #[.int .i64 kk, .int .i64 kn, stv km, .slice ak kks.len ck, .int .i64 ka] 25)).heap[wr.heap.size]? = some (.cells #[.int .i64 kk, .int .i64 kn, stv km, .slice ak kks.len ck, .int .i64 ka] 25) := heap_alloc_new wr _
      have E6 := k6.blk E5 (by omega)
      have F6 := (Below.heap_alloc wr (.cells #[.int .i64 kk, .int .i64 kn, stv km, .slice ak kks.len ck, .int .i64 ka] 25) _ (lt_of_block F5)).trans F5
      have S6 := S5.keepF k6
      have SK6 := SK.keepF k6
      have FX6 := FX5.keep k6
      have K6 := K5.trans k6
      have hkb : fb < wr.heap.size := lt_of_block F5
      clear hlk
      go_upto_region 7 with fail
      generalize wr.alloc (.cells #[.int .i64 kk, .int .i64 kn, stv km, .slice ak kks.len ck, .int .i64 ka] 25) = w6 at *
      generalize wr.heap.size = bk at *
      clear x0 x1 x2 x3 x4 p0 p1 p2 p3 p4 pf k6 E5 F5 S5 SK FX5 K5
      obtain ⟨p0, p1, p2, p3, p4, pf⟩ := box5 E6
      obtain ⟨y0, y1, y2, y3, y4, yf⟩ := box5 Y6
      have c7 := isSet_r kk kn km ak kks.len ck ka w6
      have HQ : Hid (q = (e.k == 21)) := hq
      have HF : Hid (hFs (.cons kk kn km ka kks kr) (q && done.len == 0) c' = W) := HA
      clear HA hq
      go_cut [7] (fun v wx => v = .bool (q && done.len == 0) ∧ wx = w6)
      case first =>
        cases q with
        | false =>
          have hq0 : (e.k == 21) = false := HQ.out.symm
          clear HF c7
          go_wp2
          go_meet
          exact ⟨rfl, rfl⟩
        | true =>
          have hq0 : (e.k == 21) = true := HQ.out.symm
          by_cases hd : done.len = 0
          · have hd0 : ((done.len : Int) == 0) = true := by rw [beq_iff_eq]; omega
            have hd1 : (done.len == 0) = true := by rw [beq_iff_eq]; exact hd
            clear HF c7 hd
            go_wp2
            go_meet
            exact ⟨by rw [hd1]; rfl, rfl⟩
          · have hd0 : ((done.len : Int) == 0) = false := by rw [beq_eq_false_iff_ne]; omega
            have hd1 : (done.len == 0) = false := by rw [beq_eq_false_iff_ne]; exact hd
            clear HF c7 hd
            go_wp2
            go_meet
            exact ⟨by rw [hd1]; rfl, rfl⟩
      case rest =>
      obtain ⟨rfl, hw⟩ := hcut
      subst hw
      obtain ⟨fst, hfs⟩ : ∃ fst, fst = (q && done.len == 0) := ⟨_, rfl⟩
      rw [← hfs] at HF ⊢
      clear hfs HQ
      go_wp2_with fail
      refine c7.mono ?_
      rintro x w7 ⟨rfl, b7⟩
      have k7 : Keep fb _ w7 := Keep.ofBelow b7
      have K7 := K6.trans k7
      have E7 := k7.blk E6 (by omega)
      have Y7 := k7.blk Y6 (by omega)
      have F7 := (b7.block _ (lt_of_block F6)).trans F6
      have S7 := S6.keepF k7
      have SK7 := SK6.keepF k7
      have FX7 := FX6.keep k7
      clear c7 b7 k7 K6 E6 Y6 F6 S6 SK6 FX6 p0 p1 p2 p3 p4 pf y0 y1 y2 y3 y4 yf
      obtain ⟨y0, y1, y2, y3, y4, yf⟩ := box5 Y7
      by_cases hset : isSetK kk = fst
      · have HG : Hid (W = (hE ⟨kk, kn, km, ka, kks⟩ c').bind fun c'' => hFs kr false c'') := by show W = _; rw [← HF.out, hFs_cons]; simp [hset]
        have c8 := IH ⟨kk, kn, km, ka, kks⟩ ak ck fb c' w7 (by show kks.size < N; omega) hsk.1 hsk.2.2.1 hsk.2.1 hc' FX7 SK7 F7
        rw [exV_out] at c8
        simp only at c8
        clear HF
        subst hset
        generalize isSetK kk = sk at *
        cases sk
        all_goals
          go_wp2_with fail
          refine c8.mono ?_
          rintro x w8 hP
          clear c8
          cases hr8 : hE ⟨kk, kn, km, ka, kks⟩ c' with
          | none =>
            rw [hr8] at hP
            obtain ⟨rfl, k8⟩ := hP
            have KB := K7.trans k8
            have FIN : Hid (W = none) := by show W = _; rw [HG.out, hr8]; rfl
            clear HG hr8
            go_wp2
            go_ret
            rw [FIN.out]
            exact ⟨rfl, KB⟩
          | some c'' =>
            rw [hr8] at hP
            obtain ⟨rfl, F8, k8⟩ := hP
            have K8 := K7.trans k8
            have E8 := k8.blk E7 (by omega)
            have S8 := S7.keepF k8
            have hc8 := hE_le hr8
            have HA8 : Hid (hFs kr (q && (done.snoc ⟨kk, kn, km, ka, kks⟩).len == 0) c'' = W) := by
              show _ = W
              rw [HG.out, hr8, Fs.len_snoc, show (q && (done.len + 1) == 0) = false by simp]
              rfl
            have HK8 : Hid (e.kids = (done.snoc ⟨kk, kn, km, ka, kks⟩).app kr) := by
              show e.kids = _
              rw [hk.out]
              unfold Fs.snoc
              rw [Fs.app_assoc]
              rfl
            have hls : (done.snoc ⟨kk, kn, km, ka, kks⟩).len = done.len + 1 := Fs.len_snoc _ _
            clear HG hr8 k8 K7 E7 F7 S7 SK7 FX7 Y7 y0 y1 y2 y3 y4 yf
            go_wp2
            go_roundw
            case rel => (try ((repeat apply Exists.intro); refine ⟨?_, rfl⟩)); exact ⟨done.snoc ⟨kk, kn, km, ka, kks⟩, kr, c'', HK8, by rw [hls]; go_num, hc8, HA8, F8, E8, S8, K8⟩
            case measure => simp [intOf]; omega
      · have FIN : Hid (W = none) := by show W = _; rw [← HF.out, hFs_cons]; simp [hset]
        clear HF
        generalize isSetK kk = sk at *
        cases sk with
        | false =>
          cases fst with
          | false => exact absurd rfl hset
          | true =>
            go_wp2
            go_ret
            rw [FIN.out]
            exact ⟨rfl, K7⟩
        | true =>
          cases fst with
          | true => exact absurd rfl hset
          | false =>
            go_wp2
            go_ret
            rw [FIN.out]
            exact ⟨rfl, K7⟩
theorem holds_ok : ∀ N, HoldsOk N
  | 0 => fun e ao cap fb c w h => absurd h (Nat.not_lt_zero _)
  | N + 1 => holds_step (holds_ok N)
end Go.Proofs.YtafnlhnenmpfoaaGreatDoor
namespace Go.Proofs.YtafnlhnenmpfoaaGreatDoor
open Go.ChangeShapes Go.WideShapes Go.ChangeAt Go.RowKit
set_option linter.unusedVariables false
set_option linter.unusedSimpArgs false

/-- Where an append of a text leaves its row: in the old block, or in the newest one. -/
theorem run_append_where_str {P : Program} (w : World) (t u ty e : TypeId) (i : TypeInfo) (ht : P.underlying t = some (.slice e)) (hu : P.underlying u = some .string) (hi : P.info? e = some i) (hz : i.zero = some (.int .u8 0))
    (hsize : i.size = 1) (hby : i.bytes = 1) (v : Value) (n : Nat) (xs : List Value) (hown : w.ownsRow 0 e 1 v n xs) (s : ByteArray) (h63 : n + s.size ≤ maxLen) (hbytes : n + s.size ≤ 140737488355328) :
    ∃ v' w', (Builtin.append_ #[t, u] ty #[v, .string s]).run P w = .ok v' w' ∧ w'.ownsRow 0 e 1 v' (n + s.size) (xs ++ Go.Lib.strCells s) ∧ w.grownBy w' v.ownBlock ∧
      (v'.ownBlock = v.ownBlock ∨ ∃ k, v'.ownBlock = some k ∧ w.heap.size ≤ k) := by
  obtain ⟨v', w', hr, ho, hg, h4⟩ := Go.Lib.run_append_own_string (P := P) w 0 t u ty e i ht hu hi hz hsize hby v n xs hown s h63 hbytes (Nat.zero_le _)
  refine ⟨v', w', hr, ho, hg, ?_⟩
  have h63' : n + s.size ≤ 9223372036854775807 := by simp only [maxLen] at h63; omega
  rcases hown.2 with ⟨rfl, rfl⟩ | ⟨g, cap, cur, rfl, hbg, hgb, hnc, hcm, hcs, htake⟩
  · by_cases hm : s.size = 0
    · have h5 := h4.2 ⟨rfl, hm⟩
      subst h5
      exact .inl rfl
    · have hr' := run_append_nil_string (P := P) w t u ty e i (.int .u8 0) ht hu hi hz s (by omega) (by omega) (by rw [hby]; omega)
      rw [hr'] at hr
      injection hr with e1 e2
      subst e1
      exact .inr ⟨_, rfl, Nat.le_refl _⟩
  · by_cases hroom : n + s.size ≤ cap
    · have hcs' : cur.size = cap := by simpa using hcs
      have hr' := Go.Lib.run_append_room_string (P := P) w t u ty e i ht hu hi hsize g n cap cur hgb s hroom (by omega)
      rw [hr'] at hr
      injection hr with e1 e2
      subst e1
      exact .inl rfl
    · have holds : ∀ j u, xs[j]? = some u → w.cell? ((⟨g, 0, none⟩ : Addr).add j) = some u := hown.cells (g := g) rfl
      have hr' := Go.Lib.run_append_grow_string (P := P) w t u ty e i (.int .u8 0) ht hu hi hz ⟨g, 0, none⟩ n cap xs (by rw [hsize]; simpa using hown.1) holds s (by omega) (by omega) (by rw [hby]; exact growslice_fits (by omega) (by omega))
      rw [hr'] at hr
      injection hr with e1 e2
      subst e1
      exact .inr ⟨_, rfl, Nat.le_refl _⟩
/-- 'append(b, s...)' on an owned row, met in a walk. -/
theorem wpList_append_str {P : Program} {w : World} {ops : Array Oper} {rest : List Oper} {op : Oper} {a : Act} {Q : Exit → Act → World → Prop} (hgd : op.guard = none) (sl x : Operand) (t u : TypeId)
    (ho : op.op = .call { callee := .builtin .append, args := #[sl, x], argTypes := #[t, u] })
    (e : TypeId) (i : TypeInfo) (ht : P.underlying t = some (.slice e)) (hu : P.underlying u = some .string) (hi : P.info? e = some i) (hz : i.zero = some (.int .u8 0)) (hsize : i.size = 1) (hby : i.bytes = 1)
    (o : Nat → Nat) (lb : Nat) (v : Value) (n : Nat) (xs : List Value) (hs : a.eval sl = v) (hrow : Row w o lb e 1 v n xs) (s : ByteArray) (hx : a.eval x = .string s) (h63 : n + s.size ≤ maxLen) (hbytes : n + s.size ≤ 140737488355328)
    (h : ∀ v' w' o', Row w' o' lb e 1 v' (n + s.size) (xs ++ Go.Lib.strCells s) → Step (fun k => k = lb) w o w' o' → wpList P ops Q rest (a.put op.dst v') w') : wpList P ops Q (op :: rest) a w := by
  refine wpList_plain hgd fun _ hK => ?_
  obtain ⟨v', w', hr, h2, h3, h4⟩ := run_append_where_str (P := P) w t u op.type e i ht hu hi hz hsize hby v n xs hrow.1 s h63 hbytes
  unfold Oper.wp execOp
  simp only [ho, resolve, invoke, builtin, Sem.run_bind, Sem.run_pure, Result.andThen_ok, List.map_toArray, List.map_cons, List.map_nil, hs, hx, hr]
  have hst : Step (fun k => k = lb) w o w' (newLab w o lb) := Step.appended h3 rfl hrow.2
  have hrow' : Row w' (newLab w o lb) lb e 1 v' (n + s.size) (xs ++ Go.Lib.strCells s) := by
    refine ⟨h2, fun k hk => ?_⟩
    rcases h4 with h4 | ⟨k', h4, hk'⟩
    · rw [h4] at hk
      rw [newLab_old (hrow.lt hk)]
      exact hrow.2 k hk
    · rw [h4] at hk
      injection hk with hk
      subst hk
      exact newLab_new hk'
  exact hK _ _ (h v' w' _ hrow' hst)
/-- A text's bytes. -/
def byL (t : List UInt8) : List Value := t.map fun b => Value.int .u8 b.toNat
theorem byL_app (s t : List UInt8) : byL s ++ Go.Lib.strCells ⟨t.toArray⟩ = byL (s ++ t) := by simp [byL, Go.Lib.strCells]
theorem size_mk (t : List UInt8) : (ByteArray.mk t.toArray).size = t.length := by simp [ByteArray.size]
/-- The writer in memory: the text, what is open, how much at most; quantifiers likewise. -/
def Wr (w : World) (o : Nat → Nat) (wb : Nat) (t : List UInt8) (a m b n : Nat) : Prop :=
  ∃ v, Blk w o 1 wb (.cells #[v, .int .i64 (a : Nat), .int .i64 (m : Nat), .int .i64 (b : Nat), .int .i64 (n : Nat)] 105 (0, 0)) ∧ Row w o 2 5 1 v t.length (byL t)
abbrev I12 : Nat → Prop := fun k => k = 1 ∨ k = 2
theorem Wr.lt {w : World} {o : Nat → Nat} {wb : Nat} {t : List UInt8} {a m b n : Nat} (h : Wr w o wb t a m b n) : wb < w.heap.size := by
  obtain ⟨v, h1, _⟩ := h
  exact h1.lt
/-- What leaves the writer alone. -/
theorem Wr.step {I : Nat → Prop} {w w' : World} {o o' : Nat → Nat} {wb : Nat} {t : List UInt8} {a m b n : Nat} (h : Wr w o wb t a m b n) (s : Step I w o w' o') (h1 : ¬ I 1) (h2 : ¬ I 2) : Wr w' o' wb t a m b n := by
  obtain ⟨v, hb, hr⟩ := h
  exact ⟨v, hb.step s h1, hr.step s h2⟩
theorem infoU8 : (Tryz.prog.info? 5).map (fun i => (i.zero, i.size, i.bytes)) = some (some (.int .u8 0), 1, 1) := by kernel_rfl
/-- What a call of the writer's leaves. -/
def PostW (w : World) (o : Nat → Nat) (wb : Nat) (t : List UInt8) (a m b n : Nat) (e : Ending) (w' : World) : Prop :=
  e = .returned (.tuple #[]) ∧ ∃ o', Wr w' o' wb t a m b n ∧ Step I12 w o w' o'
set_option maxRecDepth 100000 in
theorem lay_r {w : World} {o : Nat → Nat} {wb : Nat} {t : List UInt8} {a m b n : Nat} (s : List UInt8) (h : Wr w o wb t a m b n) (hs : t.length + s.length ≤ 100000000) :
    Calls Tryz.prog 105 #[.pointer (some ⟨wb, 0, none⟩), stv s] w (PostW w o wb (t ++ s) a m b n) := by
  obtain ⟨v, hb, hr⟩ := h
  obtain ⟨c0, c1, c2, c3, c4, cf⟩ := Blk.cells5 hb
  obtain ⟨ii, hii, hz0, hz1, hz2⟩ := info_parts infoU8
  have hsz := size_mk s
  go_enter Tryz.func105, Tryz.ntmps105
  go_wp2_with (first | (at_builtin; refine wpList_append_str rfl (.tmp 8) (.tmp 9) 88 9 rfl 5 ii Tryz.underlying88 Tryz.underlying9 hii hz0 hz1 hz2 o 2 v t.length (byL t) rfl hr ⟨s.toArray⟩ rfl ?c1 ?c2 ?_) | go_in)
  case c1 => unfold maxLen; omega
  case c2 => omega
  intro v' w' o' hr' hst
  obtain ⟨ao', cap', rfl⟩ := hr'.form
  have hb' := hb.step hst (by decide)
  obtain ⟨d0, d1, d2, d3, d4, df⟩ := Blk.cells5 hb'
  have hb2 := hb'.set 0 (.slice ao' (t.length + s.length) cap')
  have s2 : Step I12 w' o' (w'.setCell ⟨wb, 0, none⟩ (.slice ao' (t.length + s.length) cap')) o' := setStep I12 w' o' ⟨wb, 0, none⟩ (.slice ao' (t.length + s.length) cap') (.inl hb'.2)
  have s3 := (hst.mono (fun k hk => (.inr hk : I12 k))).trans s2
  have s4 : Step (fun k => k = 1) w' o' (w'.setCell ⟨wb, 0, none⟩ (.slice ao' (t.length + s.length) cap')) o' := setStep _ w' o' ⟨wb, 0, none⟩ (.slice ao' (t.length + s.length) cap') hb'.2
  have hr2 := hr'.step s4 (by decide)
  rw [byL_app] at hr2
  have hr3 : Row (w'.setCell ⟨wb, 0, none⟩ (.slice ao' (t.length + s.length) cap')) o' 2 5 1 (.slice ao' (t.length + s.length) cap') (t ++ s).length (byL (t ++ s)) := by
    rw [List.length_append]
    exact hr2
  clear hr2 hst s2 s4 hr' hb hr c0 c1 c2 c3 c4 cf
  go_wp2
  go_end0
  exact ⟨rfl, o', ⟨_, hb2, hr3⟩, s3⟩
set_option maxRecDepth 100000 in
theorem dleave_r {w : World} {b j : Nat} (x : Nat) (h0 : w.cell? ⟨b, j, none⟩ = some (.int .i64 ((x + 1 : Nat) : Int))) (hf : ∀ j, w.frozen? ⟨b, j, none⟩ = false) (hx : x ≤ 1000000) :
    Calls Tryz.prog 130 #[.pointer (some ⟨b, j, none⟩)] w fun e w' => e = .returned (.tuple #[]) ∧ w' = w.setCell ⟨b, j, none⟩ (.int .i64 (x : Nat)) := by
  have e1 : ((x + 1 : Nat) : Int) = (x : Int) + 1 := by omega
  rw [e1] at h0
  go_enter Tryz.func130, Tryz.ntmps130
  go_wp2
  go_end0
  exact ⟨rfl, rfl⟩
set_option maxRecDepth 100000 in
theorem denter_r {w : World} {b j : Nat} (x y : Nat) (h0 : w.cell? ⟨b, j, none⟩ = some (.int .i64 (x : Nat))) (h1 : w.cell? ⟨b, j + 1, none⟩ = some (.int .i64 (y : Nat))) (hf : ∀ j, w.frozen? ⟨b, j, none⟩ = false) (hx : x ≤ 1000000) (hy : y ≤ 1000000) :
    Calls Tryz.prog 129 #[.pointer (some ⟨b, j, none⟩)] w fun e w' => e = .returned (.tuple #[]) ∧ w' = ((w.setCell ⟨b, j, none⟩ (.int .i64 ((x + 1 : Nat) : Int))).setCell ⟨b, j + 1, none⟩ (.int .i64 ((max y (x + 1) : Nat) : Int))).drew := by
  have h0' : (w.setCell ⟨b, j, none⟩ (.int .i64 ((x : Int) + 1))).cell? ⟨b, j, none⟩ = some (.int .i64 ((x : Int) + 1)) := World.cell?_setCell_same _ _ _ h0
  have h1' : (w.setCell ⟨b, j, none⟩ (.int .i64 ((x : Int) + 1))).cell? ⟨b, j + 1, none⟩ = some (.int .i64 (y : Nat)) := (World.cell?_setCell_other _ _ _ _ (by simp)).trans h1
  have hf' : ∀ k, (w.setCell ⟨b, j, none⟩ (.int .i64 ((x : Int) + 1))).frozen? ⟨b, k, none⟩ = false := fun k => (World.frozen?_setCell ..).trans (hf k)
  have e1 : ((x + 1 : Nat) : Int) = (x : Int) + 1 := by omega
  have e2 : ((max y (x + 1) : Nat) : Int) = max (y : Int) ((x : Int) + 1) := by omega
  rw [e1, e2]
  obtain ⟨w1, hw1⟩ : ∃ w1, w1 = w.setCell ⟨b, j, none⟩ (.int .i64 ((x : Int) + 1)) := ⟨_, rfl⟩
  rw [← hw1] at h0' h1' hf' ⊢
  go_enter Tryz.func129, Tryz.ntmps129
  go_upto_region 1 with fail
  rw [← hw1]
  go_region
  go_end0
  exact ⟨rfl, by rw [hw1]⟩
theorem Wr.drew {w : World} {o : Nat → Nat} {wb : Nat} {t : List UInt8} {a m b n : Nat} (h : Wr w o wb t a m b n) : Wr w.drew o wb t a m b n := h
theorem openE_r {w : World} {o : Nat → Nat} {wb : Nat} {t : List UInt8} {a m b n : Nat} (h : Wr w o wb t a m b n) (ha : a ≤ 1000000) (hm : m ≤ 1000000) :
    Calls Tryz.prog 129 #[.pointer (some ⟨wb, 1, none⟩)] w (PostW w o wb t (a + 1) (max m (a + 1)) b n) := by
  obtain ⟨v, hb, hr⟩ := h
  obtain ⟨c0, c1, c2, c3, c4, cf⟩ := Blk.cells5 hb
  refine (denter_r a m c1 c2 cf ha hm).mono ?_
  rintro e w' ⟨rfl, rfl⟩
  have s1 : Step (fun k => k = 1) w o (((w.setCell ⟨wb, 1, none⟩ (.int .i64 ((a + 1 : Nat) : Int))).setCell ⟨wb, 2, none⟩ (.int .i64 ((max m (a + 1) : Nat) : Int))).drew) o := (((Step.refl _ w o).setCell ⟨wb, 1, none⟩ _ hb.2).setCell ⟨wb, 2, none⟩ _ hb.2).drew
  exact ⟨rfl, o, ⟨v, (hb.set 1 _).set 2 _, hr.step s1 (by decide)⟩, s1.mono fun k hk => .inl hk⟩
theorem quantE_r {w : World} {o : Nat → Nat} {wb : Nat} {t : List UInt8} {a m b n : Nat} (h : Wr w o wb t a m b n) (ha : b ≤ 1000000) (hm : n ≤ 1000000) :
    Calls Tryz.prog 129 #[.pointer (some ⟨wb, 3, none⟩)] w (PostW w o wb t a m (b + 1) (max n (b + 1))) := by
  obtain ⟨v, hb, hr⟩ := h
  obtain ⟨c0, c1, c2, c3, c4, cf⟩ := Blk.cells5 hb
  refine (denter_r b n c3 c4 cf ha hm).mono ?_
  rintro e w' ⟨rfl, rfl⟩
  have s1 : Step (fun k => k = 1) w o (((w.setCell ⟨wb, 3, none⟩ (.int .i64 ((b + 1 : Nat) : Int))).setCell ⟨wb, 4, none⟩ (.int .i64 ((max n (b + 1) : Nat) : Int))).drew) o := (((Step.refl _ w o).setCell ⟨wb, 3, none⟩ _ hb.2).setCell ⟨wb, 4, none⟩ _ hb.2).drew
  exact ⟨rfl, o, ⟨v, (hb.set 3 _).set 4 _, hr.step s1 (by decide)⟩, s1.mono fun k hk => .inl hk⟩
theorem openL_r {w : World} {o : Nat → Nat} {wb : Nat} {t : List UInt8} {a m b n : Nat} (h : Wr w o wb t (a + 1) m b n) (ha : a ≤ 1000000) :
    Calls Tryz.prog 130 #[.pointer (some ⟨wb, 1, none⟩)] w (PostW w o wb t a m b n) := by
  obtain ⟨v, hb, hr⟩ := h
  obtain ⟨c0, c1, c2, c3, c4, cf⟩ := Blk.cells5 hb
  refine (dleave_r a c1 cf ha).mono ?_
  rintro e w' ⟨rfl, rfl⟩
  have s1 : Step (fun k => k = 1) w o (w.setCell ⟨wb, 1, none⟩ (.int .i64 (a : Nat))) o := (Step.refl _ w o).setCell ⟨wb, 1, none⟩ _ hb.2
  exact ⟨rfl, o, ⟨v, hb.set 1 _, hr.step s1 (by decide)⟩, s1.mono fun k hk => .inl hk⟩
theorem quantL_r {w : World} {o : Nat → Nat} {wb : Nat} {t : List UInt8} {a m b n : Nat} (h : Wr w o wb t a m (b + 1) n) (ha : b ≤ 1000000) :
    Calls Tryz.prog 130 #[.pointer (some ⟨wb, 3, none⟩)] w (PostW w o wb t a m b n) := by
  obtain ⟨v, hb, hr⟩ := h
  obtain ⟨c0, c1, c2, c3, c4, cf⟩ := Blk.cells5 hb
  refine (dleave_r b c3 cf ha).mono ?_
  rintro e w' ⟨rfl, rfl⟩
  have s1 : Step (fun k => k = 1) w o (w.setCell ⟨wb, 3, none⟩ (.int .i64 (b : Nat))) o := (Step.refl _ w o).setCell ⟨wb, 3, none⟩ _ hb.2
  exact ⟨rfl, o, ⟨v, hb.set 3 _, hr.step s1 (by decide)⟩, s1.mono fun k hk => .inl hk⟩
end Go.Proofs.YtafnlhnenmpfoaaGreatDoor
namespace Go.Proofs.YtafnlhnenmpfoaaGreatDoor
open Go.ChangeShapes Go.WideShapes Go.ChangeAt Go.RowKit Go.Shelf
set_option linter.unusedVariables false
set_option linter.unusedSimpArgs false

/-- The library's table of powers. -/
def P10 (w : World) : Prop := Go.Lib.TabIs Tryz.prog w "internal/strconv.uint64pow10" .u64 Go.Lib.pow10Tab
theorem P10.below {w w' : World} (h : P10 w) (b : Below w.heap.size w w') : P10 w' := var_below atoiLay.m17 h b
theorem itoa_r (n : Int) (h0 : 0 ≤ n) (h1 : n ≤ 9223372036854775807) (w : World) (hP : P10 w) :
    Calls Tryz.prog 131 #[.int .i64 n] w fun e w' => e = .returned (stv (Go.Lib.itoa n)) ∧ Below w.heap.size w w' := by
  refine (Any.strconv_Itoa (P := Tryz.prog) (ρ := atoiLay_ren) { atoiLay with } n (by omega) h1 w hP).mono ?_
  rintro e w' ⟨rfl, k, os, rfl⟩
  exact ⟨rfl, Go.Lib.below_grow _ w (Nat.le_refl _) k os⟩
theorem ifbool_r (b : Bool) (w : World) : Calls Tryz.prog 150 #[.bool b] w fun e w' => e = .returned (stv (Go.Lib.formatBool b)) ∧ w' = w := by
  cases b
  · go_enter Tryz.func150, Tryz.ntmps150
    go_wp2
    go_ret
    exact ⟨rfl, rfl⟩
  · go_enter Tryz.func150, Tryz.ntmps150
    go_wp2
    go_ret
    exact ⟨rfl, rfl⟩
theorem fbool_r (b : Bool) (w : World) : Calls Tryz.prog 132 #[.bool b] w fun e w' => e = .returned (stv (Go.Lib.formatBool b)) ∧ w' = w := by
  have c := ifbool_r b w
  go_enter Tryz.func132, Tryz.ntmps132
  go_wp2_with fail
  refine c.mono ?_
  rintro e w' ⟨rfl, rfl⟩
  go_wp2
  go_ret
  exact ⟨rfl, rfl⟩
end Go.Proofs.YtafnlhnenmpfoaaGreatDoor

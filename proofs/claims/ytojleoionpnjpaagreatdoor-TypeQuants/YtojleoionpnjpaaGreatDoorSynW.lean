/- A tree's parts are gone through. -/
import Derived.Test.YtojleoionpnjpaaGreatDoorSynG
namespace Go.Proofs.YtojleoionpnjpaaGreatDoor
open Go.ChangeShapes Go.WideShapes Go.ChangeAt Go.RowKit
set_option linter.unusedVariables false
set_option linter.unusedSimpArgs false

/-- The parts of trees in a row are such as may be; c of them so far. -/
def hFs : Fs → Bool → Nat → Option Nat
  | ⟨none⟩, _, c => some c
  | ⟨some ⟨k, n, nm, a, ks, r⟩⟩, first, c =>
    if isSetK k != first then none
    else if 2000 < c + 1 then none
    else if numB k n && namB k nm && kidB k n ks.len then
      match hFs ks (k == 21) (c + 1) with
      | none => none
      | some c' => hFs r false c'
    else none
def hE (e : Ex) (c : Nat) : Option Nat := if 2000 < c + 1 then none else if numB e.k e.n && namB e.k e.nm && kidB e.k e.n e.kids.len then hFs e.kids (e.k == 21) (c + 1) else none
def Fs.size : Fs → Nat
  | ⟨none⟩ => 0
  | ⟨some ⟨_, _, _, _, ks, r⟩⟩ => ks.size + r.size + 1
/-- Names are no longer than a text may be. -/
def Fs.short : Fs → Prop
  | ⟨none⟩ => True
  | ⟨some ⟨_, _, nm, _, ks, r⟩⟩ => nm.length ≤ maxLen ∧ ks.len ≤ 1000000000 ∧ ks.short ∧ r.short
theorem Fs.size_app : ∀ (x y : Fs), (x.app y).size = x.size + y.size
  | ⟨none⟩, y => by simp [Fs.app, Fs.size]
  | ⟨some ⟨k, n, nm, a, ks, r⟩⟩, y => by simp only [Fs.app, Fs.size]; rw [Fs.size_app r y]; omega
theorem Fs.app_short : ∀ {x y : Fs}, (x.app y).short → y.short
  | ⟨none⟩, y, h => h
  | ⟨some ⟨k, n, nm, a, ks, r⟩⟩, y, h => Fs.app_short h.2.2.2
theorem hFs_cons (k n : Int) (nm : List UInt8) (a : Int) (ks r : Fs) (first : Bool) (c : Nat) : hFs (.cons k n nm a ks r) first c = if isSetK k != first then none else (hE ⟨k, n, nm, a, ks⟩ c).bind fun c' => hFs r false c' := by
  show (if isSetK k != first then none else if 2000 < c + 1 then none else if numB k n && namB k nm && kidB k n ks.len then (match hFs ks (k == 21) (c + 1) with | none => none | some c' => hFs r false c') else none) = _
  unfold hE
  simp only
  split
  · rfl
  · split
    · rfl
    · split
      · cases hFs ks (k == 21) (c + 1) <;> rfl
      · rfl
theorem hFs_le : ∀ (f : Fs) (b : Bool) (c c' : Nat), c ≤ 2000 → hFs f b c = some c' → c' ≤ 2000
  | ⟨none⟩, b, c, c', h, e => by
    unfold hFs at e
    injection e with e
    omega
  | ⟨some ⟨k, n, nm, a, ks, r⟩⟩, b, c, c', h, e => by
    unfold hFs at e
    split at e
    · cases e
    · split at e
      · cases e
      · split at e
        · split at e
          · cases e
          · rename_i c2 h2
            exact hFs_le r false c2 c' (hFs_le ks _ (c + 1) c2 (by omega) h2) e
        · cases e
theorem hE_le {e : Ex} {c c' : Nat} (h : hE e c = some c') : c' ≤ 2000 := by
  unfold hE at h
  split at h
  · cases h
  · split at h
    · exact hFs_le _ _ _ _ (by omega) h
    · cases h
theorem Fs.app_assoc : ∀ (x y z : Fs), (x.app y).app z = x.app (y.app z)
  | ⟨none⟩, y, z => rfl
  | ⟨some ⟨k, n, nm, a, ks, r⟩⟩, y, z => by simp only [Fs.app]; rw [Fs.app_assoc r y z]
theorem Fc.split {w : World} {P : Nat → Prop} : ∀ {x y : Fs} {zs : List Value}, Fc w P (x.app y) zs → ∃ zx zy, zs = zx ++ zy ∧ Fc w P x zx ∧ Fc w P y zy
  | ⟨none⟩, y, zs, h => ⟨[], zs, rfl, rfl, h⟩
  | ⟨some ⟨k, n, nm, a, ks, r⟩⟩, y, zs, h => by
    obtain ⟨ao, cap, ys, rfl, h1, h2⟩ := h
    obtain ⟨zx, zy, rfl, h3, h4⟩ := Fc.split h2
    exact ⟨_, zy, rfl, ⟨ao, cap, zx, rfl, h1, h3⟩, h4⟩
/-- Blocks other than one. -/
abbrev Nf (fb : Nat) : Nat → Prop := fun b => b ≠ fb
theorem Sl.keepF {fb : Nat} {w w' : World} {f : Fs} {ao : Option Addr} (h : Sl w (Nf fb) f ao) (k : Keep fb w w') : Sl w' (Nf fb) f ao := h.mono (fun i hp hl => k.block i hl hp) k.size (fun _ h _ => h)
/-- What one of the kids is. -/
theorem Sl.kid {fb : Nat} {w : World} {x r : Fs} {k n : Int} {nm : List UInt8} {a : Int} {ks : Fs} {ao : Option Addr} (h : Sl w (Nf fb) (x.app (.cons k n nm a ks r)) ao) : ∃ b off ak ck, ao = some ⟨b, off, none⟩ ∧ w.cell? ⟨b, off + x.len * 5, none⟩ = some (.int .i64 k) ∧ w.cell? ⟨b, off + x.len * 5 + 1, none⟩ = some (.int .i64 n) ∧ w.cell? ⟨b, off + x.len * 5 + 2, none⟩ = some (stv nm) ∧ w.cell? ⟨b, off + x.len * 5 + 3, none⟩ = some (.slice ak ks.len ck) ∧ w.cell? ⟨b, off + x.len * 5 + 4, none⟩ = some (.int .i64 a) ∧ Sl w (Nf fb) ks ak := by
  rcases h with h | ⟨b, off, zs, rfl, hp, hlt, hc, hf⟩
  · cases x using Fs.on with
    | nil => cases h
    | cons k n nm a ks r => cases h
  · obtain ⟨zx, zy, rfl, h3, h4⟩ := Fc.split hf
    have hl := h3.len
    obtain ⟨ak, ck, ys, rfl, h5, h6⟩ := h4
    have hc' : ∀ j u, (.int .i64 k :: .int .i64 n :: stv nm :: .slice ak ks.len ck :: .int .i64 a :: ys : List Value)[j]? = some u → w.cell? ⟨b, off + x.len * 5 + j, none⟩ = some u := fun j u hu => by
      have := hc (x.len * 5 + j) u (by rw [List.getElem?_append_right (by omega), hl, Nat.add_sub_cancel_left]; exact hu)
      rw [Nat.add_assoc]
      exact this
    exact ⟨b, off, ak, ck, rfl, hc' 0 _ rfl, hc' 1 _ rfl, hc' 2 _ rfl, hc' 3 _ rfl, hc' 4 _ rfl, h5⟩
/-- The tables, and the words of the language. -/
structure Fix (w : World) : Prop where
  wd : Wd w
  tb : OpW w ∧ ClW w ∧ QnW w
theorem Fix.below {w w' : World} (h : Fix w) (b : Below w.heap.size w w') : Fix w' := ⟨h.wd.below b, h.tb.1.below b, h.tb.2.1.below b, h.tb.2.2.below b⟩
/-- What lies fast stands while a block behind it is written. -/
def FixK (fb : Nat) (w : World) : Prop := Fix w ∧ 1 < fb ∧ 3 < fb ∧ 0 < fb ∧ 2 < fb
theorem FixK.keep {fb : Nat} {w w' : World} (h : FixK fb w) (k : Keep fb w w') : FixK fb w' := by
  have l0 := h.1.wd.lt
  have l1 := h.1.tb.1.lt
  have l2 := h.1.tb.2.1.lt
  have l3 := h.1.tb.2.2.lt
  obtain ⟨⟨⟨t0, f0, h0⟩, ⟨t1, f1, h1⟩, ⟨t2, f2, h2⟩, ⟨t3, f3, h3⟩⟩, g0, g1, g2, g3⟩ := h
  exact ⟨⟨⟨t0, f0, (k.block _ l0 (Nat.ne_of_lt g0)).trans h0⟩, ⟨t1, f1, (k.block _ l1 (Nat.ne_of_lt g1)).trans h1⟩, ⟨t2, f2, (k.block _ l2 (Nat.ne_of_lt g2)).trans h2⟩, ⟨t3, f3, (k.block _ l3 (Nat.ne_of_lt g3)).trans h3⟩⟩, g0, g1, g2, g3⟩
theorem Blk.cells1' {w : World} {b : Nat} {a0 : Value} {t : TypeId} (h : w.heap[b]? = some (.cells #[a0] t (0, 0))) : w.cell? ⟨b, 0, none⟩ = some a0 ∧ ∀ j, w.frozen? ⟨b, j, none⟩ = false := by
  refine ⟨?_, fun j => frozen_of_row w b j _ t h⟩
  simp [cell_of_row w b _ _ t (0, 0) h]
/-- What holds answers and leaves. -/
def PostH (fb : Nat) (w : World) (res : Option Nat) (x : Ending) (w' : World) : Prop :=
  match res with
  | none => x = .returned (.bool false) ∧ Keep fb w w'
  | some c => x = .returned (.bool true) ∧ w'.heap[fb]? = some (.cells #[.int .i64 (c : Nat)] 93 (0, 0)) ∧ Keep fb w w'
def HoldsOk (N : Nat) : Prop := ∀ (e : Ex) (ao : Option Addr) (cap fb c : Nat) (w : World), e.kids.size < N → e.nm.length ≤ maxLen → e.kids.short → e.kids.len ≤ 1000000000 → c ≤ 2000 → FixK fb w → Sl w (Nf fb) e.kids ao → w.heap[fb]? = some (.cells #[.int .i64 (c : Nat)] 93 (0, 0)) →
  Calls Tryz.prog 50 #[.pointer (some ⟨fb, 0, none⟩), exV e ao cap] w (PostH fb w (hE e c))
set_option maxRecDepth 100000 in
set_option maxHeartbeats 2000000 in
theorem holds_step {N : Nat} (IH : HoldsOk N) : HoldsOk (N + 1) := by
  intro e ao cap fb c w hN hnm hsh hlen hc FX S F
  obtain ⟨W, hW⟩ : ∃ W, W = hE e c := ⟨_, rfl⟩
  rw [← hW]
  have HW : Hid (W = hE e c) := hW
  have hfb := lt_of_block F
  have K0 : Keep fb w (w.alloc (.cells #[.int .i64 e.k, .int .i64 e.n, stv e.nm, .slice ao e.kids.len cap, .int .i64 e.a] 25)) := (Keep.refl fb w).alloc _
  have K1 := K0.set ⟨fb, 0, none⟩ (.int .i64 ((c : Int) + 1)) (.inr rfl)
  have F0 := (Below.heap_alloc w (.cells #[.int .i64 e.k, .int .i64 e.n, stv e.nm, .slice ao e.kids.len cap, .int .i64 e.a] 25) _ hfb).trans F
  have F1 := (Blk.set (o := fun _ => 0) (i := 0) ⟨F0, rfl⟩ 0 (.int .i64 ((c : Int) + 1))).1
  have E0 : (w.alloc (.cells #[.int .i64 e.k, .int .i64 e.n, stv e.nm, .slice ao e.kids.len cap, .int .i64 e.a] 25)).heap[w.heap.size]? = some (.cells #[.int .i64 e.k, .int .i64 e.n, stv e.nm, .slice ao e.kids.len cap, .int .i64 e.a] 25) := heap_alloc_new w _
  have E1 := (heap_setCell_other _ ⟨fb, 0, none⟩ w.heap.size (.int .i64 ((c : Int) + 1)) (show w.heap.size ≠ fb by omega)).trans E0
  obtain ⟨g0, gf⟩ := Blk.cells1' F0
  clear hW
  rw [exV_out]
  go_enter Tryz.func50, Tryz.ntmps50
  go_upto_region 1 with fail
  generalize w.alloc (.cells #[.int .i64 e.k, .int .i64 e.n, stv e.nm, .slice ao e.kids.len cap, .int .i64 e.a] 25) = w0 at *
  generalize w.heap.size = bx at *
  go_upto_region 2 with fail
  generalize w0.setCell ⟨fb, 0, none⟩ (.int .i64 ((c : Int) + 1)) = w1 at *
  clear E0 F0 K0 g0 gf F
  have S1 := S.keepF K1
  have FX1 := FX.keep K1
  obtain ⟨p0, p1, p2, p3, p4, pf⟩ := box5 E1
  obtain ⟨g0, gf⟩ := Blk.cells1' F1
  by_cases hbig : 2000 < c + 1
  · have hbI : (2000 : Int) < (c : Int) + 1 := by omega
    have FIN : Hid (W = none) := by show W = _; rw [HW.out]; simp only [hE, hbig, if_true]
    clear HW hbig FX1 S1
    go_wp2
    go_ret
    rw [FIN.out]
    exact ⟨rfl, K1⟩
  have hbI : ¬ (2000 : Int) < (c : Int) + 1 := by omega
  have c2 := number_r2 e.k e.n e.nm ao e.kids.len cap e.a w1 FX1.1.tb.2.1 FX1.1.tb.2.2
  go_wp2_with fail
  refine c2.mono ?_
  rintro x w2 ⟨rfl, b2⟩
  clear c2 p0 p1 p2 p3 p4 pf g0 gf
  have k2 : Keep fb w1 w2 := Keep.ofBelow b2
  have K2 := K1.trans k2
  have E2 := k2.blk E1 (by omega)
  have F2 := (b2.block _ (lt_of_block F1)).trans F1
  have S2 := S1.keepF k2
  have FX2 := FX1.keep k2
  obtain ⟨p0, p1, p2, p3, p4, pf⟩ := box5 E2
  clear b2 k2 K1 E1 F1 S1 FX1
  cases hnu : numB e.k e.n with
  | false =>
    have FIN : Hid (W = none) := by show W = _; rw [HW.out]; simp [hE, hbig, hnu]
    clear HW hbig hnu
    go_wp2
    go_ret
    rw [FIN.out]
    exact ⟨rfl, K2⟩
  | true =>
  have c3 := name_r2 e.k e.n e.nm ao e.kids.len cap e.a w2 FX2.1.wd hnm
  go_wp2_with fail
  refine c3.mono ?_
  rintro x w3 ⟨rfl, b3⟩
  clear c3 p0 p1 p2 p3 p4 pf
  have k3 : Keep fb w2 w3 := Keep.ofBelow b3
  have K3 := K2.trans k3
  have E3 := k3.blk E2 (by omega)
  have F3 := (b3.block _ (lt_of_block F2)).trans F2
  have S3 := S2.keepF k3
  have FX3 := FX2.keep k3
  obtain ⟨p0, p1, p2, p3, p4, pf⟩ := box5 E3
  clear b3 k3 K2 E2 F2 S2 FX2
  cases hna : namB e.k e.nm with
  | false =>
    have FIN : Hid (W = none) := by show W = _; rw [HW.out]; simp [hE, hbig, hnu, hna]
    clear HW hbig hnu hna
    go_wp2
    go_ret
    rw [FIN.out]
    exact ⟨rfl, K3⟩
  | true =>
  have c4 := kids_r e.k e.n e.nm ao e.kids.len cap e.a w3 FX3.1.tb.2.1 FX3.1.tb.1
  go_wp2_with fail
  refine c4.mono ?_
  rintro x w4 ⟨rfl, b4⟩
  clear c4 p0 p1 p2 p3 p4 pf
  have k4 : Keep fb w3 w4 := Keep.ofBelow b4
  have K4 := K3.trans k4
  have E4 := k4.blk E3 (by omega)
  have F4 := (b4.block _ (lt_of_block F3)).trans F3
  have S4 := S3.keepF k4
  have FX4 := FX3.keep k4
  obtain ⟨p0, p1, p2, p3, p4, pf⟩ := box5 E4
  clear b4 k4 K3 E3 F3 S3 FX3
  cases hki : kidB e.k e.n e.kids.len with
  | false =>
    have FIN : Hid (W = none) := by show W = _; rw [HW.out]; simp [hE, hbig, hnu, hna, hki]
    clear HW hbig hnu hna hki
    go_wp2
    go_ret
    rw [FIN.out]
    exact ⟨rfl, K4⟩
  | true =>
  have HA : Hid (hFs e.kids (e.k == 21) (c + 1) = W) := by show _ = W; rw [HW.out]; simp [hE, hbig, hnu, hna, hki]
  have ec : (c : Int) + 1 = ((c + 1 : Nat) : Int) := by omega
  rw [ec] at F4
  clear HW hnu hna hki ec hbI
  obtain ⟨q, hq⟩ : ∃ q, q = (e.k == 21) := ⟨_, rfl⟩
  rw [← hq] at HA
  go_wp2
  go_loopw [38] (fun v wr => ∃ (done r : Fs) (c' : Nat), Hid (e.kids = done.app r) ∧ v = .int .i64 (done.len : Nat) ∧ c' ≤ 2000 ∧ Hid (hFs r (q && done.len == 0) c' = W) ∧ wr.heap[fb]? = some (.cells #[.int .i64 (c' : Nat)] 93 (0, 0)) ∧ wr.heap[bx]? = some (.cells #[.int .i64 e.k, .int .i64 e.n, stv e.nm, .slice ao e.kids.len cap, .int .i64 e.a] 25) ∧ Sl wr (Nf fb) e.kids ao ∧ Keep fb w wr) (fun v _ => e.kids.len - (intOf v).toNat)
  case atStart => exact ⟨.nil, e.kids, c + 1, rfl, by show _ = Value.int .i64 ((0 : Nat) : Int); rfl, by omega, by cases q <;> exact HA, F4, E4, S4, K4⟩
  case round =>
    clear F4 E4 S4 K4 FX4 HA p0 p1 p2 p3 p4 pf
    obtain ⟨done, r, c', hk, rfl, hc', HA, F5, E5, S5, K5⟩ := hrel
    have hlk : e.kids.len = done.len + r.len := by rw [hk.out, Fs.len_app]
    obtain ⟨p0, p1, p2, p3, p4, pf⟩ := box5 E5
    cases r using Fs.on with
    | nil =>
      have hl0 : ¬ (done.len : Int) < (e.kids.len : Int) := by simp only [Fs.len] at hlk; omega
      have FIN : Hid (W = some c') := by show W = _; rw [← HA.out]; rfl
      clear HA hlk
      go_wp2
      go_ret
      rw [FIN.out]
      exact ⟨rfl, F5, K5⟩
    | cons kk kn km ka kks kr =>
      have hl0 : (done.len : Int) < (e.kids.len : Int) := by simp only [Fs.len] at hlk; omega
      have hsz : e.kids.size = done.size + (kks.size + kr.size + 1) := by rw [hk.out, Fs.size_app]; rfl
      have hsk : (Fs.cons kk kn km ka kks kr).short := Fs.app_short (by rw [← hk.out]; exact hsh)
      have hlen2 : kks.len ≤ 1000000000 ∨ True := .inr trivial
      obtain ⟨b, off, ak, ck, hao, x0, x1, x2, x3, x4, SK⟩ := Sl.kid (by rw [← hk.out]; exact S5)
      subst hao
      have FX5 := FX.keep K5
      have k6 : Keep fb wr (wr.alloc (.cells #[.int .i64 kk, .int .i64 kn, stv km, .slice ak kks.len ck, .int .i64 ka] 25)) := (Keep.refl fb wr).alloc _
      have Y6 : (wr.alloc (.cells #[.int .i64 kk, .int .i64 kn, stv km, .slice ak kks.len ck, .int .i64 ka] 25)).heap[wr.heap.size]? = some (.cells #[.int .i64 kk, .int .i64 kn, stv km, .slice ak kks.len ck, .int .i64 ka] 25) := heap_alloc_new wr _
      have E6 := k6.blk E5 (by omega)
      have F6 := (Below.heap_alloc wr (.cells #[.int .i64 kk, .int .i64 kn, stv km, .slice ak kks.len ck, .int .i64 ka] 25) _ (lt_of_block F5)).trans F5
      have S6 := S5.keepF k6
      have SK6 := SK.keepF k6
      have FX6 := FX5.keep k6
      have K6 := K5.trans k6
      have hkb : fb < wr.heap.size := lt_of_block F5
      clear hlk
      go_upto_region 7 with fail
      generalize wr.alloc (.cells #[.int .i64 kk, .int .i64 kn, stv km, .slice ak kks.len ck, .int .i64 ka] 25) = w6 at *
      generalize wr.heap.size = bk at *
      clear x0 x1 x2 x3 x4 p0 p1 p2 p3 p4 pf k6 E5 F5 S5 SK FX5 K5
      obtain ⟨p0, p1, p2, p3, p4, pf⟩ := box5 E6
      obtain ⟨y0, y1, y2, y3, y4, yf⟩ := box5 Y6
      have c7 := isSet_r kk kn km ak kks.len ck ka w6
      have HQ : Hid (q = (e.k == 21)) := hq
      have HF : Hid (hFs (.cons kk kn km ka kks kr) (q && done.len == 0) c' = W) := HA
      clear HA hq
      go_cut [7] (fun v wx => v = .bool (q && done.len == 0) ∧ wx = w6)
      case first =>
        cases q with
        | false =>
          have hq0 : (e.k == 21) = false := HQ.out.symm
          clear HF c7
          go_wp2
          go_meet
          exact ⟨rfl, rfl⟩
        | true =>
          have hq0 : (e.k == 21) = true := HQ.out.symm
          by_cases hd : done.len = 0
          · have hd0 : ((done.len : Int) == 0) = true := by rw [beq_iff_eq]; omega
            have hd1 : (done.len == 0) = true := by rw [beq_iff_eq]; exact hd
            clear HF c7 hd
            go_wp2
            go_meet
            exact ⟨by rw [hd1]; rfl, rfl⟩
          · have hd0 : ((done.len : Int) == 0) = false := by rw [beq_eq_false_iff_ne]; omega
            have hd1 : (done.len == 0) = false := by rw [beq_eq_false_iff_ne]; exact hd
            clear HF c7 hd
            go_wp2
            go_meet
            exact ⟨by rw [hd1]; rfl, rfl⟩
      case rest =>
      obtain ⟨rfl, hw⟩ := hcut
      subst hw
      obtain ⟨fst, hfs⟩ : ∃ fst, fst = (q && done.len == 0) := ⟨_, rfl⟩
      rw [← hfs] at HF ⊢
      clear hfs HQ
      go_wp2_with fail
      refine c7.mono ?_
      rintro x w7 ⟨rfl, b7⟩
      have k7 : Keep fb _ w7 := Keep.ofBelow b7
      have K7 := K6.trans k7
      have E7 := k7.blk E6 (by omega)
      have Y7 := k7.blk Y6 (by omega)
      have F7 := (b7.block _ (lt_of_block F6)).trans F6
      have S7 := S6.keepF k7
      have SK7 := SK6.keepF k7
      have FX7 := FX6.keep k7
      clear c7 b7 k7 K6 E6 Y6 F6 S6 SK6 FX6 p0 p1 p2 p3 p4 pf y0 y1 y2 y3 y4 yf
      obtain ⟨y0, y1, y2, y3, y4, yf⟩ := box5 Y7
      by_cases hset : isSetK kk = fst
      · have HG : Hid (W = (hE ⟨kk, kn, km, ka, kks⟩ c').bind fun c'' => hFs kr false c'') := by show W = _; rw [← HF.out, hFs_cons]; simp [hset]
        have c8 := IH ⟨kk, kn, km, ka, kks⟩ ak ck fb c' w7 (by show kks.size < N; omega) hsk.1 hsk.2.2.1 hsk.2.1 hc' FX7 SK7 F7
        rw [exV_out] at c8
        simp only at c8
        clear HF
        subst hset
        generalize isSetK kk = sk at *
        cases sk
        all_goals
          go_wp2_with fail
          refine c8.mono ?_
          rintro x w8 hP
          clear c8
          cases hr8 : hE ⟨kk, kn, km, ka, kks⟩ c' with
          | none =>
            rw [hr8] at hP
            obtain ⟨rfl, k8⟩ := hP
            have KB := K7.trans k8
            have FIN : Hid (W = none) := by show W = _; rw [HG.out, hr8]; rfl
            clear HG hr8
            go_wp2
            go_ret
            rw [FIN.out]
            exact ⟨rfl, KB⟩
          | some c'' =>
            rw [hr8] at hP
            obtain ⟨rfl, F8, k8⟩ := hP
            have K8 := K7.trans k8
            have E8 := k8.blk E7 (by omega)
            have S8 := S7.keepF k8
            have hc8 := hE_le hr8
            have HA8 : Hid (hFs kr (q && (done.snoc ⟨kk, kn, km, ka, kks⟩).len == 0) c'' = W) := by
              show _ = W
              rw [HG.out, hr8, Fs.len_snoc, show (q && (done.len + 1) == 0) = false by simp]
              rfl
            have HK8 : Hid (e.kids = (done.snoc ⟨kk, kn, km, ka, kks⟩).app kr) := by
              show e.kids = _
              rw [hk.out]
              unfold Fs.snoc
              rw [Fs.app_assoc]
              rfl
            have hls : (done.snoc ⟨kk, kn, km, ka, kks⟩).len = done.len + 1 := Fs.len_snoc _ _
            clear HG hr8 k8 K7 E7 F7 S7 SK7 FX7 Y7 y0 y1 y2 y3 y4 yf
            go_wp2
            go_roundw
            case rel => (try ((repeat apply Exists.intro); refine ⟨?_, rfl⟩)); exact ⟨done.snoc ⟨kk, kn, km, ka, kks⟩, kr, c'', HK8, by rw [hls]; go_num, hc8, HA8, F8, E8, S8, K8⟩
            case measure => simp [intOf]; omega
      · have FIN : Hid (W = none) := by show W = _; rw [← HF.out, hFs_cons]; simp [hset]
        clear HF
        generalize isSetK kk = sk at *
        cases sk with
        | false =>
          cases fst with
          | false => exact absurd rfl hset
          | true =>
            go_wp2
            go_ret
            rw [FIN.out]
            exact ⟨rfl, K7⟩
        | true =>
          cases fst with
          | true => exact absurd rfl hset
          | false =>
            go_wp2
            go_ret
            rw [FIN.out]
            exact ⟨rfl, K7⟩
theorem holds_ok : ∀ N, HoldsOk N
  | 0 => fun e ao cap fb c w h => absurd h (Nat.not_lt_zero _)
  | N + 1 => holds_step (holds_ok N)
end Go.Proofs.YtojleoionpnjpaaGreatDoor

/- The document's own kinds: must, binary. -/
import Derived.Test.YtafnlhnenmpfoaaGreatDoorTrA
import Derived.BigQuiet
namespace Go.Proofs.YtafnlhnenmpfoaaGreatDoor
open Go.ChangeShapes Go.WideShapes Go.ChangeAt Go.RowKit
set_option linter.unusedVariables false
set_option linter.unusedSimpArgs false

def erO (st : Er) : Nat := match st with | some x => x.1 | none => 0
def plO (st : Er) : Int := match st with | some x => x.2 | none => 0
def StOk (st : Er) : Prop := ∀ x, st = some x → x.1 ≠ 0
/-- The walk in memory: names that are bound, the first error. -/
structure Wk (w : World) (wb : Nat) (bv : Value) (st : Er) : Prop where
  blk : w.heap[wb]? = some (.cells #[bv, .int .i64 (erO st : Nat), .int .i64 (plO st)] 54 (0, 0))
  ok : StOk st
theorem StOk.none : StOk none := fun x h => by cases h
theorem box3 {w : World} {b : Nat} {a0 a1 a2 : Value} {t : TypeId} (h : w.heap[b]? = some (.cells #[a0, a1, a2] t (0, 0))) : w.cell? ⟨b, 0, none⟩ = some a0 ∧ w.cell? ⟨b, 1, none⟩ = some a1 ∧ w.cell? ⟨b, 2, none⟩ = some a2 ∧ ∀ j, w.frozen? ⟨b, j, none⟩ = false := by
  refine ⟨?_, ?_, ?_, fun j => frozen_of_row w b j _ t h⟩ <;> simp [cell_of_row w b _ _ t (0, 0) h]
theorem set3 {w : World} {b : Nat} {a0 a1 a2 : Value} {t : TypeId} (h : w.heap[b]? = some (.cells #[a0, a1, a2] t (0, 0))) (v : Value) :
    (w.setCell ⟨b, 0, none⟩ v).heap[b]? = some (.cells #[v, a1, a2] t (0, 0)) ∧ (w.setCell ⟨b, 1, none⟩ v).heap[b]? = some (.cells #[a0, v, a2] t (0, 0)) ∧ (w.setCell ⟨b, 2, none⟩ v).heap[b]? = some (.cells #[a0, a1, v] t (0, 0)) :=
  ⟨(Blk.set (o := fun _ => 0) (i := 0) ⟨h, rfl⟩ 0 v).1, (Blk.set (o := fun _ => 0) (i := 0) ⟨h, rfl⟩ 1 v).1, (Blk.set (o := fun _ => 0) (i := 0) ⟨h, rfl⟩ 2 v).1⟩
/-- Names in a slice that lies elsewhere. -/
def Nmk (wb : Nat) (w : World) (v : Value) (b : List (List UInt8)) : Prop := Nms w v b ∧ ∀ g off n c, v = .slice (some ⟨g, off, none⟩) n c → g ≠ wb
theorem Nmk.keep {wb : Nat} {w w' : World} {v : Value} {b : List (List UInt8)} (h : Nmk wb w v b) (K : Keep wb w w') : Nmk wb w' v b := by
  refine ⟨?_, h.2⟩
  obtain ⟨⟨ao, cap, rfl, hc, h1 | ⟨g, rfl, h2, h0, h3⟩⟩, h4⟩ := h
  · exact ⟨ao, cap, rfl, hc, .inl h1⟩
  · exact ⟨_, cap, rfl, hc, .inr ⟨g, rfl, Nat.lt_of_lt_of_le h2 K.size, h0, fun j t hj => (K.cell h2 (h4 _ _ _ _ rfl) j).trans (h3 j t hj)⟩⟩
set_option maxRecDepth 100000 in
theorem fails13 (w : World) (wb : Nat) (bv : Value) (er : Nat) (a : Int) (her : er ≠ 0) (h : Wk w wb bv none) :
    Calls Tryz.prog 80 #[.pointer (some ⟨wb, 0, none⟩), .int .i64 (er : Nat), .int .i64 a] w fun x w' => x = .returned (.tuple #[]) ∧ Wk w' wb bv (some (er, a)) ∧ Keep wb w w' := by
  have h1 := h.blk
  simp only [erO, plO] at h1
  obtain ⟨c0, c1, c2, cf⟩ := box3 h1
  have F1 := (set3 h1 (.int .i64 (er : Nat))).2.1
  have F2 := (set3 F1 (.int .i64 a)).2.2
  have K := ((Keep.refl wb w).set ⟨wb, 1, none⟩ (.int .i64 (er : Nat)) (.inr rfl)).set ⟨wb, 2, none⟩ (.int .i64 a) (.inr rfl)
  have HZ : Hid (Wk ((w.setCell ⟨wb, 1, none⟩ (.int .i64 (er : Nat))).setCell ⟨wb, 2, none⟩ (.int .i64 a)) wb bv (some (er, a)) ∧ Keep wb w ((w.setCell ⟨wb, 1, none⟩ (.int .i64 (er : Nat))).setCell ⟨wb, 2, none⟩ (.int .i64 a))) :=
    ⟨⟨F2, fun x hx => by injection hx with hx; subst hx; exact her⟩, K⟩
  clear h F1 F2 K h1
  go_enter Tryz.func80, Tryz.ntmps80
  go_wp2
  go_end0
  exact ⟨rfl, HZ.out.1, HZ.out.2⟩
/-- What name answers. -/
def PostNm (w : World) (wb : Nat) (bv : Value) (b : List (List UInt8)) (e : Ex) (x : Ending) (w' : World) : Prop :=
  (∃ r, x = .returned (.int .i64 r) ∧ (e.nm ∈ b → r = 3)) ∧ Wk w' wb bv (if e.nm ∈ b then none else some (130, e.a)) ∧ Keep wb w w'
set_option maxRecDepth 100000 in
set_option maxHeartbeats 1000000 in
theorem name_q (e : Ex) (ao : Option Addr) (cap : Nat) (w : World) (wb : Nat) (bv : Value) (b : List (List UInt8)) (h : Wk w wb bv none) (hn : Nmk wb w bv b) (hl : b.length ≤ 100000) :
    Calls Tryz.prog 45 #[.pointer (some ⟨wb, 0, none⟩), exV e ao cap] w (PostNm w wb bv b e) := by
  have B0 : Below w.heap.size w (w.alloc (.cells #[.int .i64 e.k, .int .i64 e.n, stv e.nm, .slice ao e.kids.len cap, .int .i64 e.a] 25)) := (Below.refl _ w).alloc (Nat.le_refl _) _
  have E0 : (w.alloc (.cells #[.int .i64 e.k, .int .i64 e.n, stv e.nm, .slice ao e.kids.len cap, .int .i64 e.a] 25)).heap[w.heap.size]? = some (.cells #[.int .i64 e.k, .int .i64 e.n, stv e.nm, .slice ao e.kids.len cap, .int .i64 e.a] 25) := heap_alloc_new w _
  have hwb := lt_of_block h.blk
  have W0 := (B0.block _ hwb).trans h.blk
  have N0 := hn.1.below B0
  clear h hn
  rw [exV_out]
  go_enter Tryz.func45, Tryz.ntmps45
  go_upto_region 1 with fail
  generalize w.alloc (.cells #[.int .i64 e.k, .int .i64 e.n, stv e.nm, .slice ao e.kids.len cap, .int .i64 e.a] 25) = w0 at *
  obtain ⟨bx, hbx⟩ : ∃ bx, bx = w.heap.size := ⟨_, rfl⟩
  rw [← hbx] at E0 B0 ⊢
  have HB : Hid (bx = w.heap.size) := hbx
  clear hbx
  have hbx0 := lt_of_block E0
  have hwb0 := lt_of_block W0
  obtain ⟨av, capv, rfl, hcv, hp⟩ := N0
  simp only [erO, plO] at W0
  go_wp2
  go_loopw [5] (fun v wr => ∃ k : Nat, k ≤ b.length ∧ v = .int .i64 (k : Nat) ∧ Hid (∀ j, j < k → b[j]? ≠ some e.nm) ∧ Below w0.heap.size w0 wr) (fun v _ => b.length - (intOf v).toNat)
  case atStart => exact ⟨0, by omega, by go_num, fun j hj => absurd hj (Nat.not_lt_zero _), Below.refl _ _⟩
  case round =>
    obtain ⟨k, hk, rfl, hno, B1⟩ := hrel
    have E1 := (B1.block _ hbx0).trans E0
    have W1 := (B1.block _ hwb0).trans W0
    obtain ⟨p0, p1, p2, p3, p4, pf⟩ := box5 E1
    obtain ⟨q0, q1, q2, qf⟩ := box3 W1
    by_cases hlt : k < b.length
    · have hx : b[k]? = some b[k] := List.getElem?_eq_getElem hlt
      rcases hp with ⟨rfl, -⟩ | ⟨g, rfl, hg, -, hcell⟩
      · simp at hlt
      have c1 := (B1.cell (p := ⟨g, k, none⟩) hg).trans (hcell k _ hx)
      generalize b[k] = x at c1 hx
      have hkI : (k : Int) < (b.length : Int) := by omega
      have HX : Hid (b[k]? = some x) := hx
      clear hx hcell
      by_cases he : x = e.nm
      · subst he
        have hbe : (e.nm == e.nm) = true := by simp
        have hmem : e.nm ∈ b := List.mem_of_getElem? HX.out
        have FIN : Hid (e.nm ∈ b) := hmem
        clear hno HX hmem
        go_wp2_with fail
        go_quiet (fail)
        go_wp2
        refine bodyPost_ret (v := .int .i64 3) (by simp [results, Tryz.results45, go_sem]) rfl ⟨⟨3, rfl, fun _ => rfl⟩, ?_, ?_⟩
        · rw [if_pos FIN.out]
          exact ⟨W1, StOk.none⟩
        · refine Keep.ofBelow ?_
          rw [← HB.out]
          exact B0.trans ((B1.trans (show Below w0.heap.size wr (wr.drewN nq) from ⟨rfl, rfl, rfl, Nat.le_refl _, fun _ _ => rfl⟩)).mono (Nat.le_of_lt hbx0))
      · have hbe : (x == e.nm) = false := by simpa using he
        have hn2 : Hid (∀ j, j < k + 1 → b[j]? ≠ some e.nm) := by
          intro j hj
          rcases Nat.lt_succ_iff_lt_or_eq.1 hj with h1 | rfl
          · exact hno.out j h1
          · rw [HX.out]
            intro h2
            injection h2 with h2
            exact he h2
        clear hno HX he
        go_wp2_with fail
        go_quiet (fail)
        have B2 := B1.trans (show Below w0.heap.size wr (wr.drewN nq) from ⟨rfl, rfl, rfl, Nat.le_refl _, fun _ _ => rfl⟩)
        go_wp2
        go_roundw
        case rel => exact ⟨k + 1, by omega, by go_num, hn2, B2⟩
        case measure => simp [intOf]; omega
    · obtain rfl : k = b.length := by omega
      have FIN : Hid (¬ e.nm ∈ b) := by
        intro h1
        obtain ⟨j, hj, h2⟩ := List.mem_iff_getElem.1 h1
        exact hno.out j hj (by rw [List.getElem?_eq_getElem hj, h2])
      have c1 := fails13 wr wb (.slice av b.length capv) 130 e.a (by decide) ⟨W1, StOk.none⟩
      clear hno hp
      go_wp2_with fail
      refine c1.mono ?_
      rintro x w3 ⟨rfl, W3, K3⟩
      clear c1 p0 p1 p2 p3 p4 pf q0 q1 q2 qf
      go_wp2
      refine bodyPost_ret (v := .int .i64 0) (by simp [results, Tryz.results45, go_sem]) rfl ⟨⟨0, rfl, fun h => absurd h FIN.out⟩, ?_, ?_⟩
      · rw [if_neg FIN.out]
        exact W3
      · refine (Keep.ofBelow ?_).trans K3
        rw [← HB.out]
        exact B0.trans (B1.mono (Nat.le_of_lt hbx0))
theorem gives_q (n : Int) (w : World) : Calls Tryz.prog 48 #[.int .i64 n] w fun x w' => x = .returned (.int .i64 (giveT n)) ∧ w' = w := by
  unfold giveT
  by_cases h1 : n = 1
  · subst h1
    go_enter Tryz.func48, Tryz.ntmps48
    go_wp2
    go_ret
    exact ⟨rfl, rfl⟩
  · by_cases h2 : n = 2
    · subst h2
      go_enter Tryz.func48, Tryz.ntmps48
      go_wp2
      go_ret
      exact ⟨rfl, rfl⟩
    · rw [if_neg (by omega)]
      have b1 : (n == 1) = false := by simpa using h1
      have b2 : (n == 2) = false := by simpa using h2
      by_cases h3 : n = 10
      · subst h3
        go_enter Tryz.func48, Tryz.ntmps48
        go_wp2
        go_ret
        exact ⟨rfl, rfl⟩
      · rw [if_neg h3]
        have b3 : (n == 10) = false := by simpa using h3
        clear h1 h2 h3
        go_enter Tryz.func48, Tryz.ntmps48
        go_wp2
        go_ret
        exact ⟨rfl, rfl⟩
theorem body_q (n : Int) (w : World) : Calls Tryz.prog 81 #[.int .i64 n] w fun x w' => x = .returned (.int .i64 (bodyT n)) ∧ w' = w := by
  unfold bodyT
  by_cases h1 : n ≤ 3
  · rw [if_pos h1]
    go_enter Tryz.func81, Tryz.ntmps81
    go_wp2
    go_ret
    exact ⟨rfl, rfl⟩
  · rw [if_neg h1]
    go_enter Tryz.func81, Tryz.ntmps81
    go_wp2
    go_ret
    exact ⟨rfl, rfl⟩
theorem whole_q (n : Int) (w : World) : Calls Tryz.prog 82 #[.int .i64 n] w fun x w' => x = .returned (.int .i64 (wholeT n)) ∧ w' = w := by
  unfold wholeT
  by_cases h1 : n ≤ 2
  · rw [if_pos h1]
    go_enter Tryz.func82, Tryz.ntmps82
    go_wp2
    go_ret
    exact ⟨rfl, rfl⟩
  · rw [if_neg h1]
    go_enter Tryz.func82, Tryz.ntmps82
    go_wp2
    go_ret
    exact ⟨rfl, rfl⟩
end Go.Proofs.YtafnlhnenmpfoaaGreatDoor
namespace Go.Proofs.YtafnlhnenmpfoaaGreatDoor
open Go.ChangeShapes Go.WideShapes Go.ChangeAt Go.RowKit
set_option linter.unusedVariables false
set_option linter.unusedSimpArgs false

/-- A part of a right tree that is no set, not too great. -/
structure Rt13 (N : Nat) (e : Ex) (nb : Nat) : Prop where
  sz : e.kids.size < N
  ok : e.okA
  st : isSetK e.k = false
  sk : e.kids.stk (e.k == 21)
  len : e.kids.len ≤ 1000000000
  sh : e.kids.short
  bl : nb + e.kids.size ≤ 3000
/-- What kind answers. -/
def PostKd (w : World) (wb : Nat) (bv : Value) (r : Sum (Nat × Int) Int) (x : Ending) (w' : World) : Prop :=
  (∃ k', x = .returned (.int .i64 k') ∧ ∀ k, r = .inr k → k' = k) ∧ Wk w' wb bv (stS r) ∧ Keep wb w w'
def KindOk (N : Nat) : Prop := ∀ (e : Ex) (ao : Option Addr) (cap wb : Nat) (bv : Value) (b : List (List UInt8)) (w : World), Rt13 N e b.length → Wk w wb bv none → Nmk wb w bv b → Sl w (Nf wb) e.kids ao →
  Calls Tryz.prog 26 #[.pointer (some ⟨wb, 0, none⟩), exV e ao cap] w (PostKd w wb bv (chkE e b))
/-- What must leaves. -/
def PostMu (w : World) (wb : Nat) (bv : Value) (st : Er) (x : Ending) (w' : World) : Prop := x = .returned (.tuple #[]) ∧ Wk w' wb bv st ∧ Keep wb w w'
theorem Sl.belowF {fb : Nat} {w w' : World} {f : Fs} {ao : Option Addr} (h : Sl w (Nf fb) f ao) (b : Below w.heap.size w w') : Sl w' (Nf fb) f ao := h.mono (fun i _ hl => b.block i hl) b.size (fun _ h _ => h)
theorem Nmk.below {wb : Nat} {w w' : World} {v : Value} {b : List (List UInt8)} (h : Nmk wb w v b) (B : Below w.heap.size w w') : Nmk wb w' v b := ⟨h.1.below B, h.2⟩
theorem Wk.below {w w' : World} {wb : Nat} {bv : Value} {st : Er} (h : Wk w wb bv st) (B : Below w.heap.size w w') : Wk w' wb bv st := ⟨(B.block _ (lt_of_block h.blk)).trans h.blk, h.ok⟩
theorem Keep.bel {rb : Nat} {w a b : World} (B : Below w.heap.size w a) (K : Keep rb a b) : Keep rb w b := (Keep.ofBelow B).trans K
set_option maxRecDepth 100000 in
set_option maxHeartbeats 1000000 in
theorem must_q {N : Nat} (IH : KindOk N) (e : Ex) (ao : Option Addr) (cap wb : Nat) (bv : Value) (b : List (List UInt8)) (m : Int) (st : Er) (w : World) (hr : Rt13 N e b.length) (hm : st = none → m ≠ 0) (h : Wk w wb bv st) (hn : st = none → Nmk wb w bv b) (S : Sl w (Nf wb) e.kids ao) :
    Calls Tryz.prog 46 #[.pointer (some ⟨wb, 0, none⟩), exV e ao cap, .int .i64 m] w (PostMu w wb bv (musR st m e b)) := by
  have B0 : Below w.heap.size w (w.alloc (.cells #[.int .i64 e.k, .int .i64 e.n, stv e.nm, .slice ao e.kids.len cap, .int .i64 e.a] 25)) := (Below.refl _ w).alloc (Nat.le_refl _) _
  have E0 : (w.alloc (.cells #[.int .i64 e.k, .int .i64 e.n, stv e.nm, .slice ao e.kids.len cap, .int .i64 e.a] 25)).heap[w.heap.size]? = some (.cells #[.int .i64 e.k, .int .i64 e.n, stv e.nm, .slice ao e.kids.len cap, .int .i64 e.a] 25) := heap_alloc_new w _
  have W0 := h.below B0
  have S0 := Sl.belowF S B0
  have hwb := lt_of_block h.blk
  have N0 := fun hs => (hn hs).below B0
  clear h hn S
  rw [exV_out]
  go_enter Tryz.func46, Tryz.ntmps46
  go_upto_region 1 with fail
  generalize w.alloc (.cells #[.int .i64 e.k, .int .i64 e.n, stv e.nm, .slice ao e.kids.len cap, .int .i64 e.a] 25) = w0 at *
  obtain ⟨bx, hbx⟩ : ∃ bx, bx = w.heap.size := ⟨_, rfl⟩
  have hwbx : wb ≠ bx := by omega
  rw [← hbx] at E0 B0 ⊢
  have HB : Hid (bx = w.heap.size) := hbx
  clear hbx
  obtain ⟨p0, p1, p2, p3, p4, pf⟩ := box5 E0
  obtain ⟨q0, q1, q2, qf⟩ := box3 W0.blk
  cases st with
  | some z =>
    have hz := W0.ok z rfl
    obtain ⟨er, pa⟩ := z
    simp only [erO, plO] at q1 q2 hz
    have hne : ((er : Int) != 0) = true := by simp; omega
    have HZ : Hid (PostMu w wb bv (musR (some (er, pa)) m e b) (.returned (.tuple #[])) w0) := ⟨rfl, W0, Keep.ofBelow (by rw [← HB.out]; exact B0)⟩
    clear W0 N0 S0 hr
    go_wp2
    go_end0
    exact HZ.out
  | none =>
    have HM : Hid (m ≠ 0) := hm rfl
    simp only [erO, plO] at q1 q2
    have c1 := IH e ao cap wb bv b w0 hr W0 (N0 rfl) S0
    rw [exV_out] at c1
    go_wp2_with fail
    refine c1.mono ?_
    rintro x w1 ⟨⟨k', rfl, hk'⟩, W1, K1⟩
    have E1 := (K1.block _ (lt_of_block E0) (Ne.symm hwbx)).trans E0
    have KW : Keep wb w w1 := Keep.bel (by rw [← HB.out]; exact B0) K1
    clear c1 p0 p1 p2 p3 p4 pf q0 q1 q2 qf W0 N0 S0 E0 B0 K1
    obtain ⟨p0, p1, p2, p3, p4, pf⟩ := box5 E1
    obtain ⟨q0, q1, q2, qf⟩ := box3 W1.blk
    cases hc : chkE e b with
    | inl z =>
      obtain ⟨er, pa⟩ := z
      have her := chkE_er hc
      rw [hc] at W1 q1 q2
      simp only [stS, erO, plO] at q1 q2
      have hne : ((er : Int) == 0) = false := by simp; omega
      have HZ : Hid (PostMu w wb bv (musR none m e b) (.returned (.tuple #[])) w1) := ⟨rfl, by unfold musR; simp only; rw [hc]; exact W1, KW⟩
      clear W1 hr hc hk' her KW
      go_wp2
      go_end0
      exact HZ.out
    | inr k =>
      obtain rfl := hk' k hc
      rw [hc] at W1 q1 q2
      simp only [stS, erO, plO] at q1 q2 W1
      by_cases hkm : k' = m
      · have hne : (k' != m) = false := by simpa using hkm
        have HZ : Hid (PostMu w wb bv (musR none m e b) (.returned (.tuple #[])) w1) := by
          refine ⟨rfl, ?_, KW⟩
          unfold musR
          simp only
          rw [hc]
          simp only [mustT]
          rw [if_neg (fun h => h.2 hkm)]
          exact W1
        clear W1 hr hc hk' KW hkm
        go_wp2
        go_end0
        exact HZ.out
      · have hne : (k' != m) = true := by simpa using hkm
        have c2 := fails13 w1 wb bv 131 e.a (by decide) W1
        have hmu : Hid (musR none m e b = some (131, e.a)) := by
          show _ = _
          unfold musR
          simp only
          rw [hc]
          simp only [mustT]
          rw [if_pos ⟨HM.out, hkm⟩]
          rfl
        clear W1 hr hc hk' hkm
        go_wp2_with fail
        refine c2.mono ?_
        rintro x w3 ⟨rfl, W3, K3⟩
        have HZ : Hid (PostMu w wb bv (musR none m e b) (.returned (.tuple #[])) w3) := ⟨rfl, by rw [hmu.out]; exact W3, KW.trans K3⟩
        clear c2 W3 K3 KW
        go_wp2
        go_end0
        exact HZ.out
/-- A kid of a part that is right. -/
theorem Rt13.kid {N : Nat} {e x : Ex} {nb : Nat} {d r : Fs} {first : Bool} (hs : d.size + (Fs.ex x r).size ≤ N) (hok : (Fs.ex x r).okA) (hsk : (Fs.ex x r).stk false) (hsh : (Fs.ex x r).short) (hbl : nb + (d.size + (Fs.ex x r).size) ≤ 3000) : Rt13 N x nb := by
  rw [size_ex] at hs hbl
  exact ⟨by omega, (okA_ex hok).1, hsk.1, hsk.2.1, hsh.2.1, hsh.2.2.1, by omega⟩
set_option maxRecDepth 100000 in
set_option maxHeartbeats 1000000 in
theorem binary_q {N : Nat} (IH : KindOk N) (e x y : Ex) (ao : Option Addr) (cap wb : Nat) (bv : Value) (b : List (List UInt8)) (m g : Int) (w : World) (hk : e.kids = Fs.ex x (Fs.ex y .nil)) (hx : Rt13 N x b.length) (hy : Rt13 N y b.length) (hm : m ≠ 0) (h : Wk w wb bv none) (hn : Nmk wb w bv b) (S : Sl w (Nf wb) e.kids ao) :
    Calls Tryz.prog 47 #[.pointer (some ⟨wb, 0, none⟩), exV e ao cap, .int .i64 m, .int .i64 g] w fun z w' => z = .returned (.int .i64 g) ∧ Wk w' wb bv (musR (musR none m x b) m y b) ∧ Keep wb w w' := by
  have hlen : e.kids.len = 2 := by rw [hk]; rfl
  have HK : Hid (e.kids = Fs.ex x (Fs.ex y .nil)) := hk
  have HL : Hid (e.kids.len = 2) := hlen
  clear hk hlen
  have B0 : Below w.heap.size w (w.alloc (.cells #[.int .i64 e.k, .int .i64 e.n, stv e.nm, .slice ao e.kids.len cap, .int .i64 e.a] 25)) := (Below.refl _ w).alloc (Nat.le_refl _) _
  have E0 : (w.alloc (.cells #[.int .i64 e.k, .int .i64 e.n, stv e.nm, .slice ao e.kids.len cap, .int .i64 e.a] 25)).heap[w.heap.size]? = some (.cells #[.int .i64 e.k, .int .i64 e.n, stv e.nm, .slice ao e.kids.len cap, .int .i64 e.a] 25) := heap_alloc_new w _
  have W0 := h.below B0
  have S0 := Sl.belowF S B0
  have hwb := lt_of_block h.blk
  have N0 := hn.below B0
  clear h hn S
  rw [exV_out]
  go_enter Tryz.func47, Tryz.ntmps47
  go_upto_region 1 with fail
  generalize w.alloc (.cells #[.int .i64 e.k, .int .i64 e.n, stv e.nm, .slice ao e.kids.len cap, .int .i64 e.a] 25) = w0 at *
  obtain ⟨bx, hbx⟩ : ∃ bx, bx = w.heap.size := ⟨_, rfl⟩
  have hwbx : wb ≠ bx := by omega
  rw [← hbx] at E0 B0 ⊢
  have HB : Hid (bx = w.heap.size) := hbx
  clear hbx
  rw [HL.out] at E0 ⊢
  obtain ⟨p0, p1, p2, p3, p4, pf⟩ := box5 E0
  have S0x : Sl w0 (Nf wb) (Fs.nil.app (Fs.ex x (Fs.ex y .nil))) ao := by rw [HK.out] at S0; exact S0
  obtain ⟨kb, off, ak, ck, hao, x0, x1, x2, x3, x4, SK⟩ := Sl.kidP S0x 0 rfl
  subst hao
  simp only [Nat.zero_mul, Nat.add_zero] at x0 x1 x2 x3 x4
  have c1 := must_q IH x ak ck wb bv b m none w0 hx (fun _ => hm) W0 (fun _ => N0) SK
  rw [exV_out] at c1
  go_wp2_with fail
  refine c1.mono ?_
  rintro z w1 ⟨rfl, W1, K1⟩
  have E1 := (K1.block _ (lt_of_block E0) (Ne.symm hwbx)).trans E0
  have S1 : Sl w1 (Nf wb) ((Fs.ex x .nil).app (Fs.ex y .nil)) (some ⟨kb, off, none⟩) := by
    have := Sl.keepF S0 K1
    rw [HK.out] at this
    exact this
  have N1 := N0.keep K1
  have KW : Keep wb w w1 := Keep.bel (by rw [← HB.out]; exact B0) K1
  clear c1 p0 p1 p2 p3 p4 pf x0 x1 x2 x3 x4 SK S0x S0 W0 N0 E0 B0 K1
  obtain ⟨p0, p1, p2, p3, p4, pf⟩ := box5 E1
  obtain ⟨kb', off', ak, ck, hao, x0, x1, x2, x3, x4, SK⟩ := Sl.kidP S1 1 rfl
  injection hao with hao
  injection hao with h1 h2
  subst h1
  subst h2
  have c2 := must_q IH y ak ck wb bv b m _ w1 hy (fun _ => hm) W1 (fun _ => N1) SK
  rw [exV_out] at c2
  go_wp2_with fail
  refine c2.mono ?_
  rintro z w2 ⟨rfl, W2, K2⟩
  have HZ : Hid (Wk w2 wb bv (musR (musR none m x b) m y b) ∧ Keep wb w w2) := ⟨W2, KW.trans K2⟩
  clear c2 W2 K2 KW p0 p1 p2 p3 p4 pf x0 x1 x2 x3 x4 SK S1 W1 N1 E1
  go_wp2
  refine bodyPost_ret (v := .int .i64 g) (by simp [results, Tryz.results47, go_sem]) rfl ⟨rfl, HZ.out.1, HZ.out.2⟩
end Go.Proofs.YtafnlhnenmpfoaaGreatDoor

/- The laws of package lex: are two lists of tokens the same? The first calls. -/
import Derived.Test.YtgebhhfliphpdaaDoorLexW
namespace Go.Proofs.YtgebhhfliphpdaaDoor
open Go.ChangeShapes Go.WideShapes Go.ChangeAt Go.RowKit
set_option linter.unusedVariables false

/-- A slice that reads as tokens. -/
def Tks (w : World) (v : Value) (ts : List Tk) : Prop :=
  ∃ ao cap, v = .slice ao ts.length cap ∧ (0 < ts.length → ∃ g, ao = some ⟨g, 0, none⟩ ∧ g < w.heap.size ∧ ∀ j, j < ts.length * 4 → w.cell? ⟨g, j, none⟩ = (tcells ts)[j]?)
theorem Tks.of {w : World} {b : Nat} {v : Value} {ts : List Tk} (h : w.ownsRow b 29 4 v ts.length (tcells ts)) : Tks w v ts := by
  have r : Row w (fun _ => 0) 0 29 4 v ts.length (tcells ts) := ⟨ownsRow_base0 h, fun _ _ => rfl⟩
  by_cases h0 : 0 < ts.length
  · obtain ⟨g, cap, rfl, _, _, _, hlt, hc, _⟩ := r.pos h0
    exact ⟨_, _, rfl, fun _ => ⟨g, rfl, hlt, hc⟩⟩
  · obtain ⟨ao, cap, rfl⟩ := r.form
    exact ⟨ao, cap, rfl, fun h => absurd h h0⟩
theorem Tks.nil (w : World) : Tks w (.slice none 0 0) [] := ⟨none, 0, rfl, fun h => by cases h⟩
theorem Tks.below {w w' : World} {v : Value} {ts : List Tk} (h : Tks w v ts) (b : Below w.heap.size w w') : Tks w' v ts := by
  obtain ⟨ao, cap, rfl, hx⟩ := h
  refine ⟨ao, cap, rfl, fun h0 => ?_⟩
  obtain ⟨g, rfl, hlt, hc⟩ := hx h0
  exact ⟨g, rfl, Nat.lt_of_lt_of_le hlt b.size, fun j hj => (b.cell (p := ⟨g, j, none⟩) hlt).trans (hc j hj)⟩
/-- What is read of one token. -/
theorem Tks.at {w : World} {v : Value} {ts : List Tk} (h : Tks w v ts) (i : Nat) (hi : i < ts.length) : ∃ g cap, v = .slice (some ⟨g, 0, none⟩) ts.length cap ∧
    w.cell? ⟨g, i * 4, none⟩ = some (.int .i64 ((ts[i]).k : Nat)) ∧ w.cell? ⟨g, i * 4 + 1, none⟩ = some (.int .i64 (ts[i]).n) ∧ w.cell? ⟨g, i * 4 + 2, none⟩ = some (.string ⟨(ts[i]).t.toArray⟩) ∧ w.cell? ⟨g, i * 4 + 3, none⟩ = some (.int .i64 ((ts[i]).a : Nat)) := by
  obtain ⟨ao, cap, rfl, hx⟩ := h
  obtain ⟨g, rfl, hlt, hc⟩ := hx (by omega)
  obtain ⟨p0, p1, p2, p3⟩ := tcells_at ts i hi
  exact ⟨g, cap, rfl, (hc _ (by omega)).trans p0, (hc _ (by omega)).trans p1, (hc _ (by omega)).trans p2, (hc _ (by omega)).trans p3⟩
set_option maxHeartbeats 1000000 in
theorem same_c (w : World) (v u : Value) (ts : List Tk) (hv : Tks w v ts) (hu : Tks w u ts) (hn : ts.length ≤ 2001) :
    Calls Tryd.prog 12 #[v, u] w fun e w' => e = .returned (.bool true) ∧ Below w.heap.size w w' := by
  have hv' := hv
  have hu' := hu
  obtain ⟨ao, ca, rfl, _⟩ := hv'
  obtain ⟨bo, cb, rfl, _⟩ := hu'
  have HV := Lib.hid hv
  have HU := Lib.hid hu
  clear hv hu
  generalize hN : ts.length = N at *
  have HNN := Lib.hid hN
  clear hN
  go_enter Tryd.func12, Tryd.ntmps12
  go_wp2
  go_loopw [5] (fun v wr => ∃ k m : Nat, k ≤ N ∧ v = .int .i64 (k : Nat) ∧ wr = w.drewN m) (fun v _ => N - (intOf v).toNat)
  case atStart => exact ⟨0, 0, by omega, by go_num, rfl⟩
  case round =>
    obtain ⟨k, m, hk, rfl, rfl⟩ := hrel
    by_cases hlt : k < N
    · have hlt' : k < ts.length := by rw [HNN.out]; exact hlt
      obtain ⟨g1, c1, e1, p0, p1, p2, p3⟩ := HV.out.at k hlt'
      obtain ⟨g2, c2, e2, q0, q1, q2, q3⟩ := HU.out.at k hlt'
      injection e1 with e1 _ _
      injection e2 with e2 _ _
      subst e1 e2
      have hkI : (k : Int) < (N : Int) := by omega
      generalize ts[k] = x at *
      obtain ⟨xk, xn, xt, xa⟩ := x
      simp only at p0 p1 p2 p3 q0 q1 q2 q3
      generalize (⟨xt.toArray⟩ : ByteArray) = tx at *
      clear hlt'
      go_wp2
      go_quiet (fail)
      rename_i nq
      go_wp2
      go_roundw
      case rel => (try ((repeat apply Exists.intro); refine ⟨?_, rfl⟩)); exact ⟨k + 1, m + nq, by omega, by go_num, by first | trivial | rw [World.drewN_drewN] | simp⟩
      case measure => simp [intOf]; omega
    · obtain rfl : k = N := by omega
      go_wp2
      go_ret
      exact ⟨rfl, bdr (b0 _) _⟩
/-- The tokens of the first call. -/
def tsA : List Tk := [⟨4, 0, [64], 0⟩, ⟨1, 5, [], 1⟩, ⟨4, 0, [33, 61], 2⟩, ⟨2, 0, [120], 4⟩, ⟨0, 0, [], 5⟩]
theorem scanA1 : scanA [64, 53, 33, 61, 120] = .inr tsA := by kernel_rfl
theorem scanA2 : scanA [97, 49, 32, 60, 61, 32, 48, 55] = .inl (111, 6) := by kernel_rfl
abbrev tcA : Array Value := #[.int .i64 4, .int .i64 0, .string ⟨#[64]⟩, .int .i64 0, .int .i64 1, .int .i64 5, .string ⟨#[]⟩, .int .i64 1, .int .i64 4, .int .i64 0, .string ⟨#[33, 61]⟩, .int .i64 2, .int .i64 2, .int .i64 0, .string ⟨#[120]⟩, .int .i64 4, .int .i64 0, .int .i64 0, .string ⟨#[]⟩, .int .i64 5]
theorem tksA (w : World) (t : TypeId) : Tks (w.alloc (.cells tcA t)) (.slice (some ⟨w.heap.size, 0, none⟩) 5 5) tsA := by
  refine ⟨_, 5, rfl, fun _ => ⟨w.heap.size, rfl, by simp, fun j hj => ?_⟩⟩
  rw [cell_of_row _ _ _ _ _ _ (heap_alloc_new w (.cells tcA t))]
  have : tcA.toList = tcells tsA := rfl
  rw [← this]
  simp
theorem ScanOut.inr {w w' : World} {v : Value} {er at0 : Int} {R : Res} {ts : List Tk} (h : ScanOut w w' v er at0 R) (hR : R = .inr ts) : er = 0 ∧ at0 = 0 ∧ w'.ownsRow w.heap.size 29 4 v ts.length (tcells ts) := by
  rcases h with ⟨e, p, h1, _⟩ | ⟨us, h1, h2, h3, h4⟩
  · rw [h1] at hR; cases hR
  · rw [h1] at hR
    injection hR with hR
    subst hR
    exact ⟨h2, h3, h4⟩
theorem ScanOut.inl {w w' : World} {v : Value} {er at0 : Int} {R : Res} {e p : Nat} (h : ScanOut w w' v er at0 R) (hR : R = .inl (e, p)) : er = (e : Nat) ∧ at0 = (p : Nat) ∧ v = .slice none 0 0 := by
  rcases h with ⟨e', p', h1, h2, h3, h4⟩ | ⟨us, h1, _⟩
  · rw [h1] at hR
    injection hR with hR
    injection hR with a b
    subst a b
    exact ⟨h3, h4, h2⟩
  · rw [h1] at hR; cases hR
set_option maxRecDepth 100000 in
theorem awake_c (w : World) (hW : Wd w) (hE : Ers w) :
    Calls Tryd.prog 9 #[] w fun e w' => e = .returned (.bool true) ∧ Below w.heap.size w w' := by
  go_enter Tryd.func9, Tryd.ntmps9
  go_wp2_with fail
  refine (scan_c ⟨#[64, 53, 33, 61, 120]⟩ w hW hE (by unfold maxLen; decide)).mono ?_
  rintro e w1 ⟨v1, er1, at1, rfl, ho1, hb1⟩
  obtain ⟨rfl, rfl, hr1⟩ := ho1.inr scanA1
  have T1 := Tks.of hr1
  clear ho1 hr1
  go_wp2_with fail
  refine (scan_c ⟨#[97, 49, 32, 60, 61, 32, 48, 55]⟩ w1 (hW.below hb1) (hE.below hb1) (by unfold maxLen; decide)).mono ?_
  rintro e w2 ⟨v2, er2, at2, rfl, ho2, hb2⟩
  obtain ⟨rfl, rfl, rfl⟩ := ho2.inl scanA2
  have T2 := T1.below hb2
  have B2 := hb1.trans (hb2.mono hb1.size)
  clear ho2 T1 hb1 hb2
  have T3 := T2.below (b1 w2 (.cells tcA 29))
  have T4 := tksA w2 29
  clear T2
  go_wp2_with fail
  refine (same_c _ _ _ tsA T3 T4 (by decide)).mono ?_
  rintro e w3 ⟨rfl, hb3⟩
  have B3 := B2.trans (((b1 w2 _).mono B2.size).trans (hb3.mono (by have := B2.size; simp; omega)))
  clear T3 T4 hb3
  go_wp2
  go_ret
  exact ⟨rfl, B3⟩
end Go.Proofs.YtgebhhfliphpdaaDoor

/- One side of the law SplayPlays: whatever is asked. -/
import Derived.Test.YthdmajddmajjoaaAskY
import Derived.Test.YthdmajddmajjoaaChgX
import Derived.Test.YthdmajddmajjoaaAskG
import Derived.Test.YthdmajddmajjoaaAskS
import Derived.Test.YthdmajddmajjoaaAskA
namespace Go.Proofs.Ythdmajddmajjoaa
open Go.ChangeShapes Go.WideShapes Go.ChangeAt Go.RowKit
set_option linter.unusedVariables false
set_option linter.unusedSimpArgs false

theorem SEL.sal {D k : Nat} (h : SEL D k) : SAL D k := by
  rcases h with h | h | h
  · exact SAL.of h
  · exact SAL.mk (by omega) (by omega)
  · exact SAL.mk (by omega) (by omega)
theorem RxS.items {w : World} {o : Nat → Nat} {R q room M : Nat} {s : Sta} (h : RxS w o R q room M s) : ∃ a c, w.cell? ⟨q, 1, none⟩ = some (.slice a (s.n + 1) c) := by
  obtain ⟨pa, vi, vn, vl, its, inL, ls, LL, X⟩ := h
  obtain ⟨-, c1, -, -, -⟩ := X.blk.cells4
  obtain ⟨a, c, rfl⟩ := X.ri.form
  exact ⟨a, c, c1⟩
theorem RxS.small {w : World} {o : Nat → Nat} {R q room M : Nat} {s : Sta} (h : RxS w o R q room M s) : s.n ≤ 1024 := by
  obtain ⟨pa, vi, vn, vl, its, inL, ls, LL, X⟩ := h
  exact X.small
set_option maxRecDepth 100000 in
theorem askNo {w : World} {o : Nat → Nat} {D ps p q room M : Nat} {s : Sta} {va vw : Value} (h : Sd w o D ps p q room M s va vw) (hM : M < 5500000000000) (u : OpX) (h3 : u.kd ≠ 3) (h7 : u.kd ≠ 7) (h8 : u.kd ≠ 8) (h9 : u.kd ≠ 9) (h10 : u.kd ≠ 10) (h11 : u.kd ≠ 11) (h12 : u.kd ≠ 12) :
    Calls Try.prog 8 #[pv ps, opxV u] w fun e w' => e = .returned (.bool true) ∧ ∃ o', Sd w' o' D ps p q room (M + 1) s va vw ∧ Step (SEL D) w o w' o' := by
  obtain ⟨kd, qa, qb, qv, qc, qf, qo⟩ := u
  simp only at h3 h7 h8 h9 h10 h11 h12
  have e3 : (kd == 3) = false := by simpa using h3
  have e7 : (kd == 7) = false := by simpa using h7
  have e8 : (kd == 8) = false := by simpa using h8
  have e9 : (kd == 9) = false := by simpa using h9
  have e10 : (kd == 10) = false := by simpa using h10
  have e11 : (kd == 11) = false := by simpa using h11
  have e12 : (kd == 12) = false := by simpa using h12
  have s1 := allocStep (fun _ => False) w o (opxObj ⟨kd, qa, qb, qv, qc, qf, qo⟩)
  have E : ∃ o', Sd (w.alloc (opxObj ⟨kd, qa, qb, qv, qc, qf, qo⟩)) o' D ps p q room (M + 1) s va vw ∧ Step (SEL D) w o (w.alloc (opxObj ⟨kd, qa, qb, qv, qc, qf, qo⟩)) o' := ⟨o, ⟨h.blk.step s1 id, h.f.step s1 (fun _ _ => id), (h.x.step s1 (fun _ _ => id)).more hM⟩, s1.mono fun _ hh => hh.elim⟩
  clear h s1
  simp only [opxV, pv, opxObj] at *
  go_enter Try.func8, Try.ntmps8
  go_wp2
  go_ret
  exact ⟨rfl, E⟩
/-- A call that leaves the lists alone, on a whole side. -/
theorem SA.call {w : World} {o : Nat → Nat} {D ps p q room M : Nat} {s t : Sta} {fn : FuncId} {args : Array Value} (h : SA w o D ps p q room M s) (c : ∀ va vw, Sd w o D ps p q room M s va vw → Calls Try.prog fn args w fun e w' => e = .returned (.bool true) ∧ ∃ o', Sd w' o' D ps p q room (M + 1) t va vw ∧ Step (SEL D) w o w' o') :
    Calls Try.prog fn args w fun e w' => e = .returned (.bool true) ∧ ∃ o', SA w' o' D ps p q room (M + 1) t ∧ Step (SAL D) w o w' o' := by
  obtain ⟨va, vw, als, wls, ls, h1, h2, h3, h4⟩ := h
  refine (c va vw h1).mono ?_
  rintro e w' ⟨rfl, o', S1, st⟩
  exact ⟨rfl, o', ⟨va, vw, als, wls, ls, S1, h2.step st (SEL.not (by omega)), h3.step st (SEL.not (by omega)), h4.step st (fun k h1 h2 => SEL.not (by omega))⟩, st.mono fun k hk => SEL.sal hk⟩
theorem SA.fo {w : World} {o : Nat → Nat} {D ps p q room M : Nat} {s : Sta} (h : SA w o D ps p q room M s) : FoS w o (D + 100) p room s := by
  obtain ⟨va, vw, als, wls, ls, h1, h2, h3, h4⟩ := h
  exact h1.f
theorem sel {D : Nat} {w : World} {o : Nat → Nat} {fn : FuncId} {args : Array Value} {Q : World → (Nat → Nat) → Prop} (h : Calls Try.prog fn args w fun e w' => e = .returned (.bool true) ∧ ∃ o', Q w' o' ∧ Step (SDL D) w o w' o') :
    Calls Try.prog fn args w fun e w' => e = .returned (.bool true) ∧ ∃ o', Q w' o' ∧ Step (SEL D) w o w' o' := by
  refine h.mono ?_
  rintro e w' ⟨rfl, o', q, st⟩
  exact ⟨rfl, o', q, st.mono fun _ hh => .inl hh⟩
theorem changes_sa {w : World} {o : Nat → Nat} {D ps p q room M : Nat} {s : Sta} (h : SA w o D ps p q room M s) (hM : M < 5500000000000) (hr : room ≤ 1024) (u : OpX) :
    ∃ t, Calls Try.prog 7 #[pv ps, opxV u] w fun e w' => e = .returned (.bool true) ∧ ∃ o', SA w' o' D ps p q room (M + 1) t ∧ Step (SAL D) w o w' o' := by
  obtain ⟨va, vw, als, wls, ls, h1, h2, h3, h4⟩ := h
  obtain ⟨t, c⟩ := changes_ok h1 hM hr u
  refine ⟨t, c.mono ?_⟩
  rintro e w' ⟨rfl, o', S1, st⟩
  have st := st.mono (J := SEL D) fun _ hh => .inl hh
  exact ⟨rfl, o', ⟨va, vw, als, wls, ls, S1, h2.step st (SEL.not (by omega)), h3.step st (SEL.not (by omega)), h4.step st (fun k h1 h2 => SEL.not (by omega))⟩, st.mono fun k hk => SEL.sal hk⟩
theorem asks_sa {w : World} {o : Nat → Nat} {D ps p q room M : Nat} {s : Sta} (h : SA w o D ps p q room M s) (hM : M < 5500000000000) (u : OpX) :
    Calls Try.prog 8 #[pv ps, opxV u] w fun e w' => e = .returned (.bool true) ∧ ∃ o', SA w' o' D ps p q room (M + 1) s ∧ Step (SAL D) w o w' o' := by
  by_cases h3 : u.kd = 3
  · obtain ⟨y, r, A, X⟩ := getBoth (M := M) h.fo hM u.a; exact h.call fun va vw g => ask3 g u y r h3 A X
  by_cases h7 : u.kd = 7
  · obtain ⟨m, r, A, X⟩ := sameBoth (M := M) h.fo hM u.a u.b; exact h.call fun va vw g => sel (ask7 g u m r h7 A X)
  by_cases h8 : u.kd = 8
  · obtain ⟨m, r, A, X⟩ := rankBoth (M := M) h.fo hM u.a; exact h.call fun va vw g => sel (ask8 g u m r h8 A X)
  by_cases h9 : u.kd = 9
  · obtain ⟨m, r, A, X⟩ := atBoth (M := M) h.fo hM u.a u.b; exact h.call fun va vw g => sel (ask9 g u m r h9 A X)
  by_cases h10 : u.kd = 10
  · obtain ⟨y, r, A, X⟩ := sumBoth (M := M) h.fo hM u.a; exact h.call fun va vw g => ask10 g u y r h10 A X
  by_cases h11 : u.kd = 11
  · obtain ⟨m, r, A, X⟩ := flagBoth (M := M) h.fo hM u.a u.b; exact h.call fun va vw g => sel (ask11 g u m r h11 A X)
  by_cases h12 : u.kd = 12
  · obtain ⟨xs, r, hxs, A, X⟩ := allBoth (M := M) h.fo u.a
    obtain ⟨va, vw, als, wls, ls, g1, g2, g3, g4⟩ := h
    have c : Calls Try.prog 8 #[pv ps, opxV u] w fun e w' => e = .returned (.bool true) ∧ ∃ o', SA w' o' D ps p q room M s ∧ Step (SAL D) w o w' o' := by
      by_cases hN : ls.length < 30
      · exact ask12n g1 g2 g3 g4 hN u h12 xs r hxs A X
      · exact ask12o g1 g2 g3 g4 hN u h12 xs r hxs A X
    refine c.mono ?_
    rintro e w' ⟨rfl, o', S1, st⟩
    exact ⟨rfl, o', S1.more hM, st⟩
  exact h.call fun va vw g => askNo g hM u h3 h7 h8 h9 h10 h11 h12
end Go.Proofs.Ythdmajddmajjoaa

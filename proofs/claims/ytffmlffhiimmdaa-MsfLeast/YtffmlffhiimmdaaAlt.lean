/- Chains of vertices and edges by turns: rooted anew, and with an edge more. No program. -/
import Derived.Test.YtffmlffhiimmdaaAsk6
namespace Go.Proofs.Ytffmlffhiimmdaa
open Go.ChangeShapes Go.WideShapes Go.ChangeAt Go.RowKit Go.Maps
set_option linter.unusedVariables false
variable {n : Nat} {ed : Nat → Option Ed} {R : Nat → List Nat}

theorem last_eq {p q : List Nat} {a b : Nat} (h : p ++ [a] = q ++ [b]) : p = q ∧ a = b := by
  have := List.append_inj' h rfl
  exact ⟨this.1, by simpa using this.2⟩
theorem live_cases {k : Nat} (h : liveN n ed k) : (∃ i x, k = 2 * i + 2 ∧ ed i = some x) ∨ (∃ v, k = 2 * v + 1 ∧ v < n) := by
  unfold liveN at h
  split at h
  · obtain ⟨x, hx⟩ := Option.isSome_iff_exists.1 h.2
    exact .inl ⟨(k - 2) / 2, x, by omega, hx⟩
  · exact .inr ⟨(k - 1) / 2, by omega, by omega⟩
/-- What follows upon an edge, or upon a vertex, in a chain. -/
theorem Alt.next_e (A : Alt n ed R) (ok : EdOk n ed) (hT : Rt (liveN n ed) R) {i y : Nat} {x : Ed} (hx : ed i = some x) (ly : liveN n ed y) (e : R y = R (2 * i + 2) ++ [y]) {a b : Nat} (ab : (a = x.u ∧ b = x.v) ∨ (a = x.v ∧ b = x.u)) (ea : R (2 * i + 2) = R (2 * a + 1) ++ [2 * i + 2]) : y = 2 * b + 1 := by
  have li : liveN n ed (2 * i + 2) := liveN_e.2 (by rw [hx]; rfl)
  obtain ⟨_, o1, o2, _⟩ := ok i x hx
  have la : liveN n ed (2 * a + 1) := liveN_v (by omega)
  obtain ⟨p, hp⟩ := hT.last _ li
  rcases live_cases ly with ⟨j, z, rfl, hz⟩ | ⟨v, rfl, hv⟩
  · exfalso
    obtain ⟨c, d, cd, q1, _⟩ := A.e j z hz
    obtain ⟨_, o3, o4, _⟩ := ok j z hz
    rw [q1] at e
    have q := (last_eq e).1
    obtain ⟨p2, hp2⟩ := hT.last _ (liveN_v (ed := ed) (show c < n by omega))
    rw [hp, hp2] at q
    have := (last_eq q).2
    omega
  · rcases A.v v hv with q | ⟨j, z, hz, hvz, q⟩
    · rw [q, hp] at e
      have := congrArg List.length e
      simp at this
    · rw [q] at e
      have q2 := (last_eq e).1
      obtain ⟨p2, hp2⟩ := hT.last _ (liveN_e.2 (show (ed j).isSome = true by rw [hz]; rfl) : liveN n ed (2 * j + 2))
      rw [hp, hp2] at q2
      have q3 := (last_eq q2).2
      have : j = i := by omega
      subst this
      rw [hx] at hz
      simp at hz
      subst hz
      have na : v ≠ a := fun h => by
        subst h
        have nn := hT.nodup _ (liveN_v (ed := ed) hv)
        rw [q] at nn
        have m : 2 * v + 1 ∈ R (2 * j + 2) := by
          rw [ea]
          obtain ⟨p3, hp3⟩ := hT.last _ la
          rw [hp3]; simp
        exact (List.nodup_append.1 nn).2.2 _ m _ (by simp) rfl
      omega
theorem Alt.turn (A : Alt n ed R) (ok : EdOk n ed) (hT : Rt (liveN n ed) R) {u : Nat} (hu : u < n) : Alt n ed (turnR R (2 * u + 1)) := by
  have lu : liveN n ed (2 * u + 1) := liveN_v hu
  refine ⟨fun i x hx => ?_, fun v hv => ?_⟩
  · obtain ⟨a, b, ab, ea, eb⟩ := A.e i x hx
    obtain ⟨_, o1, o2, _⟩ := ok i x hx
    have la : liveN n ed (2 * a + 1) := liveN_v (by omega)
    have lb : liveN n ed (2 * b + 1) := liveN_v (by omega)
    have li : liveN n ed (2 * i + 2) := liveN_e.2 (by rw [hx]; rfl)
    by_cases m : 2 * b + 1 ∈ R (2 * u + 1)
    · obtain ⟨q, hq⟩ := hT.pre _ lu _ m
      have t1 := hT.turn_on lu lb hq
      have t2 := hT.turn_on (q := (2 * b + 1) :: q) lu li (by rw [hq, eb]; simp)
      have t3 := hT.turn_on (q := (2 * i + 2) :: (2 * b + 1) :: q) lu la (by rw [hq, eb, ea]; simp)
      exact ⟨b, a, by omega, by rw [t2, t1]; simp, by rw [t3, t2]; simp⟩
    · have mi : 2 * i + 2 ∉ R (2 * u + 1) := fun mi => by
        obtain ⟨q, hq⟩ := hT.pre _ lu _ mi
        cases q with
        | nil =>
          obtain ⟨p, hp⟩ := hT.last _ lu
          obtain ⟨p2, hp2⟩ := hT.last _ li
          rw [hp, hp2, List.append_nil] at hq
          have := (last_eq hq).2
          omega
        | cons y q =>
          have ly : liveN n ed y := hT.mem _ lu y (by rw [hq]; simp)
          have ey := hT.at lu hq
          have := A.next_e ok hT hx ly ey ab ea
          subst this
          exact m (by rw [hq]; simp)
      exact ⟨a, b, ab, hT.turn_off lu la li ea mi, hT.turn_off lu li lb eb m⟩
  · have lv : liveN n ed (2 * v + 1) := liveN_v hv
    by_cases vu : v = u
    · subst vu; exact .inl (hT.turn_n lu)
    · by_cases m : 2 * v + 1 ∈ R (2 * u + 1)
      · obtain ⟨q, hq⟩ := hT.pre _ lu _ m
        cases q with
        | nil =>
          exfalso
          obtain ⟨p, hp⟩ := hT.last _ lu
          obtain ⟨p2, hp2⟩ := hT.last _ lv
          rw [hp, hp2, List.append_nil] at hq
          have := (last_eq hq).2
          omega
        | cons z q =>
          have lz : liveN n ed z := hT.mem _ lu z (by rw [hq]; simp)
          have ez := hT.at lu hq
          obtain ⟨pv, hpv⟩ := hT.last _ lv
          rcases live_cases lz with ⟨j, x, rfl, hx⟩ | ⟨y, rfl, hy⟩
          · obtain ⟨a, b, ab, ea, eb⟩ := A.e j x hx
            obtain ⟨_, o1, o2, _⟩ := ok j x hx
            obtain ⟨pa, hpa⟩ := hT.last _ (liveN_v (ed := ed) (show a < n by omega))
            rw [ea] at ez
            have e1 := (last_eq ez).1
            rw [hpa, hpv] at e1
            have e2 := (last_eq e1).2
            have t1 := hT.turn_on lu lv hq
            have t2 := hT.turn_on (q := q) lu lz (by rw [hq, ea, ← hpa, ← (last_eq ez).1] at *; simp)
            exact .inr ⟨j, x, hx, by omega, by rw [t1, t2]; simp⟩
          · exfalso
            rcases A.v y hy with r | ⟨j, x, hx, _, r⟩
            · rw [r, hpv] at ez
              have := congrArg List.length ez
              simp at this
            · rw [r] at ez
              have e1 := (last_eq ez).1
              obtain ⟨pj, hpj⟩ := hT.last _ (liveN_e.2 (show (ed j).isSome = true by rw [hx]; rfl) : liveN n ed (2 * j + 2))
              rw [hpj, hpv] at e1
              have := (last_eq e1).2
              omega
      · rcases A.v v hv with r | ⟨j, x, hx, hvx, r⟩
        · by_cases oo : OneT R (2 * v + 1) (2 * u + 1)
          · exfalso
            unfold OneT at oo
            rw [r] at oo
            refine m ?_
            cases hR : R (2 * u + 1) with
            | nil => rw [hR] at oo; simp at oo
            | cons c C => rw [hR] at oo; simp at oo; rw [oo]; simp
          · refine .inl ?_
            unfold turnR; rw [if_neg oo]; exact r
        · have lj : liveN n ed (2 * j + 2) := liveN_e.2 (by rw [hx]; rfl)
          exact .inr ⟨j, x, hx, hvx, hT.turn_off lu lj lv r m⟩

end Go.Proofs.Ytffmlffhiimmdaa

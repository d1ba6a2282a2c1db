/- Lists of edges that the laws keep; where one stands; the heavier one; ways that fall into two. -/
import Derived.Test.YtddjaldamfileaaEvertsWalk
namespace Go.Proofs.Ytddjaldamfileaa
open Go.ChangeShapes Go.WideShapes Go.ChangeAt Go.RowKit Go.Maps
set_option linter.unusedVariables false

/-- The cells of a list of edges: ID, U, V, Weight. -/
def ev (x : Nat × Ed) : List Value := [.int .i64 (x.1 : Nat), .int .i64 (x.2.u : Nat), .int .i64 (x.2.v : Nat), .int .i64 x.2.w]
def elv (l : List (Nat × Ed)) : List Value := l.flatMap ev
theorem elv_len (l : List (Nat × Ed)) : (elv l).length = l.length * 4 := by
  induction l with
  | nil => rfl
  | cons x l ih => simp only [elv, List.flatMap_cons, List.length_append] at ih ⊢; rw [ih]; simp [ev]; omega
theorem elv_snoc (l : List (Nat × Ed)) (x : Nat × Ed) : elv (l ++ [x]) = elv l ++ ev x := by simp [elv]
theorem elv_get : ∀ (l : List (Nat × Ed)) (j c : Nat) (hj : j < l.length) (hc : c < 4), (elv l)[j * 4 + c]? = (ev l[j])[c]?
  | x :: l, 0, c, _, hc => by
    simp only [elv, List.flatMap_cons, Nat.zero_mul, Nat.zero_add, List.getElem_cons_zero]
    rw [List.getElem?_append_left (by simp [ev]; omega)]
  | x :: l, j + 1, c, hj, hc => by
    simp only [elv, List.flatMap_cons, List.getElem_cons_succ]
    have e : (j + 1) * 4 + c = (ev x).length + (j * 4 + c) := by simp [ev]; omega
    rw [e, List.getElem?_append_right (by omega), Nat.add_sub_cancel_left]
    exact elv_get l j c (by simpa using hj) hc
theorem infoEdge : (Try.prog.info? 42).map (fun i => (i.zero, i.size, i.bytes)) = some (some (.agg #[.int .i64 0, .int .i64 0, .int .i64 0, .int .i64 0]), 4, 32) := by kernel_rfl

/-- Where the edge of an ID stands. -/
def IdIs (l : List (Nat × Ed)) (q : Int) (r : Int) : Prop := (∃ k, ∃ h : k < l.length, r = (k : Nat) ∧ ((l[k].1 : Nat) : Int) = q ∧ ∀ j, ∀ hj : j < l.length, j < k → ((l[j].1 : Nat) : Int) ≠ q) ∨ (r = -1 ∧ ∀ j, ∀ hj : j < l.length, ((l[j].1 : Nat) : Int) ≠ q)

set_option maxRecDepth 100000 in
theorem id_any (w : World) (o : Nat → Nat) (lb : Nat) (v : Value) (l : List (Nat × Ed)) (q : Int) (hr : Row w o lb 42 4 v l.length (elv l)) (hl : l.length ≤ 1000000) :
    Calls Try.prog 14 #[v, .int .i64 q] w fun e w' => ∃ r, e = .returned (.int .i64 r) ∧ IdIs l q r ∧ w' = w := by
  obtain ⟨ao, cap, rfl⟩ := hr.form
  have HC : Hid (∀ k, ∀ h : k < l.length, ∃ g, ao = some ⟨g, 0, none⟩ ∧ w.cell? ⟨g, k * 4, none⟩ = some (.int .i64 ((l[k].1 : Nat) : Int))) := fun k h => by
    obtain ⟨g, cap', e, _, _, _, _, hc, _⟩ := hr.pos (by omega)
    simp only [Value.slice.injEq, true_and] at e
    refine ⟨g, e.1, ?_⟩
    rw [hc (k * 4) (by omega)]
    have := elv_get l k 0 h (by omega)
    rw [Nat.add_zero] at this
    rw [this]; rfl
  clear hr
  go_enter Try.func14, Try.ntmps14
  go_wp2
  go_loopw [5] (fun vk wr => wr = w ∧ ∃ k : Nat, k ≤ l.length ∧ vk = .int .i64 (k : Nat) ∧ ∀ j, ∀ hj : j < l.length, j < k → ((l[j].1 : Nat) : Int) ≠ q) (fun vk _ => l.length - (intOf vk).toNat)
  case atStart => exact ⟨rfl, 0, by omega, by go_num, fun j _ h => by omega⟩
  case round =>
    obtain ⟨rfl, k, hk, rfl, hno⟩ := hrel
    by_cases hlt : k < l.length
    · obtain ⟨g, rfl, c⟩ := HC.out k hlt
      have b : (k : Int) < (l.length : Int) := by omega
      by_cases hq : ((l[k].1 : Nat) : Int) = q
      · have R : IdIs l q (k : Nat) := .inl ⟨k, hlt, rfl, hq, hno⟩
        rw [hq] at c
        clear HC hno
        go_wp2
        go_ret
        exact ⟨_, rfl, R, rfl⟩
      · have hn2 : ∀ j, ∀ hj : j < l.length, j < k + 1 → ((l[j].1 : Nat) : Int) ≠ q := fun j hj h => by
          by_cases e : j = k
          · subst e; exact hq
          · exact hno j hj (by omega)
        generalize ((l[k].1 : Nat) : Int) = x at c hq
        have hd : (x == q) = false := by simp only [beq_eq_false_iff_ne, ne_eq]; exact hq
        clear HC hno
        go_wp2
        go_roundw
        case rel => exact ⟨by first | rfl | trivial, k + 1, by omega, by go_num, hn2⟩
        case measure => simp [intOf]; omega
    · obtain rfl : k = l.length := by omega
      have R : IdIs l q (-1) := .inr ⟨rfl, fun j hj => hno j hj hj⟩
      clear HC hno
      go_wp2
      go_ret
      exact ⟨_, rfl, R, rfl⟩

theorem newB5 (w : World) (o : Nat → Nat) (ob : Obj) : Step (fun _ => False) w o (w.alloc ob) o := allocStep _ w o ob
theorem heavier_law (w : World) (o : Nat → Nat) (a1 a2 a3 a4 b1 b2 b3 b4 : Int) :
    Calls Try.prog 24 #[.agg #[.int .i64 a1, .int .i64 a2, .int .i64 a3, .int .i64 a4], .agg #[.int .i64 b1, .int .i64 b2, .int .i64 b3, .int .i64 b4]] w fun e w' => e = .returned (.bool (decide (b4 < a4 ∨ (a4 = b4 ∧ b1 < a1)))) ∧ Step (fun _ => False) w o w' o := by
  by_cases h1 : b4 < a4
  · rw [decide_eq_true (show b4 < a4 ∨ (a4 = b4 ∧ b1 < a1) from .inl h1)]
    go_enter Try.func24, Try.ntmps24
    go_wp2
    go_ret
    exact ⟨rfl, (newB5 _ _ _).trans (newB5 _ _ _)⟩
  · have d1 : decide (b4 < a4) = false := decide_eq_false h1
    by_cases h2 : a4 = b4
    · subst h2
      by_cases h3 : b1 < a1
      · rw [decide_eq_true (show a4 < a4 ∨ (a4 = a4 ∧ b1 < a1) from .inr ⟨rfl, h3⟩)]
        go_enter Try.func24, Try.ntmps24
        go_wp2
        go_ret
        exact ⟨rfl, (newB5 _ _ _).trans (newB5 _ _ _)⟩
      · have d3 : decide (b1 < a1) = false := decide_eq_false h3
        rw [decide_eq_false (show ¬ (a4 < a4 ∨ (a4 = a4 ∧ b1 < a1)) by omega)]
        go_enter Try.func24, Try.ntmps24
        go_wp2
        go_ret
        exact ⟨by first | rfl | exact ret_bool (by simp [d3]), (newB5 _ _ _).trans (newB5 _ _ _)⟩
    · have d2 : (a4 == b4) = false := by simp only [beq_eq_false_iff_ne, ne_eq]; exact h2
      rw [decide_eq_false (show ¬ (b4 < a4 ∨ (a4 = b4 ∧ b1 < a1)) by omega)]
      go_enter Try.func24, Try.ntmps24
      go_wp2
      go_ret
      exact ⟨by first | rfl | exact ret_bool (by simp [d1, h2]), (newB5 _ _ _).trans (newB5 _ _ _)⟩

section
variable {n : Nat} {ed : Nat → Option Ed} {R : Nat → List Nat}
/-- A way, cut at a vertex on it. -/
theorem way_cut (hT : Rt (liveN n ed) R) {u v x : Nat} (hu : u < n) (hv : v < n) (hx : x < n) (hd : (R (2 * u + 1)).head? = (R (2 * v + 1)).head?) (hdx : (R (2 * u + 1)).head? = (R (2 * x + 1)).head?) {A B : List Nat} (e : way R u v = A ++ (2 * x + 1) :: B) :
    way R u x = A ++ [2 * x + 1] ∧ way R x v = (2 * x + 1) :: B := by
  have lu : liveN n ed (2 * u + 1) := liveN_v hu
  have lv : liveN n ed (2 * v + 1) := liveN_v hv
  refine ⟨?_, ?_⟩
  · rw [way_turn hdx]
    rw [way_turn hd] at e
    exact (hT.turn lu).at lv e
  · have e2 : way R v u = B.reverse ++ (2 * x + 1) :: A.reverse := by rw [way_back hT hu hv hd, e]; simp
    rw [way_turn hd.symm] at e2
    have := (hT.turn lv).at lu e2
    rw [← way_turn (hd.symm.trans hdx)] at this
    rw [way_back hT hv hx (hd.symm.trans hdx), this]; simp
/-- What follows upon a vertex on a way: an edge of it, and the other end. -/
theorem way_next (A0 : Alt n ed R) (ok : EdOk n ed) (hT : Rt (liveN n ed) R) {u v x : Nat} (hu : u < n) (hv : v < n) (hx : x < n) (hd : (R (2 * u + 1)).head? = (R (2 * v + 1)).head?) {A B : List Nat} {zz : Nat} (e : way R u v = A ++ (2 * x + 1) :: zz :: B) :
    ∃ i y b B', zz = 2 * i + 2 ∧ ed i = some y ∧ B = (2 * b + 1) :: B' ∧ b < n ∧ ((x = y.u ∧ b = y.v) ∨ (x = y.v ∧ b = y.u)) := by
  have lu : liveN n ed (2 * u + 1) := liveN_v hu
  have lv : liveN n ed (2 * v + 1) := liveN_v hv
  have lx : liveN n ed (2 * x + 1) := liveN_v hx
  have At := A0.turn ok hT hu
  have hT2 := hT.turn lu
  rw [way_turn hd] at e
  have ex := hT2.at lv e
  have e3 : turnR R (2 * u + 1) (2 * v + 1) = (A ++ [2 * x + 1]) ++ zz :: B := by rw [e]; simp
  have ez := hT2.at lv e3
  have lz : liveN n ed zz := hT2.mem _ lv zz (by rw [e3]; simp)
  obtain ⟨pv, hpv⟩ := hT2.last _ lv
  rcases live_cases lz with ⟨i, y, rfl, hy⟩ | ⟨c, rfl, hc⟩
  · obtain ⟨a, b, ab, ea, eb⟩ := At.e i y hy
    obtain ⟨_, o1, o2, _⟩ := ok i y hy
    obtain ⟨pa, hpa⟩ := hT2.last _ (liveN_v (ed := ed) (show a < n by omega))
    rw [ea, hpa] at ez
    have q := (last_eq ez).1
    have ax : 2 * a + 1 = 2 * x + 1 := (last_eq q).2
    have ax : a = x := by omega
    cases B with
    | nil =>
      rw [hpv] at e3
      have := (last_eq (p := pv) (q := A ++ [2 * x + 1]) (by rw [e3])).2
      omega
    | cons d B' =>
      have e4 : turnR R (2 * u + 1) (2 * v + 1) = (A ++ [2 * x + 1, 2 * i + 2]) ++ d :: B' := by rw [e]; simp
      have ed4 := hT2.at lv e4
      have ld : liveN n ed d := hT2.mem _ lv d (by rw [e4]; simp)
      have ez2 := hT2.at lv e3
      have : d = 2 * b + 1 := At.next_e ok hT2 hy ld (by rw [ed4, ez2]; simp) ab ea
      exact ⟨i, y, b, B', rfl, hy, by rw [this], by omega, by omega⟩
  · exfalso
    rcases At.v c hc with q | ⟨j, y, hy, _, q⟩
    · rw [q] at ez
      have := congrArg List.length ez
      simp at this
    · rw [q] at ez
      have e5 := (last_eq ez).1
      obtain ⟨pj, hpj⟩ := hT2.last _ (liveN_e.2 (show (ed j).isSome = true by rw [hy]; rfl) : liveN n ed (2 * j + 2))
      rw [hpj] at e5
      have := (last_eq e5).2
      omega
theorem idl_odd (x : Nat) (X : List Nat) : idl ((2 * x + 1) :: X) = idl X := by simp [idl]
theorem idl_even (i : Nat) (X : List Nat) : idl ((2 * i + 2) :: X) = i :: idl X := by
  have : (2 * i + 2) % 2 = 0 := by omega
  have e : (2 * i + 2 - 2) / 2 = i := by omega
  simp [idl, this]
end

end Go.Proofs.Ytddjaldamfileaa

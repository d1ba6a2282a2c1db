/- Rooted trees told by chains: of each node the list of nodes from its root down to it; what it is to root a tree anew. No program. -/
import Derived.WalkKit
namespace Go.Proofs.Ytffmlffhiimmdaa
set_option linter.unusedVariables false

/-- The way from the end of the first list to the end of the second one; both begin at one root. -/
def tn : List Nat → List Nat → List Nat
  | _ :: a :: A, b :: c :: B => if a = c then tn (a :: A) (c :: B) else (a :: A).reverse ++ (b :: c :: B)
  | _ :: A, b :: B => A.reverse ++ (b :: B)
  | _, B => B
/-- Two lists do not go on alike. -/
def Apart (X Y : List Nat) : Prop := ∀ x y, X.head? = some x → Y.head? = some y → x ≠ y
theorem Apart.symm {X Y : List Nat} (h : Apart X Y) : Apart Y X := fun x y hx hy e => h y x hy hx e.symm
theorem tn_eq (P : List Nat) (c : Nat) (X Y : List Nat) (h : Apart X Y) : tn (P ++ c :: X) (P ++ c :: Y) = X.reverse ++ c :: Y := by
  induction P with
  | nil =>
    cases X with
    | nil => cases Y <;> simp [tn]
    | cons x X =>
      cases Y with
      | nil => simp [tn]
      | cons y Y =>
        have := h x y rfl rfl
        simp [tn, this]
  | cons p P ih =>
    cases P with
    | nil =>
      show tn (p :: c :: X) (p :: c :: Y) = _
      unfold tn
      rw [if_pos rfl]
      exact ih
    | cons q P =>
      show tn (p :: q :: (P ++ c :: X)) (p :: q :: (P ++ c :: Y)) = _
      unfold tn
      rw [if_pos rfl]
      exact ih
theorem parts : ∀ (A B : List Nat) (r : Nat), A.head? = some r → B.head? = some r → ∃ P c X Y, A = P ++ c :: X ∧ B = P ++ c :: Y ∧ Apart X Y := by
  intro A
  induction A with
  | nil => intro B r h; simp at h
  | cons a A ih =>
    intro B r h1 h2
    cases B with
    | nil => simp at h2
    | cons b B =>
      simp at h1 h2
      subst h1
      subst h2
      by_cases e : ∃ x, A.head? = some x ∧ B.head? = some x
      · obtain ⟨x, e1, e2⟩ := e
        obtain ⟨P, c, X, Y, h1, h2, h3⟩ := ih B x e1 e2
        exact ⟨b :: P, c, X, Y, by rw [h1]; rfl, by rw [h2]; rfl, h3⟩
      · exact ⟨[], b, A, B, rfl, rfl, fun x y hx hy he => e ⟨x, hx, by rw [hy, he]⟩⟩
theorem tn_reverse (A B : List Nat) (r : Nat) (h1 : A.head? = some r) (h2 : B.head? = some r) : (tn A B).reverse = tn B A := by
  obtain ⟨P, c, X, Y, rfl, rfl, h⟩ := parts A B r h1 h2
  rw [tn_eq P c X Y h, tn_eq P c Y X h.symm]
  simp
theorem tn_self (A : List Nat) (a : Nat) : tn (A ++ [a]) (A ++ [a]) = [a] := by
  rw [tn_eq A a [] [] (fun x y h => by simp at h)]; rfl
theorem tn_head (A B : List Nat) (r n : Nat) (p : List Nat) (h1 : A.head? = some r) (h2 : B.head? = some r) (hA : A = p ++ [n]) : (tn A B).head? = some n := by
  obtain ⟨P, c, X, Y, e1, e2, h⟩ := parts A B r h1 h2
  rw [e1, e2, tn_eq P c X Y h]
  rw [hA] at e1
  have : (P ++ c :: X).reverse.head? = some n := by rw [← e1]; simp
  simp only [List.reverse_append, List.reverse_cons, List.append_assoc] at this
  cases hX : X.reverse with
  | nil => rw [hX] at this; simpa using this
  | cons x Z => rw [hX] at this; simpa using this
/-- Chains. -/
structure Rt (live : Nat → Prop) (R : Nat → List Nat) : Prop where
  last : ∀ n, live n → ∃ p, R n = p ++ [n]
  mem : ∀ n, live n → ∀ x ∈ R n, live x
  pre : ∀ n, live n → ∀ x ∈ R n, ∃ q, R n = R x ++ q
  nodup : ∀ n, live n → (R n).Nodup
/-- Of one tree. -/
abbrev OneT (R : Nat → List Nat) (m n : Nat) : Prop := (R m).head? = (R n).head?
/-- Rooted anew. -/
def turnR (R : Nat → List Nat) (n : Nat) : Nat → List Nat := fun x => if OneT R x n then tn (R n) (R x) else R x
theorem Rt.head {live : Nat → Prop} {R : Nat → List Nat} (h : Rt live R) {n : Nat} (hn : live n) : ∃ r, (R n).head? = some r ∧ live r ∧ R r = [r] := by
  obtain ⟨p, e⟩ := h.last n hn
  cases hR : R n with
  | nil => rw [hR] at e; simp at e
  | cons r X =>
    have hm : r ∈ R n := by rw [hR]; simp
    have lr := h.mem n hn r hm
    refine ⟨r, rfl, lr, ?_⟩
    obtain ⟨q, hq⟩ := h.pre n hn r hm
    obtain ⟨p2, e2⟩ := h.last r lr
    have nd := h.nodup n hn
    rw [hR] at hq
    rw [e2] at hq
    cases p2 with
    | nil => simpa using e2
    | cons y p2 =>
      simp only [List.cons_append, List.cons.injEq] at hq
      obtain ⟨rfl, hq⟩ := hq
      rw [hR, hq] at nd
      simp at nd
theorem Rt.two {live : Nat → Prop} {R : Nat → List Nat} (h : Rt live R) {m n : Nat} (hm : live m) (hn : live n) (e : OneT R m n) : ∃ P c X Y, R n = P ++ c :: X ∧ R m = P ++ c :: Y ∧ Apart X Y := by
  obtain ⟨r, h1, _, _⟩ := h.head hn
  exact parts _ _ r h1 (by rw [e]; exact h1)
theorem Rt.turn_n {live : Nat → Prop} {R : Nat → List Nat} (h : Rt live R) {n : Nat} (hn : live n) : turnR R n n = [n] := by
  unfold turnR
  rw [if_pos (show OneT R n n from rfl)]
  obtain ⟨p, e⟩ := h.last n hn
  rw [e]; exact tn_self p n
/-- A node that is on the chain. -/
theorem Rt.turn_on {live : Nat → Prop} {R : Nat → List Nat} (h : Rt live R) {n x : Nat} {q : List Nat} (hn : live n) (hx : live x) (e : R n = R x ++ q) : turnR R n x = q.reverse ++ [x] := by
  obtain ⟨p, e2⟩ := h.last x hx
  have ho : OneT R x n := by unfold OneT; rw [e, e2]; cases p <;> simp
  unfold turnR
  rw [if_pos ho, e, e2, List.append_assoc, List.singleton_append]
  exact tn_eq p x q [] (fun a b _ hb => by simp at hb)
/-- A node that hangs below another one, and is not on the chain. -/
theorem Rt.turn_off {live : Nat → Prop} {R : Nat → List Nat} (h : Rt live R) {n x y : Nat} (hn : live n) (hx : live x) (hy : live y) (e : R y = R x ++ [y]) (hno : y ∉ R n) : turnR R n y = turnR R n x ++ [y] := by
  obtain ⟨p, e2⟩ := h.last x hx
  have hh : (R y).head? = (R x).head? := by rw [e, e2]; cases p <;> simp
  unfold turnR
  by_cases o : OneT R x n
  · have o2 : OneT R y n := by unfold OneT at *; rw [hh]; exact o
    rw [if_pos o, if_pos o2]
    obtain ⟨P, c, X, Y, h1, h2, h3⟩ := h.two hx hn o
    rw [e, h1, h2, tn_eq P c X Y h3, List.append_assoc, List.cons_append, tn_eq P c X (Y ++ [y]) ?_]
    · simp
    · intro a b ha hb hab
      cases Y with
      | nil =>
        simp at hb
        subst hb
        cases X with
        | nil => simp at ha
        | cons z X => simp at ha; subst ha; apply hno; rw [h1, hab]; simp
      | cons w Y => exact h3 a b ha (by simpa using hb) hab
  · have o2 : ¬ OneT R y n := by unfold OneT at *; rw [hh]; exact o
    rw [if_neg o, if_neg o2, e]

/-- Where a node stands on a chain. -/
theorem Rt.at {live : Nat → Prop} {R : Nat → List Nat} (h : Rt live R) {n y : Nat} {A B : List Nat} (hn : live n) (e : R n = A ++ y :: B) : R y = A ++ [y] := by
  have hm : y ∈ R n := by rw [e]; simp
  obtain ⟨q, hq⟩ := h.pre n hn y hm
  obtain ⟨p, hp⟩ := h.last y (h.mem n hn y hm)
  have nd := h.nodup n hn
  rw [hp] at hq ⊢
  rw [e, List.append_assoc, List.singleton_append] at hq
  rw [e] at nd
  have hA : y ∉ A := fun hy => by
    rw [List.nodup_append] at nd
    exact nd.2.2 y hy y (by simp) rfl
  have hp2 : y ∉ p := fun hy => by
    rw [hq, List.nodup_append] at nd
    exact nd.2.2 y hy y (by simp) rfl
  rcases List.append_eq_append_iff.1 hq with ⟨u, e1, e2⟩ | ⟨u, e1, e2⟩
  · cases u with
    | nil => simp at e1; rw [e1]
    | cons z u => simp only [List.cons_append, List.cons.injEq] at e2; exact absurd (by rw [e1, ← e2.1]; simp) hp2
  · cases u with
    | nil => simp at e1; rw [e1]
    | cons z u => simp only [List.cons_append, List.cons.injEq] at e2; exact absurd (by rw [e1, ← e2.1]; simp) hA
theorem apart_head {X Y Y' : List Nat} (h : Apart X Y) (e : Y'.head? = Y.head?) : Apart X Y' := fun a b ha hb => h a b ha (by rw [← e]; exact hb)
/-- Rooted anew, chains are chains. -/
theorem Rt.turn {live : Nat → Prop} {R : Nat → List Nat} (h : Rt live R) {n : Nat} (hn : live n) : Rt live (turnR R n) := by
  have key : ∀ x, live x → OneT R x n → ∃ P c X Y, R n = P ++ c :: X ∧ R x = P ++ c :: Y ∧ Apart X Y ∧ turnR R n x = X.reverse ++ c :: Y := fun x hx o => by
    obtain ⟨P, c, X, Y, h1, h2, h3⟩ := h.two hx hn o
    exact ⟨P, c, X, Y, h1, h2, h3, by unfold turnR; rw [if_pos o, h1, h2, tn_eq P c X Y h3]⟩
  have off : ∀ x, ¬ OneT R x n → turnR R n x = R x := fun x o => by unfold turnR; rw [if_neg o]
  refine ⟨fun x hx => ?_, fun x hx z hz => ?_, fun x hx y hy => ?_, fun x hx => ?_⟩
  · by_cases o : OneT R x n
    · obtain ⟨P, c, X, Y, h1, h2, h3, h4⟩ := key x hx o
      obtain ⟨p, hp⟩ := h.last x hx
      rw [h4]
      rw [h2] at hp
      rcases List.eq_nil_or_concat Y with rfl | ⟨Z, z, rfl⟩
      · have := List.append_inj' hp rfl
        simp at this
        exact ⟨X.reverse, by rw [this.2]⟩
      · rw [List.concat_eq_append] at hp ⊢
        have e : P ++ c :: (Z ++ [z]) = (P ++ c :: Z) ++ [z] := by simp
        rw [e] at hp
        have := List.append_inj' hp rfl
        simp at this
        exact ⟨X.reverse ++ c :: Z, by rw [this.2]; simp⟩
    · rw [off x o]; exact h.last x hx
  · by_cases o : OneT R x n
    · obtain ⟨P, c, X, Y, h1, h2, h3, h4⟩ := key x hx o
      rw [h4] at hz
      rcases List.mem_append.1 hz with q | q
      · exact h.mem n hn z (by rw [h1]; simp at q; simp [q])
      · exact h.mem x hx z (by rw [h2]; simp at q ⊢; rcases q with q | q <;> simp [q])
    · rw [off x o] at hz; exact h.mem x hx z hz
  · by_cases o : OneT R x n
    · obtain ⟨P, c, X, Y, h1, h2, h3, h4⟩ := key x hx o
      rw [h4] at hy ⊢
      rcases List.mem_append.1 hy with q | q
      · have q2 : y ∈ X := by simpa using q
        obtain ⟨X1, X2, rfl⟩ := List.append_of_mem q2
        have e1 : R y = P ++ c :: (X1 ++ [y]) := by have := h.at (y := y) (A := P ++ c :: X1) (B := X2) hn (by rw [h1]; simp); rw [this]; simp
        have ly := h.mem n hn y (by rw [h1]; simp)
        rw [h.turn_on (q := X2) hn ly (by rw [h1, e1]; simp)]
        exact ⟨X1.reverse ++ c :: Y, by simp⟩
      · obtain ⟨Y1, Y2, e⟩ := List.append_of_mem q
        have ly := h.mem x hx y (by rw [h2, e]; simp)
        have e1 : R y = P ++ Y1 ++ [y] := h.at (A := P ++ Y1) (B := Y2) hx (by rw [h2, e]; simp)
        cases Y1 with
        | nil =>
          simp at e
          obtain ⟨rfl, rfl⟩ := e
          rw [h.turn_on (q := X) hn ly (by rw [h1, e1]; simp)]
          exact ⟨Y, by simp⟩
        | cons z Y1 =>
          simp only [List.cons_append, List.cons.injEq] at e
          obtain ⟨rfl, rfl⟩ := e
          have ho : OneT R y n := by unfold OneT; rw [e1, h1]; cases P <;> simp
          have e2 : turnR R n y = X.reverse ++ c :: (Y1 ++ [y]) := by
            unfold turnR
            rw [if_pos ho, h1, e1]
            have := tn_eq P c X (Y1 ++ [y]) (apart_head h3 (by cases Y1 <;> simp))
            rw [← this]; simp
          exact ⟨Y2, by rw [e2]; simp⟩
    · rw [off x o] at hy ⊢
      have o2 : ¬ OneT R y n := fun q => o (by
        obtain ⟨q1, e⟩ := h.pre x hx y hy
        obtain ⟨p, e2⟩ := h.last y (h.mem x hx y hy)
        unfold OneT at *
        rw [← q, e, e2]; cases p <;> simp)
      rw [off y o2]; exact h.pre x hx y hy
  · by_cases o : OneT R x n
    · obtain ⟨P, c, X, Y, h1, h2, h3, h4⟩ := key x hx o
      rw [h4]
      have n1 := h.nodup n hn
      have n2 := h.nodup x hx
      rw [h1, List.nodup_append] at n1
      rw [h2, List.nodup_append] at n2
      rw [List.nodup_append]
      refine ⟨by unfold List.Nodup; rw [List.pairwise_reverse]; exact (List.nodup_cons.1 n1.2.1).2.imp (fun h e => h e.symm), n2.2.1, fun a ha b hb e => ?_⟩
      subst e
      have ha : a ∈ X := by simpa using ha
      rcases List.mem_cons.1 hb with rfl | hb
      · exact (List.nodup_cons.1 n1.2.1).1 ha
      · obtain ⟨X1, X2, rfl⟩ := List.append_of_mem ha
        obtain ⟨Y1, Y2, rfl⟩ := List.append_of_mem hb
        have e1 := h.at (y := a) (A := P ++ c :: X1) (B := X2) hn (by rw [h1]; simp)
        have e2 := h.at (y := a) (A := P ++ c :: Y1) (B := Y2) hx (by rw [h2]; simp)
        rw [e1] at e2
        have e3 := List.append_inj' e2 rfl
        have e4 : X1 = Y1 := by have := List.append_cancel_left e3.1; simpa using this
        subst e4
        cases X1 with
        | nil => exact h3 a a (by simp) (by simp) rfl
        | cons z X1 => exact h3 z z (by simp) (by simp) rfl
    · rw [off x o]; exact h.nodup x hx

theorem apart_last {W : List Nat} {c e : Nat} {X Y' : List Nat} (h : (c :: (W ++ e :: Y')).Nodup) : Apart (W.reverse ++ c :: X) Y' := by
  intro a b ha hb hab
  have ha2 : a ∈ c :: W := by
    rcases List.eq_nil_or_concat W with rfl | ⟨Z, z, rfl⟩
    · simp at ha; simp [ha]
    · simp at ha; simp [ha]
  have hb2 : b ∈ Y' := by cases Y' with
    | nil => simp at hb
    | cons y Y' => simp at hb; simp [hb]
  rw [← List.cons_append, List.nodup_append] at h
  exact h.2.2 a ha2 b (List.mem_cons_of_mem _ hb2) hab
/-- The way between two nodes, whoever is the root. -/
theorem tn_any (A B D : List Nat) (r : Nat) (hA : A.head? = some r) (hB : B.head? = some r) (hD : D.head? = some r) (nA : A.Nodup) (nB : B.Nodup) : tn (tn D A) (tn D B) = tn A B := by
  obtain ⟨P, c, X, Y, rfl, rfl, h⟩ := parts A B r hA hB
  obtain ⟨Q, d, Z, X', rfl, e2, h2⟩ := parts D _ r hD hA
  rw [tn_eq P c X Y h]
  rcases List.append_eq_append_iff.1 e2 with ⟨u, e3, e4⟩ | ⟨u, e3, e4⟩
  · cases u with
    | nil =>
      simp only [List.append_nil] at e3
      simp only [List.nil_append, List.cons.injEq] at e4
      obtain ⟨rfl, rfl⟩ := e4
      subst e3
      rw [tn_eq Q c Z X h2]
      by_cases hz : Apart Z Y
      · rw [tn_eq Q c Z Y hz, tn_eq _ c X Y h]
      · have hz2 : ∃ s, Z.head? = some s ∧ Y.head? = some s := by
          refine Classical.byContradiction fun hn => hz (fun a b ha hb hab => hn ⟨a, ha, by rw [hb, hab]⟩)
        obtain ⟨s, s1, s2⟩ := hz2
        obtain ⟨W, e, Z', Y', rfl, rfl, h5⟩ := parts Z Y s s1 s2
        have t1 : tn (Q ++ c :: (W ++ e :: Z')) (Q ++ c :: (W ++ e :: Y')) = Z'.reverse ++ e :: Y' := by
          have := tn_eq (Q ++ c :: W) e Z' Y' h5
          simpa using this
        rw [t1]
        have nB2 : (c :: (W ++ e :: Y')).Nodup := (List.nodup_append.1 nB).2.1
        have := tn_eq Z'.reverse e (W.reverse ++ c :: X) Y' (apart_last nB2)
        simpa using this
    | cons z u =>
      simp only [List.cons_append, List.cons.injEq] at e4
      obtain ⟨rfl, rfl⟩ := e4
      subst e3
      have t1 : tn (P ++ c :: u ++ d :: Z) (P ++ c :: (u ++ d :: X')) = Z.reverse ++ d :: X' := by
        have := tn_eq (P ++ c :: u) d Z X' h2
        simpa using this
      have hY : Apart (u ++ d :: Z) Y := by
        intro a b ha hb
        exact h a b (by cases u <;> simpa using ha) hb
      have t2 : tn (P ++ c :: u ++ d :: Z) (P ++ c :: Y) = (u ++ d :: Z).reverse ++ c :: Y := by
        have := tn_eq P c (u ++ d :: Z) Y hY
        simpa using this
      rw [t1, t2]
      have nA2 : (c :: (u ++ d :: X')).Nodup := (List.nodup_append.1 nA).2.1
      have := tn_eq Z.reverse d X' (u.reverse ++ c :: Y) (apart_last nA2).symm
      simpa using this
  · cases u with
    | nil =>
      simp only [List.append_nil] at e3
      simp only [List.nil_append, List.cons.injEq] at e4
      obtain ⟨rfl, rfl⟩ := e4
      subst e3
      rw [tn_eq P d Z X' h2]
      by_cases hz : Apart Z Y
      · rw [tn_eq P d Z Y hz, tn_eq _ d X' Y h]
      · have hz2 : ∃ s, Z.head? = some s ∧ Y.head? = some s := by
          refine Classical.byContradiction fun hn => hz (fun a b ha hb hab => hn ⟨a, ha, by rw [hb, hab]⟩)
        obtain ⟨s, s1, s2⟩ := hz2
        obtain ⟨W, e, Z', Y', rfl, rfl, h5⟩ := parts Z Y s s1 s2
        have t1 : tn (P ++ d :: (W ++ e :: Z')) (P ++ d :: (W ++ e :: Y')) = Z'.reverse ++ e :: Y' := by
          have := tn_eq (P ++ d :: W) e Z' Y' h5
          simpa using this
        rw [t1]
        have nB2 : (d :: (W ++ e :: Y')).Nodup := (List.nodup_append.1 nB).2.1
        have := tn_eq Z'.reverse e (W.reverse ++ d :: X') Y' (apart_last nB2)
        simpa using this
    | cons z u =>
      simp only [List.cons_append, List.cons.injEq] at e4
      obtain ⟨rfl, rfl⟩ := e4
      subst e3
      have hY : Apart Z (u ++ c :: Y) := apart_head h2 (by cases u <;> simp)
      have t1 : tn (Q ++ d :: Z) (Q ++ d :: u ++ c :: X) = Z.reverse ++ d :: (u ++ c :: X) := by
        have := tn_eq Q d Z (u ++ c :: X) h2
        simpa using this
      have t2 : tn (Q ++ d :: Z) (Q ++ d :: u ++ c :: Y) = Z.reverse ++ d :: (u ++ c :: Y) := by
        have := tn_eq Q d Z (u ++ c :: Y) hY
        simpa using this
      rw [t1, t2]
      have := tn_eq (Z.reverse ++ d :: u) c X Y h
      simpa using this
/-- Rooted anew twice is rooted anew once. -/
theorem Rt.turn_turn {live : Nat → Prop} {R : Nat → List Nat} (h : Rt live R) {r n x : Nat} (hr : live r) (hn : live n) (hx : live x) (o : OneT R n r) : turnR (turnR R r) n x = turnR R n x := by
  obtain ⟨s, s1, _, _⟩ := h.head hr
  have hh : ∀ y, live y → OneT R y r → (turnR R r y).head? = some r := fun y hy oy => by
    obtain ⟨p, hp⟩ := h.last r hr
    unfold turnR
    rw [if_pos oy]
    exact tn_head _ _ s r p s1 (by rw [oy]; exact s1) hp
  have hoff : ∀ y, live y → ¬ OneT R y r → (turnR R r y).head? ≠ some r := fun y hy oy => by
    unfold turnR
    rw [if_neg oy]
    intro e
    obtain ⟨s', e1, e2, e3⟩ := h.head hy
    rw [e] at e1
    injection e1 with e1
    subst e1
    exact oy (by unfold OneT; rw [e, e3]; rfl)
  by_cases ox : OneT R x r
  · have o1 : OneT R x n := ox.trans o.symm
    have o2 : OneT (turnR R r) x n := by unfold OneT; rw [hh x hx ox, hh n hn o]
    have e1 : turnR R r n = tn (R r) (R n) := by unfold turnR; rw [if_pos o]
    have e2 : turnR R r x = tn (R r) (R x) := by unfold turnR; rw [if_pos ox]
    have e3 : turnR R n x = tn (R n) (R x) := by unfold turnR; rw [if_pos o1]
    have e4 : turnR (turnR R r) n x = tn (turnR R r n) (turnR R r x) := by rw [show turnR (turnR R r) n x = if OneT (turnR R r) x n then tn (turnR R r n) (turnR R r x) else turnR R r x from rfl, if_pos o2]
    rw [e4, e3, e1, e2]
    exact tn_any _ _ _ s (by rw [o]; exact s1) (by rw [ox]; exact s1) s1 (h.nodup n hn) (h.nodup x hx)
  · have o1 : ¬ OneT R x n := fun q => ox (q.trans o)
    have o2 : ¬ OneT (turnR R r) x n := fun q => by unfold OneT at q; rw [hh n hn o] at q; exact hoff x hx ox q
    have e1 : turnR R r x = R x := by unfold turnR; rw [if_neg ox]
    have e2 : turnR R n x = R x := by unfold turnR; rw [if_neg o1]
    rw [show turnR (turnR R r) n x = if OneT (turnR R r) x n then tn (turnR R r n) (turnR R r x) else turnR R r x from rfl, if_neg o2, e1, e2]
/-- Rooted at its own root, a tree is as it was. -/
theorem Rt.turn_root {live : Nat → Prop} {R : Nat → List Nat} (h : Rt live R) {r x : Nat} (hr : live r) (hx : live x) (e : R r = [r]) : turnR R r x = R x := by
  unfold turnR
  split
  · rename_i o
    unfold OneT at o
    rw [e] at o ⊢
    cases hR : R x with
    | nil => rw [hR] at o; simp at o
    | cons a A => rw [hR] at o; simp at o; subst o; simp [tn]
  · rfl

end Go.Proofs.Ytffmlffhiimmdaa

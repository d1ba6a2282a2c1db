/- Trees by handles: each node knows what it hangs on and what hangs on it; the list of a node and all below it; a turn keeps the order. No program. -/
import Derived.Test.YthdmajddmajjoaaAr
namespace Go.Proofs.Ythdmajddmajjoaa
set_option linter.unusedVariables false

/-- What a node has: its value, whether it counts, its flags. -/
structure It where
  v : Int
  c : Bool
  f : Nat
/-- What some nodes come to. -/
structure Ag where
  count : Nat
  sum : Int
  least : Int
  most : Int
  flags : Nat

theorem Ag.ext2 {a b : Ag} (h1 : a.count = b.count) (h2 : a.sum = b.sum) (h3 : a.least = b.least) (h4 : a.most = b.most) (h5 : a.flags = b.flags) : a = b := by
  cases a; cases b; simp_all

def It.may (x : It) : Prop := -1099511627776 ≤ x.v ∧ x.v ≤ 1099511627776 ∧ x.f ≤ 255
def Ag.zero : Ag := ⟨0, 0, 0, 0, 0⟩
def It.one (x : It) : Ag := if x.c = true then ⟨1, x.v, x.v, x.v, x.f⟩ else ⟨0, 0, 0, 0, x.f⟩
def Ag.both (a b : Ag) : Ag :=
  if a.count = 0 then ⟨a.count + b.count, a.sum + b.sum, b.least, b.most, a.flags ||| b.flags⟩
  else if b.count = 0 then ⟨a.count + b.count, a.sum + b.sum, a.least, a.most, a.flags ||| b.flags⟩
  else ⟨a.count + b.count, a.sum + b.sum, min a.least b.least, max a.most b.most, a.flags ||| b.flags⟩
def agg : List It → Ag
  | [] => Ag.zero
  | x :: xs => x.one.both (agg xs)

theorem both_count (a b : Ag) : (a.both b).count = a.count + b.count := by unfold Ag.both; repeat (first | rfl | split)
theorem both_sum (a b : Ag) : (a.both b).sum = a.sum + b.sum := by unfold Ag.both; repeat (first | rfl | split)
theorem both_flags (a b : Ag) : (a.both b).flags = a.flags ||| b.flags := by unfold Ag.both; repeat (first | rfl | split)
theorem both_least (a b : Ag) : (a.both b).least = if a.count = 0 then b.least else if b.count = 0 then a.least else min a.least b.least := by unfold Ag.both; repeat (first | rfl | split)
theorem both_most (a b : Ag) : (a.both b).most = if a.count = 0 then b.most else if b.count = 0 then a.most else max a.most b.most := by unfold Ag.both; repeat (first | rfl | split)

theorem zero_both (a : Ag) : Ag.zero.both a = a := by
  apply Ag.ext2 <;> simp [both_count, both_sum, both_flags, both_least, both_most, Ag.zero]
theorem both_assoc (a b c : Ag) : (a.both b).both c = a.both (b.both c) := by
  apply Ag.ext2
  · simp only [both_count]; omega
  · simp only [both_sum]; omega
  · simp only [both_least, both_count]
    by_cases h1 : a.count = 0 <;> by_cases h2 : b.count = 0 <;> by_cases h3 : c.count = 0 <;> simp [h1, h2, h3, Int.min_assoc]
  · simp only [both_most, both_count]
    by_cases h1 : a.count = 0 <;> by_cases h2 : b.count = 0 <;> by_cases h3 : c.count = 0 <;> simp [h1, h2, h3, Int.max_assoc]
  · simp only [both_flags, Nat.or_assoc]
theorem agg_append (xs ys : List It) : agg (xs ++ ys) = (agg xs).both (agg ys) := by
  induction xs with
  | nil => simp [agg, zero_both]
  | cons x xs ih => simp [agg, ih, both_assoc]
theorem agg_none (xs : List It) (h : (agg xs).count = 0) : (agg xs).sum = 0 ∧ (agg xs).least = 0 ∧ (agg xs).most = 0 := by
  induction xs with
  | nil => simp [agg, Ag.zero]
  | cons x xs ih =>
    simp only [agg, both_count] at h
    have h1 : x.one.count = 0 := by omega
    have h2 := ih (by omega)
    have h3 : x.one.sum = 0 := by unfold It.one at h1 ⊢; split at h1 <;> simp_all
    simp only [agg, both_sum, both_least, both_most, h1, if_true, h2, h3]
    simp
theorem both_zero (xs : List It) : (agg xs).both Ag.zero = agg xs := by
  have := agg_append xs []
  rw [List.append_nil] at this
  exact this.symm
theorem agg_one (x : It) : agg [x] = x.one := by
  have h := both_zero [x]
  simp only [agg] at h
  rw [both_assoc, zero_both] at h
  unfold agg
  unfold agg
  unfold Ag.both Ag.zero It.one
  by_cases hc : x.c = true <;> simp [hc]
theorem agg_snoc (xs : List It) (x : It) : agg (xs ++ [x]) = (agg xs).both x.one := by rw [agg_append, agg_one]
theorem agg_mid (xs ys : List It) (x : It) : agg (xs ++ x :: ys) = ((agg xs).both x.one).both (agg ys) := by
  rw [agg_append, agg, both_assoc]

theorem or_le {a b : Nat} (h1 : a ≤ 255) (h2 : b ≤ 255) : a ||| b ≤ 255 := by
  have := Nat.or_lt_two_pow (x := a) (y := b) (n := 8) (by omega) (by omega)
  omega
structure Ag.bd (a : Ag) (n : Nat) : Prop where
  count : a.count ≤ n
  sum1 : -(1099511627776 * (n : Int)) ≤ a.sum
  sum2 : a.sum ≤ 1099511627776 * (n : Int)
  least1 : -1099511627776 ≤ a.least
  least2 : a.least ≤ 1099511627776
  most1 : -1099511627776 ≤ a.most
  most2 : a.most ≤ 1099511627776
  flags : a.flags ≤ 255
theorem one_bd (x : It) (h : x.may) : x.one.bd 1 := by
  obtain ⟨h1, h2, h3⟩ := h
  unfold It.one
  split <;> constructor <;> simp <;> omega
theorem both_bd {a b : Ag} {n m : Nat} (ha : a.bd n) (hb : b.bd m) : (a.both b).bd (n + m) := by
  obtain ⟨a1, a2, a3, a4, a5, a6, a7, a8⟩ := ha
  obtain ⟨b1, b2, b3, b4, b5, b6, b7, b8⟩ := hb
  constructor
  · rw [both_count]; omega
  · rw [both_sum]; omega
  · rw [both_sum]; omega
  · rw [both_least]; split; · omega
    split <;> omega
  · rw [both_least]; split; · omega
    split <;> omega
  · rw [both_most]; split; · omega
    split <;> omega
  · rw [both_most]; split; · omega
    split <;> omega
  · rw [both_flags]; exact or_le a8 b8
theorem agg_bd : ∀ (xs : List It), (∀ x ∈ xs, x.may) → (agg xs).bd xs.length
  | [], _ => by constructor <;> simp [agg, Ag.zero]
  | x :: xs, h => by
    have h1 := one_bd x (h x (by simp))
    have h2 := agg_bd xs (fun y hy => h y (by simp [hy]))
    have := both_bd h1 h2
    rw [Nat.add_comm] at this
    exact this

end Go.Proofs.Ythdmajddmajjoaa
namespace Go.Proofs.Ythdmajddmajjoaa
set_option linter.unusedVariables false

/-- A node, as it lies in memory. -/
structure Nd where
  it : It
  up : Nat
  l : Nat
  r : Nat
  size : Nat
  ag : Ag

/-- T h: h and all below it, in their order; S h: the sequence that h stands in. -/
structure Tr (live : Nat → Prop) (N : Nat) (nd : Nat → Nd) (T S : Nat → List Nat) : Prop where
  nz : ¬ live 0
  top : ∀ h, live h → h ≤ N
  t0 : T 0 = []
  t : ∀ h, live h → T h = T (nd h).l ++ h :: T (nd h).r
  l : ∀ h, live h → (nd h).l ≠ 0 → live (nd h).l ∧ (nd (nd h).l).up = h
  r : ∀ h, live h → (nd h).r ≠ 0 → live (nd h).r ∧ (nd (nd h).r).up = h
  u : ∀ h, live h → (nd h).up ≠ 0 → live (nd h).up ∧ S (nd h).up = S h ∧ ((nd (nd h).up).l = h ∨ (nd (nd h).up).r = h)
  root : ∀ h, live h → (nd h).up = 0 → T h = S h
  sz : ∀ h, live h → (nd h).size = (T h).length
  ag : ∀ h, live h → (nd h).ag = agg ((T h).map fun k => (nd k).it)
  nodup : ∀ h, live h → (T h).Nodup
  self : ∀ h, live h → h ∈ S h
  mem : ∀ h, live h → ∀ k ∈ S h, live k ∧ S k = S h
  may : ∀ h, live h → (nd h).it.may

variable {live : Nat → Prop} {N : Nat} {nd : Nat → Nd} {T S : Nat → List Nat}

theorem Tr.ne0 (H : Tr live N nd T S) {h : Nat} (hl : live h) : h ≠ 0 := fun e => H.nz (e ▸ hl)
theorem Tr.len (H : Tr live N nd T S) {h : Nat} (hl : live h) : (T h).length = (T (nd h).l).length + 1 + (T (nd h).r).length := by
  rw [H.t h hl]; simp; omega
theorem Tr.mem_live (H : Tr live N nd T S) : ∀ (n h : Nat), (T h).length ≤ n → live h → ∀ k ∈ T h, live k := by
  intro n
  induction n with
  | zero => intro h hn hl k hk; have := H.len hl; omega
  | succ n ih =>
    intro h hn hl k hk
    have hlen := H.len hl
    rw [H.t h hl] at hk
    have side : ∀ c, (c ≠ 0 → live c) → (T c).length ≤ n → k ∈ T c → live k := by
      intro c hc hcn hkc
      by_cases c0 : c = 0
      · subst c0; rw [H.t0] at hkc; simp at hkc
      · exact ih c hcn (hc c0) k hkc
    rcases List.mem_append.1 hk with hk | hk
    · exact side _ (fun e => (H.l h hl e).1) (by omega) hk
    · rcases List.mem_cons.1 hk with rfl | hk
      · exact hl
      · exact side _ (fun e => (H.r h hl e).1) (by omega) hk
theorem Tr.memT (H : Tr live N nd T S) {h k : Nat} (hl : live h) (hk : k ∈ T h) : live k := H.mem_live _ h (Nat.le_refl _) hl k hk
theorem Tr.lenN (H : Tr live N nd T S) {h : Nat} (hl : live h) : (T h).length ≤ N :=
  len_le_of_nodup N (T h) (H.nodup h hl) (fun k hk => ⟨by have := H.ne0 (H.memT hl hk); omega, H.top k (H.memT hl hk)⟩)
theorem Tr.up_ne (H : Tr live N nd T S) : ∀ (n h : Nat), (T h).length ≤ n → live h → ∀ k ∈ T h, k ≠ h → (nd k).up ≠ 0 := by
  intro n
  induction n with
  | zero => intro h hn hl k hk; have := H.len hl; omega
  | succ n ih =>
    intro h hn hl k hk hkh
    have hlen := H.len hl
    rw [H.t h hl] at hk
    have h0 := H.ne0 hl
    have side : ∀ c, (c ≠ 0 → live c ∧ (nd c).up = h) → (T c).length ≤ n → k ∈ T c → (nd k).up ≠ 0 := by
      intro c hc hcn hkc
      by_cases c0 : c = 0
      · subst c0; rw [H.t0] at hkc; simp at hkc
      · by_cases e : k = c
        · subst e; rw [(hc c0).2]; exact h0
        · exact ih c hcn (hc c0).1 k hkc e
    rcases List.mem_append.1 hk with hk | hk
    · exact side _ (H.l h hl) (by omega) hk
    · rcases List.mem_cons.1 hk with rfl | hk
      · exact absurd rfl hkh
      · exact side _ (H.r h hl) (by omega) hk
/-- The top of a sequence is one. -/
theorem Tr.one_top (H : Tr live N nd T S) {a b : Nat} (ha : live a) (hb : live b) (hua : (nd a).up = 0) (hub : (nd b).up = 0) (hs : S a = S b) : a = b := by
  by_cases e : b = a
  · exact e.symm
  · exfalso
    have h1 := H.self b hb
    rw [← hs, ← H.root a ha hua] at h1
    exact H.up_ne _ a (Nat.le_refl _) ha b h1 e hub
/-- A node's list stands in its sequence as one piece. -/
theorem Tr.whole (H : Tr live N nd T S) : ∀ (n h : Nat), N - (T h).length ≤ n → live h → ∃ a b, S h = a ++ T h ++ b := by
  intro n
  induction n with
  | zero =>
    intro h hn hl
    by_cases e : (nd h).up = 0
    · exact ⟨[], [], by rw [H.root h hl e]; simp⟩
    · obtain ⟨h1, h2, h3⟩ := H.u h hl e
      have hlen := H.len h1
      have hN := H.lenN h1
      rcases h3 with h3 | h3 <;> rw [h3] at hlen <;> omega
  | succ n ih =>
    intro h hn hl
    by_cases e : (nd h).up = 0
    · exact ⟨[], [], by rw [H.root h hl e]; simp⟩
    · obtain ⟨h1, h2, h3⟩ := H.u h hl e
      have hlen := H.len h1
      have hN := H.lenN h1
      obtain ⟨a, b, hab⟩ := ih (nd h).up (by rcases h3 with h3 | h3 <;> rw [h3] at hlen <;> omega) h1
      rw [h2, H.t _ h1] at hab
      rcases h3 with h3 | h3
      · rw [h3] at hab
        exact ⟨a, (nd h).up :: T (nd (nd h).up).r ++ b, by rw [hab]; simp⟩
      · rw [h3] at hab
        exact ⟨a ++ (T (nd (nd h).up).l ++ [(nd h).up]), b, by rw [hab]; simp⟩
theorem Tr.nodupS (H : Tr live N nd T S) {h : Nat} (hl : live h) (hu : (nd h).up = 0) : (S h).Nodup := by rw [← H.root h hl hu]; exact H.nodup h hl
theorem Tr.sub (H : Tr live N nd T S) {h k : Nat} (hl : live h) (hk : k ∈ T h) : k ∈ S h := by
  obtain ⟨a, b, hab⟩ := H.whole _ h (Nat.le_refl _) hl
  rw [hab]; simp [hk]
theorem Tr.up_lt (H : Tr live N nd T S) {h : Nat} (hl : live h) (hu : (nd h).up ≠ 0) : (T h).length < (T (nd h).up).length := by
  obtain ⟨h1, h2, h3⟩ := H.u h hl hu
  have hlen := H.len h1
  rcases h3 with h3 | h3 <;> rw [h3] at hlen <;> omega
theorem Tr.lr (H : Tr live N nd T S) {h : Nat} (hl : live h) (h0 : (nd h).l ≠ 0) : (nd h).l ≠ (nd h).r := by
  intro e
  have hn := H.nodup h hl
  rw [H.t h hl, ← e] at hn
  have h1 := H.l h hl h0
  have h2 : (nd h).l ∈ T (nd h).l := by rw [H.t _ h1.1]; simp
  exact (List.nodup_append.1 hn).2.2 _ h2 _ (List.mem_cons_of_mem _ h2) rfl

/-- The nodes after a turn of h, which hangs at the side ahead of u. -/
structure TurnedR (live : Nat → Prop) (nd : Nat → Nd) (T : Nat → List Nat) (h u : Nat) (nd' : Nat → Nd) (T' : Nat → List Nat) : Prop where
  l : ∀ k, live k → (nd' k).l = if k = h then (nd h).l else if k = u then (nd h).r else if (nd k).l = u then h else (nd k).l
  r : ∀ k, live k → (nd' k).r = if k = h then u else if k = u then (nd u).r else if (nd k).r = u then h else (nd k).r
  up : ∀ k, live k → (nd' k).up = if k = h then (nd u).up else if k = u then h else if k = (nd h).r then u else (nd k).up
  it : ∀ k, (nd' k).it = (nd k).it
  T : ∀ k, T' k = if k = h then T u else if k = u then T (nd h).r ++ u :: T (nd u).r else T k
  other : ∀ k, k ≠ h → k ≠ u → (nd' k).size = (nd k).size ∧ (nd' k).ag = (nd k).ag
  su : (nd' u).size = (T' u).length ∧ (nd' u).ag = agg ((T' u).map fun k => (nd k).it)
  sh : (nd' h).size = (T' h).length ∧ (nd' h).ag = agg ((T' h).map fun k => (nd k).it)
structure TurnedL (live : Nat → Prop) (nd : Nat → Nd) (T : Nat → List Nat) (h u : Nat) (nd' : Nat → Nd) (T' : Nat → List Nat) : Prop where
  l : ∀ k, live k → (nd' k).l = if k = h then u else if k = u then (nd u).l else if (nd k).l = u then h else (nd k).l
  r : ∀ k, live k → (nd' k).r = if k = h then (nd h).r else if k = u then (nd h).l else if (nd k).r = u then h else (nd k).r
  up : ∀ k, live k → (nd' k).up = if k = h then (nd u).up else if k = u then h else if k = (nd h).l then u else (nd k).up
  it : ∀ k, (nd' k).it = (nd k).it
  T : ∀ k, T' k = if k = h then T u else if k = u then T (nd u).l ++ u :: T (nd h).l else T k
  other : ∀ k, k ≠ h → k ≠ u → (nd' k).size = (nd k).size ∧ (nd' k).ag = (nd k).ag
  su : (nd' u).size = (T' u).length ∧ (nd' u).ag = agg ((T' u).map fun k => (nd k).it)
  sh : (nd' h).size = (T' h).length ∧ (nd' h).ag = agg ((T' h).map fun k => (nd k).it)

theorem Tr.rl (H : Tr live N nd T S) {h : Nat} (hl : live h) (h0 : (nd h).r ≠ 0) : (nd h).r ≠ (nd h).l := fun e => H.lr hl (by rw [← e]; exact h0) e.symm
theorem Tr.turnR (H : Tr live N nd T S) {h u : Nat} {nd' : Nat → Nd} {T' : Nat → List Nat} (hl : live h) (hu : (nd h).up = u) (hu0 : u ≠ 0) (hs : (nd u).l = h) (E : TurnedR live nd T h u nd' T') :
    Tr live N nd' T' S := by
  obtain ⟨lu, hSu, _⟩ := H.u h hl (by rw [hu]; exact hu0)
  rw [hu] at lu hSu
  have h0 := H.ne0 hl
  have lenu := H.len lu
  have lenh := H.len hl
  rw [hs] at lenu
  have huh : h ≠ u := fun e => by rw [e] at lenu; omega
  have a1 : (nd h).l ≠ h := fun e => by rw [e] at lenh; omega
  have a2 : (nd h).l ≠ u := fun e => by rw [e] at lenh; omega
  have a3 : (nd h).r ≠ h := fun e => by rw [e] at lenh; omega
  have a4 : (nd h).r ≠ u := fun e => by rw [e] at lenh; omega
  have a5 : (nd u).r ≠ h := by rw [← hs]; exact (H.lr lu (by rw [hs]; exact h0)).symm
  have a6 : (nd u).r ≠ u := fun e => by rw [e] at lenu; omega
  have b1 : ∀ k, live k → k ≠ u → (nd k).l ≠ h := fun k lk hk e => hk (by rw [← hu, ← e]; exact (H.l k lk (by rw [e]; exact h0)).2.symm)
  have b2 : ∀ k, live k → k ≠ u → (nd k).r ≠ h := fun k lk hk e => hk (by rw [← hu, ← e]; exact (H.r k lk (by rw [e]; exact h0)).2.symm)
  have Tu : T u = T h ++ u :: T (nd u).r := by rw [H.t u lu, hs]
  have Th := H.t h hl
  have sumk : ∀ k, live k → (T' k).map (fun j => (nd' j).it) = (T' k).map (fun j => (nd j).it) := fun k _ => List.map_congr_left (fun j _ => E.it j)
  have Tin : ∀ k, live k → (T' k).Nodup := by
    intro k lk
    rw [E.T]
    split
    · exact H.nodup u lu
    · split
      · have := H.nodup u lu
        rw [Tu, Th] at this
        have e2 : T (nd h).l ++ h :: T (nd h).r ++ u :: T (nd u).r = (T (nd h).l ++ [h]) ++ (T (nd h).r ++ u :: T (nd u).r) := by simp
        rw [e2] at this
        exact (List.nodup_append.1 this).2.1
      · exact H.nodup k lk
  constructor
  · exact H.nz
  · exact H.top
  · rw [E.T]; rw [if_neg (Ne.symm h0), if_neg (Ne.symm hu0)]; exact H.t0
  · intro k lk
    rw [E.l k lk, E.r k lk]
    by_cases k1 : k = h
    · subst k1
      simp only [if_true]
      rw [E.T k, E.T (nd k).l, E.T u]
      simp only [if_true, if_neg a1, if_neg a2, if_neg (Ne.symm huh)]
      rw [Tu, Th]; simp
    · simp only [if_neg k1]
      by_cases k2 : k = u
      · subst k2
        simp only [if_true]
        rw [E.T k, E.T (nd h).r, E.T (nd k).r]
        simp only [if_true, if_neg k1, if_neg a3, if_neg a4, if_neg a5, if_neg a6]
      · simp only [if_neg k2]
        rw [E.T k, if_neg k1, if_neg k2, H.t k lk]
        congr 1
        · split
          · next e => rw [E.T h, if_pos rfl, e]
          · next e => rw [E.T, if_neg (b1 k lk k2), if_neg e]
        · congr 1
          split
          · next e => rw [E.T h, if_pos rfl, e]
          · next e => rw [E.T, if_neg (b2 k lk k2), if_neg e]
  · intro k lk
    rw [E.l k lk]
    by_cases k1 : k = h
    · subst k1
      simp only [if_true]
      intro hn
      obtain ⟨p1, p2⟩ := H.l k lk hn
      refine ⟨p1, ?_⟩
      rw [E.up _ p1, if_neg a1, if_neg a2, if_neg (H.lr lk hn)]
      exact p2
    · simp only [if_neg k1]
      by_cases k2 : k = u
      · subst k2
        simp only [if_true]
        intro hn
        obtain ⟨p1, p2⟩ := H.r h hl hn
        refine ⟨p1, ?_⟩
        rw [E.up _ p1, if_neg a3, if_neg a4, if_pos rfl]
      · simp only [if_neg k2]
        split
        · next e =>
          intro _
          refine ⟨hl, ?_⟩
          rw [E.up h hl, if_pos rfl, ← e]
          exact (H.l k lk (by rw [e]; exact hu0)).2
        · next e =>
          intro hn
          obtain ⟨p1, p2⟩ := H.l k lk hn
          refine ⟨p1, ?_⟩
          rw [E.up _ p1, if_neg (b1 k lk k2), if_neg e, if_neg]
          · exact p2
          · intro e2
            have := (H.r h hl (by rw [← e2]; exact hn)).2
            rw [← e2, p2] at this
            exact k1 this
  · intro k lk
    rw [E.r k lk]
    by_cases k1 : k = h
    · subst k1
      simp only [if_true]
      intro hn
      refine ⟨lu, ?_⟩
      rw [E.up u lu, if_neg (Ne.symm huh), if_pos rfl]
    · simp only [if_neg k1]
      by_cases k2 : k = u
      · subst k2
        simp only [if_true]
        intro hn
        obtain ⟨p1, p2⟩ := H.r k lk hn
        refine ⟨p1, ?_⟩
        rw [E.up _ p1, if_neg a5, if_neg a6, if_neg]
        · exact p2
        · intro e2
          have := (H.r h hl (by rw [← e2]; exact hn)).2
          rw [← e2, p2] at this
          exact k1 this
      · simp only [if_neg k2]
        split
        · next e =>
          intro _
          refine ⟨hl, ?_⟩
          rw [E.up h hl, if_pos rfl, ← e]
          exact (H.r k lk (by rw [e]; exact hu0)).2
        · next e =>
          intro hn
          obtain ⟨p1, p2⟩ := H.r k lk hn
          refine ⟨p1, ?_⟩
          rw [E.up _ p1, if_neg (b2 k lk k2), if_neg e, if_neg]
          · exact p2
          · intro e2
            have := (H.r h hl (by rw [← e2]; exact hn)).2
            rw [← e2, p2] at this
            exact k1 this
  · intro k lk
    rw [E.up k lk]
    by_cases k1 : k = h
    · subst k1
      simp only [if_true]
      intro hn
      obtain ⟨p1, p2, p3⟩ := H.u u lu hn
      have ne1 : (nd u).up ≠ k := fun e => by
        have := H.up_lt lu hn
        rw [e] at this; omega
      have ne2 : (nd u).up ≠ u := fun e => by
        have := H.up_lt lu hn
        rw [e] at this; omega
      refine ⟨p1, p2.trans hSu, ?_⟩
      rw [E.l _ p1, E.r _ p1]
      simp only [if_neg ne1, if_neg ne2]
      rcases p3 with p3 | p3
      · exact .inl (if_pos p3)
      · exact .inr (if_pos p3)
    · simp only [if_neg k1]
      by_cases k2 : k = u
      · subst k2
        simp only [if_true]
        intro hn
        refine ⟨hl, hSu.symm, ?_⟩
        rw [E.r h hl, if_pos rfl]
        exact .inr rfl
      · simp only [if_neg k2]
        split
        · next e =>
          intro hn
          have hm := H.r h hl (by rw [← e]; exact H.ne0 lk)
          rw [← e] at hm
          have := (H.u k lk (by rw [hm.2]; exact h0)).2.1
          rw [hm.2] at this
          refine ⟨lu, hSu.trans this, ?_⟩
          rw [E.l u lu, if_neg (Ne.symm huh), if_pos rfl]
          exact .inl e.symm
        · next e =>
          intro hn
          obtain ⟨p1, p2, p3⟩ := H.u k lk hn
          refine ⟨p1, p2, ?_⟩
          rw [E.l _ p1, E.r _ p1]
          by_cases q1 : (nd k).up = h
          · rw [q1] at p3 ⊢
            simp only [if_true]
            rcases p3 with p3 | p3
            · exact .inl p3
            · exact absurd p3.symm e
          · by_cases q2 : (nd k).up = u
            · rw [q2] at p3 ⊢
              simp only [if_neg (Ne.symm huh), if_true]
              rcases p3 with p3 | p3
              · exact absurd (p3.symm.trans hs) k1
              · exact .inr p3
            · simp only [if_neg q1, if_neg q2]
              rcases p3 with p3 | p3
              · rw [p3, if_neg k2]; exact .inl rfl
              · rw [p3, if_neg k2]; exact .inr rfl
  · intro k lk
    rw [E.up k lk, E.T]
    by_cases k1 : k = h
    · subst k1
      simp only [if_true]
      intro hn
      rw [H.root u lu hn, hSu]
    · simp only [if_neg k1]
      by_cases k2 : k = u
      · subst k2
        simp only [if_true]
        intro hn
        exact absurd hn h0
      · simp only [if_neg k2]
        split
        · intro hn; exact absurd hn hu0
        · exact H.root k lk
  · intro k lk
    by_cases k1 : k = h
    · subst k1; exact E.sh.1
    · by_cases k2 : k = u
      · subst k2; exact E.su.1
      · rw [(E.other k k1 k2).1, E.T, if_neg k1, if_neg k2]; exact H.sz k lk
  · intro k lk
    rw [sumk k lk]
    by_cases k1 : k = h
    · subst k1; exact E.sh.2
    · by_cases k2 : k = u
      · subst k2; exact E.su.2
      · rw [(E.other k k1 k2).2, E.T, if_neg k1, if_neg k2]; exact H.ag k lk
  · exact Tin
  · exact H.self
  · exact H.mem
  · intro k lk; rw [E.it]; exact H.may k lk


theorem Tr.turnL (H : Tr live N nd T S) {h u : Nat} {nd' : Nat → Nd} {T' : Nat → List Nat} (hl : live h) (hu : (nd h).up = u) (hu0 : u ≠ 0) (hs : (nd u).r = h) (E : TurnedL live nd T h u nd' T') :
    Tr live N nd' T' S := by
  obtain ⟨lu, hSu, _⟩ := H.u h hl (by rw [hu]; exact hu0)
  rw [hu] at lu hSu
  have h0 := H.ne0 hl
  have lenu := H.len lu
  have lenh := H.len hl
  rw [hs] at lenu
  have huh : h ≠ u := fun e => by rw [e] at lenu; omega
  have a1 : (nd h).r ≠ h := fun e => by rw [e] at lenh; omega
  have a2 : (nd h).r ≠ u := fun e => by rw [e] at lenh; omega
  have a3 : (nd h).l ≠ h := fun e => by rw [e] at lenh; omega
  have a4 : (nd h).l ≠ u := fun e => by rw [e] at lenh; omega
  have a5 : (nd u).l ≠ h := by rw [← hs]; exact (H.rl lu (by rw [hs]; exact h0)).symm
  have a6 : (nd u).l ≠ u := fun e => by rw [e] at lenu; omega
  have b1 : ∀ k, live k → k ≠ u → (nd k).r ≠ h := fun k lk hk e => hk (by rw [← hu, ← e]; exact (H.r k lk (by rw [e]; exact h0)).2.symm)
  have b2 : ∀ k, live k → k ≠ u → (nd k).l ≠ h := fun k lk hk e => hk (by rw [← hu, ← e]; exact (H.l k lk (by rw [e]; exact h0)).2.symm)
  have Tu : T u = T (nd u).l ++ u :: T h := by rw [H.t u lu, hs]
  have Th := H.t h hl
  have sumk : ∀ k, live k → (T' k).map (fun j => (nd' j).it) = (T' k).map (fun j => (nd j).it) := fun k _ => List.map_congr_left (fun j _ => E.it j)
  have Tin : ∀ k, live k → (T' k).Nodup := by
    intro k lk
    rw [E.T]
    split
    · exact H.nodup u lu
    · split
      · have := H.nodup u lu
        rw [Tu, Th] at this
        have e2 : T (nd u).l ++ u :: (T (nd h).l ++ h :: T (nd h).r) = (T (nd u).l ++ u :: T (nd h).l) ++ (h :: T (nd h).r) := by simp
        rw [e2] at this
        exact (List.nodup_append.1 this).1
      · exact H.nodup k lk
  constructor
  · exact H.nz
  · exact H.top
  · rw [E.T]; rw [if_neg (Ne.symm h0), if_neg (Ne.symm hu0)]; exact H.t0
  · intro k lk
    rw [E.r k lk, E.l k lk]
    by_cases k1 : k = h
    · subst k1
      simp only [if_true]
      rw [E.T k, E.T (nd k).r, E.T u]
      simp only [if_true, if_neg a1, if_neg a2, if_neg (Ne.symm huh)]
      rw [Tu, Th]; simp
    · simp only [if_neg k1]
      by_cases k2 : k = u
      · subst k2
        simp only [if_true]
        rw [E.T k, E.T (nd h).l, E.T (nd k).l]
        simp only [if_true, if_neg k1, if_neg a3, if_neg a4, if_neg a5, if_neg a6]
      · simp only [if_neg k2]
        rw [E.T k, if_neg k1, if_neg k2, H.t k lk]
        congr 1
        · split
          · next e => rw [E.T h, if_pos rfl, e]
          · next e => rw [E.T, if_neg (b2 k lk k2), if_neg e]
        · congr 1
          split
          · next e => rw [E.T h, if_pos rfl, e]
          · next e => rw [E.T, if_neg (b1 k lk k2), if_neg e]
  · intro k lk
    rw [E.l k lk]
    by_cases k1 : k = h
    · subst k1
      simp only [if_true]
      intro hn
      refine ⟨lu, ?_⟩
      rw [E.up u lu, if_neg (Ne.symm huh), if_pos rfl]
    · simp only [if_neg k1]
      by_cases k2 : k = u
      · subst k2
        simp only [if_true]
        intro hn
        obtain ⟨p1, p2⟩ := H.l k lk hn
        refine ⟨p1, ?_⟩
        rw [E.up _ p1, if_neg a5, if_neg a6, if_neg]
        · exact p2
        · intro e2
          have := (H.l h hl (by rw [← e2]; exact hn)).2
          rw [← e2, p2] at this
          exact k1 this
      · simp only [if_neg k2]
        split
        · next e =>
          intro _
          refine ⟨hl, ?_⟩
          rw [E.up h hl, if_pos rfl, ← e]
          exact (H.l k lk (by rw [e]; exact hu0)).2
        · next e =>
          intro hn
          obtain ⟨p1, p2⟩ := H.l k lk hn
          refine ⟨p1, ?_⟩
          rw [E.up _ p1, if_neg (b2 k lk k2), if_neg e, if_neg]
          · exact p2
          · intro e2
            have := (H.l h hl (by rw [← e2]; exact hn)).2
            rw [← e2, p2] at this
            exact k1 this
  · intro k lk
    rw [E.r k lk]
    by_cases k1 : k = h
    · subst k1
      simp only [if_true]
      intro hn
      obtain ⟨p1, p2⟩ := H.r k lk hn
      refine ⟨p1, ?_⟩
      rw [E.up _ p1, if_neg a1, if_neg a2, if_neg (H.rl lk hn)]
      exact p2
    · simp only [if_neg k1]
      by_cases k2 : k = u
      · subst k2
        simp only [if_true]
        intro hn
        obtain ⟨p1, p2⟩ := H.l h hl hn
        refine ⟨p1, ?_⟩
        rw [E.up _ p1, if_neg a3, if_neg a4, if_pos rfl]
      · simp only [if_neg k2]
        split
        · next e =>
          intro _
          refine ⟨hl, ?_⟩
          rw [E.up h hl, if_pos rfl, ← e]
          exact (H.r k lk (by rw [e]; exact hu0)).2
        · next e =>
          intro hn
          obtain ⟨p1, p2⟩ := H.r k lk hn
          refine ⟨p1, ?_⟩
          rw [E.up _ p1, if_neg (b1 k lk k2), if_neg e, if_neg]
          · exact p2
          · intro e2
            have := (H.l h hl (by rw [← e2]; exact hn)).2
            rw [← e2, p2] at this
            exact k1 this
  · intro k lk
    rw [E.up k lk]
    by_cases k1 : k = h
    · subst k1
      simp only [if_true]
      intro hn
      obtain ⟨p1, p2, p3⟩ := H.u u lu hn
      have ne1 : (nd u).up ≠ k := fun e => by
        have := H.up_lt lu hn
        rw [e] at this; omega
      have ne2 : (nd u).up ≠ u := fun e => by
        have := H.up_lt lu hn
        rw [e] at this; omega
      refine ⟨p1, p2.trans hSu, ?_⟩
      rw [E.r _ p1, E.l _ p1]
      simp only [if_neg ne1, if_neg ne2]
      rcases p3.symm with p3 | p3
      · exact .inr (if_pos p3)
      · exact .inl (if_pos p3)
    · simp only [if_neg k1]
      by_cases k2 : k = u
      · subst k2
        simp only [if_true]
        intro hn
        refine ⟨hl, hSu.symm, ?_⟩
        rw [E.l h hl, if_pos rfl]
        exact .inl rfl
      · simp only [if_neg k2]
        split
        · next e =>
          intro hn
          have hm := H.l h hl (by rw [← e]; exact H.ne0 lk)
          rw [← e] at hm
          have := (H.u k lk (by rw [hm.2]; exact h0)).2.1
          rw [hm.2] at this
          refine ⟨lu, hSu.trans this, ?_⟩
          rw [E.r u lu, if_neg (Ne.symm huh), if_pos rfl]
          exact .inr e.symm
        · next e =>
          intro hn
          obtain ⟨p1, p2, p3⟩ := H.u k lk hn
          refine ⟨p1, p2, ?_⟩
          rw [E.r _ p1, E.l _ p1]
          by_cases q1 : (nd k).up = h
          · rw [q1] at p3 ⊢
            simp only [if_true]
            rcases p3.symm with p3 | p3
            · exact .inr p3
            · exact absurd p3.symm e
          · by_cases q2 : (nd k).up = u
            · rw [q2] at p3 ⊢
              simp only [if_neg (Ne.symm huh), if_true]
              rcases p3.symm with p3 | p3
              · exact absurd (p3.symm.trans hs) k1
              · exact .inl p3
            · simp only [if_neg q1, if_neg q2]
              rcases p3.symm with p3 | p3
              · rw [p3, if_neg k2]; exact .inr rfl
              · rw [p3, if_neg k2]; exact .inl rfl
  · intro k lk
    rw [E.up k lk, E.T]
    by_cases k1 : k = h
    · subst k1
      simp only [if_true]
      intro hn
      rw [H.root u lu hn, hSu]
    · simp only [if_neg k1]
      by_cases k2 : k = u
      · subst k2
        simp only [if_true]
        intro hn
        exact absurd hn h0
      · simp only [if_neg k2]
        split
        · intro hn; exact absurd hn hu0
        · exact H.root k lk
  · intro k lk
    by_cases k1 : k = h
    · subst k1; exact E.sh.1
    · by_cases k2 : k = u
      · subst k2; exact E.su.1
      · rw [(E.other k k1 k2).1, E.T, if_neg k1, if_neg k2]; exact H.sz k lk
  · intro k lk
    rw [sumk k lk]
    by_cases k1 : k = h
    · subst k1; exact E.sh.2
    · by_cases k2 : k = u
      · subst k2; exact E.su.2
      · rw [(E.other k k1 k2).2, E.T, if_neg k1, if_neg k2]; exact H.ag k lk
  · exact Tin
  · exact H.self
  · exact H.mem
  · intro k lk; rw [E.it]; exact H.may k lk

end Go.Proofs.Ythdmajddmajjoaa

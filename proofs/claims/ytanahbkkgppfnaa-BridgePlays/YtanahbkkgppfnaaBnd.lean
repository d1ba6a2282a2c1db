/- A walk's bounds; what its steps come to, all together. No program. -/
import Derived.Test.YtanahbkkgppfnaaAdv
namespace Go.Proofs.Ytanahbkkgppfnaa
set_option linter.unusedVariables false

theorem inc_len {tn : Nat → Nat} {T : Nat} : ∀ (xs : List Nat) (k : Nat), xs.Pairwise (fun a b => tn a < tn b) → (∀ x, x ∈ xs → k < tn x ∧ tn x ≤ T) → xs.length ≤ T - k
  | [], _, _, _ => by simp
  | a :: r, k, h, hb => by
    rw [List.pairwise_cons] at h
    have := inc_len r (tn a) h.2 (fun x hx => ⟨h.1 x hx, (hb x (List.mem_cons_of_mem _ hx)).2⟩)
    have := hb a (by simp)
    simp only [List.length_cons]
    omega
theorem nodup_len {xs : List Nat} {N : Nat} (h : xs.Nodup) (hb : ∀ x, x ∈ xs → x < N) : xs.length ≤ N := by
  have := len_le_of_nodup N (xs.map (· + 1)) (by
    rw [List.Nodup, List.pairwise_map]
    exact h.imp fun {a b} q => by omega) (fun x hx => by
    obtain ⟨y, hy, rfl⟩ := List.mem_map.1 hx
    have := hb y hy
    omega)
  simpa using this
/-- How many were not come to; how many steps are left. -/
def unS (n : Nat) (s : Dst) : Nat := sumN (fun x => if s.tn x = 0 then 1 else 0) n
def lfS (n : Nat) (s : Dst) : Nat := sumN (fun x => (s.st x).length) n
def Gv (l : List (Nat × Nat)) (n τ : Nat) (s : Dst) : Prop := (∃ anc, Dv l n τ anc s) ∧ s.turns + unS n s = n ∧ lfS n s ≤ 400 ∧ n ≤ 64 ∧ l.length ≤ 192 ∧ (∀ x, x ∈ l → x.1 < n ∧ x.2 < n)
theorem sumN_mem (b : Nat → Nat) {v : Nat} : ∀ n, v < n → b v ≤ sumN b n
  | 0, h => by omega
  | n + 1, h => by
    simp only [sumN]
    by_cases e : v = n
    · subst e; omega
    · have := sumN_mem b n (show v < n by omega); omega
section
variable {l : List (Nat × Nat)} {n τ : Nat} {s : Dst}
theorem Gv.bounds (h : Gv l n τ s) : s.turns ≤ 64 ∧ s.path.length ≤ 64 ∧ s.op.length ≤ 64 ∧ s.br.length ≤ 192 ∧ (∀ x, s.tn x ≤ 64) ∧ (∀ x, x ∈ s.path → s.lw x ≤ 64) ∧ (∀ x, x ∈ s.path → x < n) ∧ (∀ x, x ∈ s.op → x < n) ∧ (∀ x, x < n → (s.st x).length ≤ 400) := by
  obtain ⟨⟨anc, D⟩, h2, h3, h4, h5, h6⟩ := h
  have ht : s.turns ≤ 64 := by omega
  refine ⟨ht, ?_, ?_, ?_, fun x => Nat.le_trans (D.tle x) ht, fun x hx => ?_, fun x hx => D.lt x (by have := D.pt x hx; omega), fun x hx => D.lt x (by have := D.opt x hx; omega), fun x hx => Nat.le_trans (sumN_mem (fun x => (s.st x).length) n hx) h3⟩
  · exact inc_len s.path 0 D.pw (fun x hx => ⟨by have := D.pt x hx; omega, Nat.le_trans (D.tle x) ht⟩)
  · exact inc_len s.op 0 D.opw (fun x hx => ⟨by have := D.opt x hx; omega, Nat.le_trans (D.tle x) ht⟩)
  · exact Nat.le_trans (nodup_len D.brn (fun e he => (D.brb e he).1)) h5
  · obtain ⟨q, _, h1, _⟩ := D.wi x hx
    rw [h1]; exact Nat.le_trans (D.tle q) ht
theorem unS_enter {v : Nat} {T : Nat} (hv : v < n) (h0 : s.tn v = 0) (hT : 0 < T) : sumN (fun x => if put8 s.tn v T x = 0 then 1 else 0) n + 1 = unS n s := by
  have e : (fun x => if put8 s.tn v T x = 0 then 1 else 0) = put8 (fun x => if s.tn x = 0 then 1 else 0) v 0 := by
    funext x
    by_cases q : x = v
    · subst q; rw [put8_at, put8_at, if_neg (by omega)]
    · rw [put8_ne _ _ q, put8_ne _ _ q]
  rw [e]
  have := sumN_put (fun x => if s.tn x = 0 then 1 else 0) (x := 0) n hv
  simp only [h0, if_true] at this
  unfold unS
  omega
theorem lfS_pop {v e y : Nat} {t : List (Nat × Nat)} (hv : v < n) (hs : s.st v = (e, y) :: t) : sumN (fun x => (put8 s.st v t x).length) n + 1 = lfS n s := by
  have e1 : (fun x => (put8 s.st v t x).length) = put8 (fun x => (s.st x).length) v t.length := by
    funext x
    by_cases q : x = v
    · subst q; rw [put8_at, put8_at]
    · rw [put8_ne _ _ q, put8_ne _ _ q]
  rw [e1]
  have := sumN_put (fun x => (s.st x).length) (x := t.length) n hv
  simp only [hs, List.length_cons] at this
  unfold lfS
  omega
/-- A step. -/
theorem Gv.adv (h : Gv l n τ s) {ps : List Nat} {v e y : Nat} {t : List (Nat × Nat)} (hp : s.path = ps ++ [v]) (hs : s.st v = (e, y) :: t) : Gv l n τ (advS s v e y t) ∧ lfS n (advS s v e y t) + 1 = lfS n s ∧ (∀ x, 0 < s.tn x → 0 < (advS s v e y t).tn x) ∧ (advS s v e y t).path ≠ [] := by
  obtain ⟨⟨anc, D⟩, h2, h3, h4, h5, h6⟩ := h
  have hv : v < n := D.lt v (by have := D.pt v (by rw [hp]; simp); omega)
  have hpop := lfS_pop hv hs
  have hne : s.path ≠ [] := by rw [hp]; simp
  unfold advS
  by_cases q : s.ba v = (e : Nat)
  · rw [if_pos q]
    exact ⟨⟨⟨anc, D.back hp hs q⟩, h2, Nat.le_trans (by show sumN (fun x => (put8 s.st v t x).length) n ≤ lfS n s; omega) h3, h4, h5, h6⟩, hpop, fun x hx => hx, hne⟩
  · rw [if_neg q]
    by_cases q2 : 0 < s.tn y
    · rw [if_pos q2]
      exact ⟨⟨⟨anc, D.low hp hs q q2⟩, h2, Nat.le_trans (by show sumN (fun x => (put8 s.st v t x).length) n ≤ lfS n s; omega) h3, h4, h5, h6⟩, hpop, fun x hx => hx, hne⟩
    · rw [if_neg q2]
      have hy0 : s.tn y = 0 := by omega
      have D2 := D.enter h6 hp hs hy0
      have hy : y < n := D2.lt y (by show 0 < put8 s.tn y (s.turns + 1) y; rw [put8_at]; omega)
      have hun := unS_enter (T := s.turns + 1) hy hy0 (by omega)
      refine ⟨⟨⟨_, D2⟩, ?_, Nat.le_trans (by show sumN (fun x => (put8 s.st v t x).length) n ≤ lfS n s; omega) h3, h4, h5, h6⟩, hpop, fun x hx => ?_, ?_⟩
      · show s.turns + 1 + sumN (fun x => if put8 s.tn y (s.turns + 1) x = 0 then 1 else 0) n = n; omega
      · show 0 < put8 s.tn y (s.turns + 1) x
        by_cases z : x = y
        · rw [z, put8_at]; omega
        · rw [put8_ne _ _ z]; exact hx
      · show s.path ++ [y] ≠ []; simp
/-- A component begins. -/
theorem Gv.start (h : Gv l n τ s) (ht : s.turns = τ) {v : Nat} (hv : v < n) (hp : s.path = []) (h0 : s.tn v = 0) : Gv l n τ (enterS s v (-1)) ∧ (∀ x, 0 < s.tn x → 0 < (enterS s v (-1)).tn x) ∧ 0 < (enterS s v (-1)).tn v ∧ (enterS s v (-1)).path = [v] := by
  obtain ⟨⟨anc, D⟩, h2, h3, h4, h5, h6⟩ := h
  have hun := unS_enter (T := s.turns + 1) hv h0 (by omega)
  refine ⟨⟨⟨_, D.start hv hp ht h0⟩, ?_, h3, h4, h5, h6⟩, fun x hx => ?_, ?_, ?_⟩
  · show s.turns + 1 + sumN (fun x => if put8 s.tn v (s.turns + 1) x = 0 then 1 else 0) n = n; omega
  · show 0 < put8 s.tn v (s.turns + 1) x
    by_cases z : x = v
    · rw [z, put8_at]; omega
    · rw [put8_ne _ _ z]; exact hx
  · show 0 < put8 s.tn v (s.turns + 1) v; rw [put8_at]; omega
  · show s.path ++ [v] = [v]; rw [hp]; rfl
/-- Going back. -/
theorem Gv.leave (h : Gv l n τ s) {ps : List Nat} {v : Nat} (hp : s.path = ps ++ [v]) (hs : s.st v = []) (hlow : s.lw v < s.tn v) : ∃ ps0 b, ps = ps0 ++ [b] ∧ b ∈ s.path ∧ b ≠ v ∧ Gv l n τ { s with path := ps, lw := put8 s.lw b (min (s.lw b) (s.lw v)) } := by
  obtain ⟨⟨anc, D⟩, h2⟩ := h
  have hvp : v ∈ s.path := by rw [hp]; simp
  have hps : ps ≠ [] := fun q => by
    subst q
    obtain ⟨r, hr, r1, r2, _⟩ := D.wi v hvp
    rw [hp] at hr
    simp at hr
    rw [hr] at r1
    omega
  obtain ⟨ps0, b, rfl⟩ : ∃ ps0 b, ps = ps0 ++ [b] := ⟨ps.dropLast, ps.getLast hps, (List.dropLast_concat_getLast hps).symm⟩
  have hb : b ∈ s.path := by rw [hp]; simp
  refine ⟨ps0, b, rfl, hb, fun q => ?_, ⟨_, D.leave hp hs hlow⟩, h2⟩
  exact (D.top hp).2.2.2.2.1 (by rw [← q]; simp)
theorem Gv.shut (h : Gv l n τ s) {ps A B T : List Nat} {v m : Nat} {br' : List Nat} (hp : s.path = ps ++ [v]) (hs : s.st v = []) (hlow : ¬ s.lw v < s.tn v) (ho : s.op = A ++ T) (hT : T = v :: B) (hm1 : m ∈ T) (hm2 : ∀ x, x ∈ T → m ≤ x) (hbr : (s.ba v = -1 ∧ br' = s.br) ∨ ∃ e : Nat, s.ba v = (e : Nat) ∧ br' = s.br ++ [e]) : Gv l n τ { s with path := ps, op := A, bl := fun x => if x ∈ T then m else s.bl x, br := br' } := by
  obtain ⟨⟨anc, D⟩, h2⟩ := h
  subst hT
  have hb : ps ≠ [] → ∃ ps', ps = ps' ++ [ps.getLastD 0] := fun hne => ⟨ps.dropLast, by
    have := (List.dropLast_concat_getLast hne).symm
    rw [List.getLastD_eq_getLast?, List.getLast?_eq_some_getLast hne]
    exact this⟩
  exact ⟨⟨_, D.shut hp hb hs hlow ho hm1 hm2 hbr⟩, h2⟩
/-- Of the vertex where it stands: its place among the open ones, its edge. -/
theorem Gv.open (h : Gv l n τ s) {ps : List Nat} {v : Nat} (hp : s.path = ps ++ [v]) : (∃ A B, s.op = A ++ v :: B ∧ v ∉ A) ∧ (s.ba v = -1 ∨ ∃ e : Nat, s.ba v = (e : Nat) ∧ e < l.length) := by
  obtain ⟨⟨anc, D⟩, h2⟩ := h
  have hvp : v ∈ s.path := by rw [hp]; simp
  constructor
  · obtain ⟨A, B, hAB⟩ := List.append_of_mem (D.oph v hvp)
    refine ⟨A, B, hAB, fun hc => ?_⟩
    have := D.opw
    rw [hAB, List.pairwise_append] at this
    exact absurd (this.2.2 v hc v (by simp)) (by omega)
  · obtain ⟨i, hi, hiv⟩ := List.getElem_of_mem hvp
    cases i with
    | zero => exact .inl (hiv ▸ (D.rt _ (List.getElem?_eq_getElem hi)).1)
    | succ i =>
      obtain ⟨e', h1, h2⟩ := D.lk i _ _ (List.getElem?_eq_getElem (by omega)) (List.getElem?_eq_getElem hi)
      exact .inr ⟨e', hiv ▸ h1, h2.lt⟩
theorem Gv.step (h : Gv l n τ s) {ps : List Nat} {v e y : Nat} {t : List (Nat × Nat)} (hs : s.st v = (e, y) :: t) : y < n ∧ e < l.length := by
  obtain ⟨⟨anc, D⟩, h2, h3, h4, h5, h6⟩ := h
  have hI := D.stI v e y (by rw [hs]; simp)
  refine ⟨?_, hI.lt⟩
  rcases hI with hI | hI
  · exact (h6 _ (List.mem_of_getElem? hI)).2
  · exact (h6 _ (List.mem_of_getElem? hI)).1
theorem Gv.next (h : Gv l n τ s) (hp : s.path = []) : Gv l n s.turns s := by
  obtain ⟨⟨anc, D⟩, h2⟩ := h
  exact ⟨⟨anc, D.next hp⟩, h2⟩
end
end Go.Proofs.Ytanahbkkgppfnaa

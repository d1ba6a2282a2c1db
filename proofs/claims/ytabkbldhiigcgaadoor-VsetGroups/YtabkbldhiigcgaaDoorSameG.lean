/- Names in groups: a name more. No program. -/
import Derived.Test.YtabkbldhiigcgaaDoorSameM
namespace Go.Proofs.YtabkbldhiigcgaaDoor
open Go.ChangeShapes Go.WideShapes Go.ChangeAt Go.RowKit Go.Maps
set_option linter.unusedVariables false

theorem head_app {a : ByteArray} {l : List ByteArray} (h : l.head? = some a) (s : ByteArray) : (l ++ [s]).head? = some a := by
  cases l with
  | nil => cases h
  | cons b l => exact h
theorem GrpOf.put {F : ByteArray → Option Nat} {l : List ByteArray} {G : Grp} (h : GrpOf F l G) {i : Nat} (hi : i < G.length) {s : ByteArray} (hs : F s = some (G[i]).1) : GrpOf F (l ++ [s]) (putG G i s) := by
  have hl : ∀ {j}, j < (putG G i s).length → j < G.length := fun {j} hj => by rw [putG_len] at hj; exact hj
  have key : ∀ j (hj : j < (putG G i s).length), ((putG G i s)[j]).1 = (G[j]'(hl hj)).1 := fun j hj => by
    by_cases e : i = j
    · subst e; rw [putG_same G i s hi]
    · rw [putG_other G i j s hi hj (hl hj) e]
  refine ⟨fun j hj t => ?_, fun j hj => ?_, fun j k hj hk e => ?_, fun t x ht hx => ?_, fun j hj => ?_, fun j k hj hk hjk => ?_⟩
  · rw [key j hj]
    by_cases e : i = j
    · subst e
      rw [putG_same G i s hi, List.mem_append, List.mem_append, h.sets i hi t, List.mem_singleton]
      constructor
      · rintro (⟨h1, h2⟩ | rfl)
        · exact ⟨.inl h1, h2⟩
        · exact ⟨.inr rfl, hs⟩
      · rintro ⟨h1 | h1, h2⟩
        · exact .inl ⟨h1, h2⟩
        · exact .inr h1
    · rw [putG_other G i j s hi hj (hl hj) e, h.sets j (hl hj) t, List.mem_append, List.mem_singleton]
      constructor
      · rintro ⟨h1, h2⟩; exact ⟨.inl h1, h2⟩
      · rintro ⟨h1 | h1, h2⟩
        · exact ⟨h1, h2⟩
        · rw [h1, hs] at h2
          exact absurd (h.apart i j hi (hl hj) (Option.some.inj h2)) e
  · by_cases e : i = j
    · subst e; rw [putG_same G i s hi]; simp
    · rw [putG_other G i j s hi hj (hl hj) e]; exact h.full j (hl hj)
  · rw [key j hj, key k hk] at e
    exact h.apart j k (hl hj) (hl hk) e
  · rcases List.mem_append.1 ht with h1 | h1
    · obtain ⟨j, hj, e⟩ := h.all t x h1 hx
      exact ⟨j, by rw [putG_len]; exact hj, by rw [key j (by rw [putG_len]; exact hj)]; exact e⟩
    · rw [List.mem_singleton] at h1
      rw [h1, hs] at hx
      exact ⟨i, by rw [putG_len]; exact hi, by rw [key i (by rw [putG_len]; exact hi)]; exact Option.some.inj hx⟩
  · by_cases e : i = j
    · subst e; rw [putG_same G i s hi]; exact (h.sub i hi).append (List.Sublist.refl _)
    · rw [putG_other G i j s hi hj (hl hj) e]; exact (h.sub j (hl hj)).trans (List.sublist_append_left _ _)
  · obtain ⟨a, b, A, B, C, h1, h2, h3⟩ := h.heads j k (hl hj) (hl hk) hjk
    have hh : ∀ q (hq : q < (putG G i s).length) c, (G[q]'(hl hq)).2.head? = some c → ((putG G i s)[q]).2.head? = some c := fun q hq c hc => by
      by_cases e : i = q
      · subst e; rw [putG_same G i s hi]; exact head_app hc s
      · rw [putG_other G i q s hi hq (hl hq) e]; exact hc
    exact ⟨a, b, A, B, C ++ [s], hh j hj a h1, hh k hk b h2, by rw [h3]; simp⟩
theorem GrpOf.new {F : ByteArray → Option Nat} {l : List ByteArray} {G : Grp} (h : GrpOf F l G) {s : ByteArray} {x : Nat} (hs : F s = some x) (hn : ∀ i (h : i < G.length), (G[i]).1 ≠ x) : GrpOf F (l ++ [s]) (G ++ [(x, [s])]) := by
  have old : ∀ j (hj : j < (G ++ [(x, [s])]).length) (hj' : j < G.length), (G ++ [(x, [s])])[j] = G[j] := fun j hj hj' => List.getElem_append_left hj'
  have new : ∀ j (hj : j < (G ++ [(x, [s])]).length), ¬ j < G.length → (G ++ [(x, [s])])[j] = (x, [s]) ∧ j = G.length := fun j hj hj' => by
    have e : j = G.length := by simp at hj; omega
    subst e
    exact ⟨by simp, rfl⟩
  have keyn : ∀ t, t ∈ l → F t ≠ some x := fun t ht he => by
    obtain ⟨i, hi, e⟩ := h.all t x ht he
    exact hn i hi e
  refine ⟨fun j hj t => ?_, fun j hj => ?_, fun j k hj hk e => ?_, fun t y ht hy => ?_, fun j hj => ?_, fun j k hj hk hjk => ?_⟩
  · by_cases hj' : j < G.length
    · rw [old j hj hj', h.sets j hj' t, List.mem_append, List.mem_singleton]
      constructor
      · rintro ⟨h1, h2⟩; exact ⟨.inl h1, h2⟩
      · rintro ⟨h1 | h1, h2⟩
        · exact ⟨h1, h2⟩
        · rw [h1, hs] at h2
          exact absurd (Option.some.inj h2).symm (hn j hj')
    · rw [(new j hj hj').1, List.mem_append]
      simp only [List.mem_singleton]
      constructor
      · rintro rfl; exact ⟨.inr rfl, hs⟩
      · rintro ⟨h1 | h1, h2⟩
        · exact absurd h2 (keyn t h1)
        · exact h1
  · by_cases hj' : j < G.length
    · rw [old j hj hj']; exact h.full j hj'
    · rw [(new j hj hj').1]; simp
  · by_cases hj' : j < G.length
    · by_cases hk' : k < G.length
      · rw [old j hj hj', old k hk hk'] at e; exact h.apart j k hj' hk' e
      · rw [old j hj hj', (new k hk hk').1] at e; exact absurd e (hn j hj')
    · by_cases hk' : k < G.length
      · rw [(new j hj hj').1, old k hk hk'] at e; exact absurd e.symm (hn k hk')
      · rw [(new j hj hj').2, (new k hk hk').2]
  · rcases List.mem_append.1 ht with h1 | h1
    · obtain ⟨i, hi, e⟩ := h.all t y h1 hy
      exact ⟨i, by simp; omega, by rw [old i (by simp; omega) hi]; exact e⟩
    · rw [List.mem_singleton] at h1
      rw [h1, hs] at hy
      exact ⟨G.length, by simp, by simp; exact Option.some.inj hy⟩
  · by_cases hj' : j < G.length
    · rw [old j hj hj']; exact (h.sub j hj').trans (List.sublist_append_left _ _)
    · rw [(new j hj hj').1]; exact List.sublist_append_right _ _
  · by_cases hk' : k < G.length
    · obtain ⟨a, b, A, B, C, h1, h2, h3⟩ := h.heads j k (by omega) hk' hjk
      exact ⟨a, b, A, B, C ++ [s], by rw [old j hj (by omega)]; exact h1, by rw [old k hk hk']; exact h2, by rw [h3]; simp⟩
    · have hj' : j < G.length := by have := (new k hk hk').2; omega
      cases hg : (G[j]).2 with
      | nil => exact absurd hg (h.full j hj')
      | cons a t =>
        have hm : a ∈ l := ((h.sets j hj' a).1 (by rw [hg]; simp)).1
        obtain ⟨A, B, e⟩ := List.append_of_mem hm
        exact ⟨a, s, A, B, [], by rw [old j hj hj', hg]; rfl, by rw [(new k hk hk').1]; rfl, by rw [e]; simp⟩
theorem putG_new (G : Grp) (x : Nat) (s : ByteArray) : putG (G ++ [(x, [])]) G.length s = G ++ [(x, [s])] := by
  rw [putG_at _ _ _ (by simp)]
  simp
end Go.Proofs.YtabkbldhiigcgaaDoor

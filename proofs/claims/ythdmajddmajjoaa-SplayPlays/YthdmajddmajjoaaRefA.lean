/- The document's own arena (handles alone): what it is in memory, and what each of its calls answers and leaves. -/
import Derived.Test.YthdmajddmajjoaaChg
import Derived.Test.YthdmajddmajjoaaMake
namespace Go.Proofs.Ythdmajddmajjoaa
set_option linter.unusedVariables false

/-- Sequences: each node stands in its own, with those of one sequence. -/
structure Pl (live : Nat → Prop) (S : Nat → List Nat) : Prop where
  self : ∀ k, live k → k ∈ S k
  mem : ∀ k, live k → ∀ j, j ∈ S k → live j ∧ S j = S k
  nd : ∀ k, live k → (S k).Nodup
/-- The lists LL hold the sequences; I says in which one a node stands. -/
structure RP (live : Nat → Prop) (S : Nat → List Nat) (I : Nat → Nat) (LL : List (List Nat)) : Prop where
  own : ∀ k, live k → I k < LL.length ∧ LL.getD (I k) [] = S k
  bck : ∀ i, i < LL.length → ∀ k, k ∈ LL.getD i [] → live k ∧ I k = i
variable {live : Nat → Prop} {S : Nat → List Nat} {I : Nat → Nat} {LL : List (List Nat)}
theorem RP.same (h : RP live S I LL) (p : Pl live S) {a b : Nat} (ha : live a) (hb : live b) : I a = I b ↔ S a = S b := by
  constructor
  · intro e
    rw [← (h.own a ha).2, ← (h.own b hb).2, e]
  · intro e
    have h1 := (h.own b hb)
    have h2 : a ∈ LL.getD (I b) [] := by rw [h1.2, ← e]; exact p.self a ha
    exact (h.bck _ h1.1 a h2).2
theorem RP.nil : RP (fun _ => False) S I [] := ⟨fun k h => h.elim, fun i h => by simp at h⟩
theorem RP.cong {live' : Nat → Prop} {S' : Nat → List Nat} {I' : Nat → Nat} (h : RP live S I LL) (hl : ∀ k, live' k ↔ live k) (hS : ∀ k, live k → S' k = S k) (hI : ∀ k, live k → I' k = I k) : RP live' S' I' LL := by
  refine ⟨fun k hk => ?_, fun i hi k hk => ?_⟩
  · have hk' := (hl k).1 hk
    rw [hS k hk', hI k hk']
    exact h.own k hk'
  · obtain ⟨h1, h2⟩ := h.bck i hi k hk
    exact ⟨(hl k).2 h1, (hI k h1).trans h2⟩
theorem getD_snoc_old {α : Type} (l : List α) (x d : α) (i : Nat) (h : i < l.length) : (l ++ [x]).getD i d = l.getD i d := by
  simp only [List.getD, List.getElem?_append_left h]
theorem getD_snoc_new {α : Type} (l : List α) (x d : α) : (l ++ [x]).getD l.length d = x := by
  simp [List.getD]
theorem getD_set_same {α : Type} (l : List α) (x d : α) (i : Nat) (h : i < l.length) : (l.set i x).getD i d = x := by
  simp [List.getD, h]
theorem getD_set_other {α : Type} (l : List α) (x d : α) (i j : Nat) (h : j ≠ i) : (l.set i x).getD j d = l.getD j d := by
  simp only [List.getD, List.getElem?_set_ne (Ne.symm h)]
theorem RP.make (r : RP live S I LL) {h : Nat} (hn : ¬ live h) : RP (fun k => k = h ∨ live k) (upd S h [h]) (upd I h LL.length) (LL ++ [[h]]) := by
  refine ⟨fun k hk => ?_, fun i hi k hk => ?_⟩
  · by_cases e : k = h
    · subst e
      simp only [upd, if_true]
      exact ⟨by simp, getD_snoc_new _ _ _⟩
    · have hk' : live k := hk.resolve_left e
      obtain ⟨h1, h2⟩ := r.own k hk'
      simp only [upd, if_neg e]
      exact ⟨by simp; omega, by rw [getD_snoc_old _ _ _ _ h1]; exact h2⟩
  · by_cases e : i < LL.length
    · rw [getD_snoc_old _ _ _ _ e] at hk
      obtain ⟨h1, h2⟩ := r.bck i e k hk
      have hne : k ≠ h := fun e => hn (by rw [← e]; exact h1)
      exact ⟨.inr h1, by simp only [upd, if_neg hne]; exact h2⟩
    · have e2 : i = LL.length := by simp at hi; omega
      subst e2
      rw [getD_snoc_new] at hk
      have hkh : k = h := by simpa using hk
      subst hkh
      exact ⟨.inl rfl, by simp [upd]⟩
theorem RP.free (r : RP live S I LL) (p : Pl live S) {h : Nat} (hl : live h) (hs : S h = [h]) : RP (fun k => live k ∧ k ≠ h) S I (LL.set (I h) []) := by
  obtain ⟨o1, o2⟩ := r.own h hl
  refine ⟨fun k hk => ?_, fun i hi k hk => ?_⟩
  · obtain ⟨h1, h2⟩ := r.own k hk.1
    have hne : I k ≠ I h := fun e => by
      have h4 := (r.same p hk.1 hl).1 e
      have h5 := p.self k hk.1
      rw [h4, hs] at h5
      exact hk.2 (by simpa using h5)
    exact ⟨by simp; exact h1, by rw [getD_set_other _ _ _ _ _ hne]; exact h2⟩
  · rw [List.length_set] at hi
    by_cases e : i = I h
    · subst e
      rw [getD_set_same _ _ _ _ hi] at hk
      cases hk
    · rw [getD_set_other _ _ _ _ _ e] at hk
      obtain ⟨h1, h2⟩ := r.bck i hi k hk
      refine ⟨⟨h1, fun e2 => ?_⟩, h2⟩
      subst e2
      exact e h2.symm
theorem RP.join (r : RP live S I LL) (p : Pl live S) {a b : Nat} (ha : live a) (hb : live b) (hn : I a ≠ I b) :
    RP live (joinS S a b) (fun k => if k ∈ S b then I a else I k) ((LL.set (I a) (S a ++ S b)).set (I b) []) := by
  obtain ⟨a1, a2⟩ := r.own a ha
  obtain ⟨b1, b2⟩ := r.own b hb
  have hin : ∀ k, live k → (k ∈ S a ↔ I k = I a) := fun k hk => by
    constructor
    · intro h
      rw [← a2] at h
      exact (r.bck _ a1 k h).2
    · intro h
      have := (r.same p hk ha).1 h
      rw [← this]
      exact p.self k hk
  have hin2 : ∀ k, live k → (k ∈ S b ↔ I k = I b) := fun k hk => by
    constructor
    · intro h
      rw [← b2] at h
      exact (r.bck _ b1 k h).2
    · intro h
      have := (r.same p hk hb).1 h
      rw [← this]
      exact p.self k hk
  have hget : ((LL.set (I a) (S a ++ S b)).set (I b) []).getD (I a) [] = S a ++ S b := by
    rw [getD_set_other _ _ _ _ _ hn, getD_set_same _ _ _ _ a1]
  refine ⟨fun k hk => ?_, fun i hi k hk => ?_⟩
  · simp only [List.length_set]
    by_cases h1 : k ∈ S b
    · rw [if_pos h1]
      refine ⟨a1, ?_⟩
      rw [hget]
      unfold joinS
      rw [if_pos (.inr h1)]
    · rw [if_neg h1]
      by_cases h2 : k ∈ S a
      · rw [(hin k hk).1 h2]
        refine ⟨a1, ?_⟩
        rw [hget]
        unfold joinS
        rw [if_pos (.inl h2)]
      · obtain ⟨k1, k2⟩ := r.own k hk
        refine ⟨k1, ?_⟩
        have n1 : I k ≠ I b := fun e => h1 ((hin2 k hk).2 e)
        have n2 : I k ≠ I a := fun e => h2 ((hin k hk).2 e)
        rw [getD_set_other _ _ _ _ _ n1, getD_set_other _ _ _ _ _ n2, k2]
        unfold joinS
        rw [if_neg (fun h => h.elim h2 h1)]
  · simp only [List.length_set] at hi
    by_cases e1 : i = I b
    · subst e1
      rw [getD_set_same _ _ _ _ (by simp; exact hi)] at hk
      cases hk
    · rw [getD_set_other _ _ _ _ _ e1] at hk
      by_cases e2 : i = I a
      · subst e2
        rw [getD_set_same _ _ _ _ hi] at hk
        rcases List.mem_append.1 hk with h | h
        · have hl := (p.mem a ha k h).1
          refine ⟨hl, ?_⟩
          rw [if_neg]
          · exact (hin k hl).1 h
          · intro h2
            exact hn (((hin k hl).1 h).symm.trans ((hin2 k hl).1 h2))
        · have hl := (p.mem b hb k h).1
          exact ⟨hl, by rw [if_pos h]⟩
      · rw [getD_set_other _ _ _ _ _ e2] at hk
        obtain ⟨h1, h2⟩ := r.bck i hi k hk
        refine ⟨h1, ?_⟩
        rw [if_neg]
        · exact h2
        · intro h3
          exact e1 (h2.symm.trans ((hin2 k h1).1 h3))
theorem RP.split (r : RP live S I LL) (p : Pl live S) {h : Nat} {A B : List Nat} (hl : live h) (hs : S h = A ++ h :: B) :
    RP live (splitS S A h B) (fun k => if k ∈ A then LL.length else I k) (LL.set (I h) (h :: B) ++ [A]) := by
  obtain ⟨o1, o2⟩ := r.own h hl
  have hnd := p.nd h hl
  rw [hs] at hnd
  have hin : ∀ k, live k → (k ∈ S h ↔ I k = I h) := fun k hk => by
    constructor
    · intro h1
      rw [← o2] at h1
      exact (r.bck _ o1 k h1).2
    · intro h1
      have := (r.same p hk hl).1 h1
      rw [← this]
      exact p.self k hk
  have hlen : (LL.set (I h) (h :: B)).length = LL.length := List.length_set
  refine ⟨fun k hk => ?_, fun i hi k hk => ?_⟩
  · by_cases h1 : k ∈ A
    · rw [if_pos h1]
      refine ⟨by simp, ?_⟩
      rw [← hlen, getD_snoc_new]
      unfold splitS
      rw [if_pos h1]
    · rw [if_neg h1]
      obtain ⟨k1, k2⟩ := r.own k hk
      refine ⟨by simp; omega, ?_⟩
      rw [getD_snoc_old _ _ _ _ (by rw [hlen]; exact k1)]
      by_cases h2 : k ∈ h :: B
      · have h3 : k ∈ S h := by rw [hs]; simp at h2 ⊢; exact .inr h2
        rw [(hin k hk).1 h3, getD_set_same _ _ _ _ o1]
        unfold splitS
        rw [if_neg h1, if_pos h2]
      · have h3 : I k ≠ I h := fun e => by
          have := (hin k hk).2 e
          rw [hs] at this
          rcases List.mem_append.1 this with h4 | h4
          · exact h1 h4
          · exact h2 h4
        rw [getD_set_other _ _ _ _ _ h3, k2]
        unfold splitS
        rw [if_neg h1, if_neg h2]
  · by_cases e : i < LL.length
    · rw [getD_snoc_old _ _ _ _ (by rw [hlen]; exact e)] at hk
      by_cases e2 : i = I h
      · subst e2
        rw [getD_set_same _ _ _ _ o1] at hk
        have h3 : k ∈ S h := by rw [hs]; simp at hk ⊢; exact .inr hk
        have h4 := (p.mem h hl k h3).1
        refine ⟨h4, ?_⟩
        rw [if_neg]
        · exact (hin k h4).1 h3
        · intro h5
          exact (List.nodup_append.1 hnd).2.2 k h5 k hk rfl
      · rw [getD_set_other _ _ _ _ _ e2] at hk
        obtain ⟨h1, h2⟩ := r.bck i e k hk
        refine ⟨h1, ?_⟩
        rw [if_neg]
        · exact h2
        · intro h5
          have h6 : k ∈ S h := by rw [hs]; simp [h5]
          exact e2 (h2.symm.trans ((hin k h1).1 h6))
    · have e3 : i = LL.length := by simp at hi; omega
      subst e3
      rw [← hlen, getD_snoc_new] at hk
      have h3 : k ∈ S h := by rw [hs]; simp [hk]
      exact ⟨(p.mem h hl k h3).1, by rw [if_pos hk]⟩
end Go.Proofs.Ythdmajddmajjoaa
namespace Go.Proofs.Ythdmajddmajjoaa
open Go.ChangeShapes Go.WideShapes Go.ChangeAt Go.RowKit
set_option linter.unusedVariables false

/-- The document's arena in memory: three labels from R on. -/
def Rf (w : World) (o : Nat → Nat) (R q room n : Nat) (free : List Nat) : Prop :=
  ∃ vu vf, Blk w o R q (.cells #[.int .i64 room, vu, vf] 89 (0, 0)) ∧ Row w o (R + 1) 4 1 vu (n + 1) (.bool false :: usedL n free) ∧ Row w o (R + 2) 3 1 vf free.length (intsL free) ∧ WF room n free
def RL (R : Nat) : Nat → Prop := fun k => R ≤ k ∧ k < R + 3
theorem RL.mk {L k : Nat} (h1 : L ≤ k) (h2 : k < L + 3) : RL L k := ⟨h1, h2⟩
theorem Rf.step {I : Nat → Prop} {w w' : World} {o o' : Nat → Nat} {R q room n : Nat} {free : List Nat} (h : Rf w o R q room n free) (s : Step I w o w' o') (hi : ∀ k, RL R k → ¬ I k) : Rf w' o' R q room n free := by
  obtain ⟨vu, vf, h0, h1, h2, h4⟩ := h
  exact ⟨vu, vf, h0.step s (hi _ ⟨by omega, by omega⟩), h1.step s (hi _ ⟨by omega, by omega⟩), h2.step s (hi _ ⟨by omega, by omega⟩), h4⟩
theorem Rf.wf {w : World} {o : Nat → Nat} {R q room n : Nat} {free : List Nat} (h : Rf w o R q room n free) : WF room n free := by
  obtain ⟨vu, vf, h0, h1, h2, h4⟩ := h
  exact h4
theorem Rf.drewN {w : World} {o : Nat → Nat} {R q room n : Nat} {free : List Nat} (h : Rf w o R q room n free) (m : Nat) : Rf (w.drewN m) o R q room n free := h
theorem used1_get (n : Nat) (free : List Nat) (j : Nat) (h : j < n) : (Value.bool false :: usedL n free)[j + 1]? = some (.bool (useB free j)) := by rw [List.getElem?_cons_succ]; exact usedL_get n free j h

theorem refHas (w : World) (o : Nat → Nat) (R q room n : Nat) (free : List Nat) (x : Int) (h : Rf w o R q room n free) :
    Calls Try.prog 62 #[.pointer (some ⟨q, 0, none⟩), .int .i64 x] w fun e w' => e = .returned (.bool (hasB n free x)) ∧ w' = w := by
  obtain ⟨vu, vf, h0, h2, h3, h4⟩ := h
  obtain ⟨c0, c1, c2, hf⟩ := h0.cells3
  have hn : n ≤ 4096 := Nat.le_trans h4.le h4.room
  obtain ⟨g, cap, rfl, hg, hc, hm, hlt, hcell, hfr⟩ := h2.pos (by omega)
  by_cases hx : 1 ≤ x ∧ x ≤ n
  · obtain ⟨hx1, hx2⟩ := hx
    obtain ⟨k, rfl⟩ : ∃ k : Nat, x = k + 1 := ⟨x.toNat - 1, by omega⟩
    have hkn : k < n := by omega
    have hk := (hcell (k + 1) (by omega)).trans (used1_get n free k hkn)
    have e : hasB n free (k + 1) = useB free k := by simp [hasB, hx2]; omega
    rw [e]
    clear h0 h2 h3 h4 e hcell
    go_enter Try.func62, Try.ntmps62
    go_wp2
    go_ret
    exact ⟨rfl, rfl⟩
  · have e : hasB n free x = false := by
      simp only [hasB, Bool.and_eq_false_iff, decide_eq_false_iff_not]
      omega
    rw [e]
    clear h0 h2 h3 h4 e hcell
    by_cases hx1 : 1 ≤ x
    · have hx2 : ¬ x < (n : Int) + 1 := by omega
      clear hx
      go_enter Try.func62, Try.ntmps62
      go_wp2
      go_ret
      exact ⟨rfl, rfl⟩
    · clear hx
      go_enter Try.func62, Try.ntmps62
      go_wp2
      go_ret
      exact ⟨rfl, rfl⟩

theorem refLen (w : World) (o : Nat → Nat) (R q room n : Nat) (free : List Nat) (h : Rf w o R q room n free) :
    Calls Try.prog 60 #[.pointer (some ⟨q, 0, none⟩)] w fun e w' => e = .returned (.int .i64 (n - free.length : Nat)) ∧ w' = w := by
  obtain ⟨vu, vf, h0, h2, h3, h4⟩ := h
  obtain ⟨c0, c1, c2, hf⟩ := h0.cells3
  have hn : n ≤ 4096 := Nat.le_trans h4.le h4.room
  obtain ⟨g, cap, rfl, hg, hc, hm, hlt, hcell, hfr⟩ := h2.pos (by omega)
  unfold maxLen at hm
  have hck : ∀ k, k < n → w.cell? ⟨g, k + 1, none⟩ = some (.bool (useB free k)) := fun k hk => (hcell (k + 1) (by omega)).trans (used1_get n free k hk)
  rw [← allL_count h4]
  clear h0 h2 h3 h4 hcell
  go_enter Try.func60, Try.ntmps60
  go_wp2
  go_loop [3, 4] (fun c i => ∃ k : Nat, k ≤ n ∧ i = .int .i64 ((k : Int) + 1) ∧ c = .int .i64 ((allL k free).length : Nat)) (fun _ i => n + 1 - (intOf i).toNat)
  case atStart => exact ⟨0, by omega, by go_num, rfl⟩
  case round =>
    obtain ⟨k, hk, rfl, rfl⟩ := hrel
    have hal := allL_le k free
    by_cases hlt2 : k < n
    · have ck := hck k hlt2
      have es := allL_succ k free
      by_cases hu : useB free k = true
      · rw [if_pos hu] at es
        have HE : Hid ((allL (k + 1) free).length = (allL k free).length + 1) := by rw [es]; simp [Hid]
        clear es hck
        go_wp2
        go_round
        case rel => exact ⟨k + 1, by omega, by go_num, by rw [HE.out]; go_num⟩
        case measure => simp [intOf]; omega
      · have hu' : useB free k = false := by simpa using hu
        rw [if_neg hu] at es
        have HE : Hid ((allL (k + 1) free).length = (allL k free).length) := by rw [es]; rfl
        clear es hck hu
        go_wp2
        go_round
        case rel => exact ⟨k + 1, by omega, by go_num, by rw [HE.out]⟩
        case measure => simp [intOf]; omega
    · obtain rfl : k = n := by omega
      clear hck
      go_wp2
      go_ret
      exact ⟨rfl, rfl⟩

theorem Rf.new {w : World} {o : Nat → Nat} {R room : Nat} (hr : room ≤ 4096) :
    Rf ((w.alloc (.cells #[.bool false] 4)).alloc (.cells #[.int .i64 room, .slice (some ⟨w.heap.size, 0, none⟩) 1 1, .slice none 0 0] 89)) (newLab (w.alloc (.cells #[.bool false] 4)) (newLab w o (R + 1)) R) R (w.heap.size + 1) room 0 [] ∧
    Step (fun _ => False) w o ((w.alloc (.cells #[.bool false] 4)).alloc (.cells #[.int .i64 room, .slice (some ⟨w.heap.size, 0, none⟩) 1 1, .slice none 0 0] 89)) (newLab (w.alloc (.cells #[.bool false] 4)) (newLab w o (R + 1)) R) := by
  have s1 := newStep (fun _ => False) w o (R + 1) (.cells #[.bool false] 4)
  have s2 := newStep (fun _ => False) (w.alloc (.cells #[.bool false] 4)) (newLab w o (R + 1)) R (.cells #[.int .i64 room, .slice (some ⟨w.heap.size, 0, none⟩) 1 1, .slice none 0 0] 89)
  have hsz : (w.alloc (.cells #[.bool false] 4)).heap.size = w.heap.size + 1 := by simp
  have r1 : Row (w.alloc (.cells #[.bool false] 4)) (newLab w o (R + 1)) (R + 1) 4 1 (.slice (some ⟨w.heap.size, 0, none⟩) 1 1) 1 [.bool false] :=
    ⟨World.ownsRow_lit w #[.bool false] 1 (Nat.zero_le _) (by unfold maxLen; omega) (by simp), fun k hk => by simp [Value.ownBlock] at hk; subst hk; exact newLab_new (Nat.le_refl _)⟩
  refine ⟨⟨_, _, ⟨?_, newLab_new (by omega)⟩, r1.step s2 id, Row.nil _ _ _ _ _, WF.new hr⟩, s1.trans s2⟩
  have := heap_alloc_new (w.alloc (.cells #[.bool false] 4)) (.cells #[.int .i64 room, .slice (some ⟨w.heap.size, 0, none⟩) 1 1, .slice none 0 0] 89)
  rwa [hsz] at this

theorem refNewBad (w : World) (x : Int) (hx : x < 0 ∨ 4096 < x) :
    Calls Try.prog 16 #[.int .i64 x] w fun e w' => e = .returned (.tuple #[.pointer none, .int .i64 1]) ∧ w' = w := by
  rcases hx with hx | hx
  · go_enter Try.func16, Try.ntmps16
    go_wp2
    go_ret2
    exact ⟨rfl, rfl⟩
  · have hx0 : ¬ x < 0 := by omega
    go_enter Try.func16, Try.ntmps16
    go_wp2
    go_ret2
    exact ⟨rfl, rfl⟩

theorem refNew (w : World) (o : Nat → Nat) (R r : Nat) (hr : r ≤ 4096) :
    Calls Try.prog 16 #[.int .i64 r] w fun e w' => ∃ q, e = .returned (.tuple #[.pointer (some ⟨q, 0, none⟩), .int .i64 0]) ∧ ∃ o', Rf w' o' R q r 0 [] ∧ Step (fun _ => False) w o w' o' := by
  have hx0 : ¬ (r : Int) < 0 := by omega
  have hx1 : ¬ (4096 : Int) < (r : Int) := by omega
  go_enter Try.func16, Try.ntmps16
  go_wp2
  go_ret2
  have R1 := @Rf.new w o R r hr
  exact ⟨_, rfl, _, R1.1, R1.2⟩

/-- What the document's Put leaves, where a handle was free. -/
theorem Rf.popped {w : World} {o : Nat → Nat} {R q room n gi ci gf cf : Nat} {fs : List Nat} {k : Nat}
    (h0 : Blk w o R q (.cells #[.int .i64 room, .slice (some ⟨gi, 0, none⟩) (n + 1) ci, .slice (some ⟨gf, 0, none⟩) (fs.length + 1) cf] 89 (0, 0)))
    (h2 : Row w o (R + 1) 4 1 (.slice (some ⟨gi, 0, none⟩) (n + 1) ci) (n + 1) (.bool false :: usedL n (fs ++ [k + 1])))
    (h3 : Row w o (R + 2) 3 1 (.slice (some ⟨gf, 0, none⟩) (fs.length + 1) cf) (fs.length + 1) (intsL (fs ++ [k + 1]))) (h4 : WF room n (fs ++ [k + 1])) :
    Rf ((w.setCell ⟨q, 2, none⟩ (.slice (some ⟨gf, 0, none⟩) fs.length cf)).setCell ⟨gi, k + 1, none⟩ (.bool true)) o R q room n fs ∧
      Step (RL R) w o ((w.setCell ⟨q, 2, none⟩ (.slice (some ⟨gf, 0, none⟩) fs.length cf)).setCell ⟨gi, k + 1, none⟩ (.bool true)) o := by
  have s1 := setStep (fun x => x = R) w o ⟨q, 2, none⟩ (.slice (some ⟨gf, 0, none⟩) fs.length cf) h0.2
  have g0 := h0.set 2 (.slice (some ⟨gf, 0, none⟩) fs.length cf)
  have g2 := h2.step s1 (by omega)
  have g3 := (h3.cut fs.length (by omega)).step s1 (by omega)
  have s2 := setStep (fun x => x = R + 1) (w.setCell ⟨q, 2, none⟩ (.slice (some ⟨gf, 0, none⟩) fs.length cf)) o ⟨gi, k + 1, none⟩ (.bool true) (h2.2 gi rfl)
  refine ⟨⟨_, _, g0.step s2 (by omega), ?_, ?_, h4.pop⟩, (s1.mono fun x hx => RL.mk (by omega) (by omega)).trans (s2.mono fun x hx => RL.mk (by omega) (by omega))⟩
  · have := g2.store (k + 1) (.bool true)
    have e := usedL_pop n fs (k + 1) h4.nodup (by omega)
    rw [Nat.add_sub_cancel] at e
    rw [List.set_cons_succ, e] at this
    exact this
  · have e : (intsL (fs ++ [k + 1])).take (fs.length * 1) = intsL fs := by simp [intsL]
    rw [e] at g3
    exact g3.step s2 (by omega)

theorem refPutFull (w : World) (o : Nat → Nat) (R q room n : Nat) (free : List Nat) (hfull : n - free.length = room) (h : Rf w o R q room n free) :
    Calls Try.prog 46 #[.pointer (some ⟨q, 0, none⟩)] w fun e w' => e = .returned (.tuple #[.int .i64 0, .int .i64 20]) ∧ ∃ m, w' = w.drewN m := by
  have hx := h
  obtain ⟨vu, vf, h0, h2, h3, h4⟩ := hx
  obtain ⟨c0, c1, c2, hf⟩ := h0.cells3
  have hn : n ≤ 4096 := Nat.le_trans h4.le h4.room
  clear h0 h2 h3 h4
  have hlen := fun wx hh => refLen wx o R q room n free hh
  rw [hfull] at hlen
  go_enter Try.func46, Try.ntmps46
  go_wp2
  go_quiet ((go_at_call 60; exact Calls.quiet_of_same (hlen _ h)))
  go_wp2
  go_ret2
  exact ⟨rfl, _, rfl⟩

theorem refPutPop (w : World) (o : Nat → Nat) (R q room n : Nat) (fs : List Nat) (k : Nat) (h : Rf w o R q room n (fs ++ [k + 1])) :
    Calls Try.prog 46 #[.pointer (some ⟨q, 0, none⟩)] w fun e w' => e = .returned (.tuple #[.int .i64 (k + 1 : Nat), .int .i64 0]) ∧ Rf w' o R q room n fs ∧ Step (RL R) w o w' o := by
  have hx := h
  obtain ⟨vu, vf, h0, h2, h3, h4⟩ := hx
  have hl : (fs ++ [k + 1]).length = fs.length + 1 := by simp
  rw [hl] at h3
  have hla := h4.last
  have hle := h4.free_le
  have hnr := h4.le
  have hrm := h4.room
  have hne : ¬ ((room : Int) ≤ ((n - (fs ++ [k + 1]).length : Nat) : Int)) := by rw [hl] at hle ⊢; omega
  rw [hl] at hle
  have hn : n ≤ 4096 := Nat.le_trans h4.le h4.room
  obtain ⟨gi, ci, rfl, hgi, hci, hmi, hlti, hcelli, hfri⟩ := h2.pos (by omega)
  obtain ⟨gf, cf, rfl, hgf, hcf, hmf, hltf, hcellf, hfrf⟩ := h3.pos (by omega)
  have HP := Rf.popped h0 h2 h3 h4
  obtain ⟨c0, c1, c2, hf⟩ := h0.cells3
  have hk := (hcelli (k + 1) (by omega)).trans (used1_get n _ k (by omega))
  have hfk : w.cell? ⟨gf, fs.length, none⟩ = some (.int .i64 (k + 1 : Nat)) := (hcellf fs.length (by omega)).trans (by simp [intsL])
  have hpi : q ≠ gi := fun e => by have h5 := h0.2; rw [e] at h5; omega
  have hip : gi ≠ q := hpi.symm
  have hkn : k < n := by omega
  unfold maxLen at hmf hmi
  obtain ⟨y, hy⟩ : ∃ y, y = n - (fs ++ [k + 1]).length := ⟨_, rfl⟩
  have hlen := fun wx hh => refLen wx o R q room n (fs ++ [k + 1]) hh
  rw [← hy] at hlen hne
  clear h0 h2 h3 h4 hcelli hcellf hla hl hy
  go_enter Try.func46, Try.ntmps46
  go_wp2
  go_quiet ((go_at_call 60; exact Calls.quiet_of_same (hlen _ h)))
  clear hlen h
  go_wp2
  go_ret2
  exact ⟨rfl, HP.1, HP.2.drewN _⟩

/-- What the document's Put leaves, where none was free. -/
theorem Rf.pushed {w w2 : World} {o o2 : Nat → Nat} {R q room n g2 cap2 cf : Nat} {af : Option Addr} {vi : Value}
    (h0 : Blk w o R q (.cells #[.int .i64 room, vi, .slice af 0 cf] 89 (0, 0))) (h3 : Row w o (R + 2) 3 1 (.slice af 0 cf) 0 (intsL [])) (h4 : WF room n []) (hroom : n < room)
    (hr2 : Row w2 o2 (R + 1) 4 1 (.slice (some ⟨g2, 0, none⟩) (n + 1 + 1) cap2) (n + 1 + 1) ((.bool false :: usedL n []) ++ [.bool true])) (sC : Step (fun k => k = R + 1) w o w2 o2) :
    Rf (w2.setCell ⟨q, 1, none⟩ (.slice (some ⟨g2, 0, none⟩) (n + 1 + 1) cap2)) o2 R q room (n + 1) [] ∧
      Step (RL R) w o (w2.setCell ⟨q, 1, none⟩ (.slice (some ⟨g2, 0, none⟩) (n + 1 + 1) cap2)) o2 := by
  have n0 := h0.step sC (by omega)
  have sD := setStep (fun x => x = R) w2 o2 ⟨q, 1, none⟩ (.slice (some ⟨g2, 0, none⟩) (n + 1 + 1) cap2) n0.2
  rw [List.cons_append, usedL_push] at hr2
  refine ⟨⟨_, _, n0.set 1 _, hr2.step sD (by omega), (h3.step sC (by omega)).step sD (by omega), h4.push hroom⟩, ?_⟩
  exact (sC.mono fun x hx => RL.mk (by omega) (by omega)).trans (sD.mono fun x hx => RL.mk (by omega) (by omega))

theorem refPutPush (w : World) (o : Nat → Nat) (R q room n : Nat) (hroom : n < room) (h : Rf w o R q room n []) :
    Calls Try.prog 46 #[.pointer (some ⟨q, 0, none⟩)] w fun e w' => e = .returned (.tuple #[.int .i64 (n + 1 : Nat), .int .i64 0]) ∧ ∃ o', Rf w' o' R q room (n + 1) [] ∧ Step (RL R) w o w' o' := by
  have hx := h
  obtain ⟨vu, vf, h0, h2, h3, h4⟩ := hx
  have hn : n ≤ 4096 := Nat.le_trans h4.le h4.room
  have hrm := h4.room
  obtain ⟨gi, ci, rfl, hgi, hci, hmi, hlti, hcelli, hfri⟩ := h2.pos (by omega)
  obtain ⟨af, cf, rfl⟩ := h3.form
  have hx0 := h0
  obtain ⟨c0, c1, c2, hf⟩ := hx0.cells3
  clear hx0
  have hne : ¬ ((room : Int) ≤ (n : Int)) := by omega
  have hlen := fun wx hh => refLen wx o R q room n [] hh
  obtain ⟨ib, hib, hzb0, hzb1, hzb2⟩ := info_parts infoBool
  unfold maxLen at hmi
  have b1 : n + 1 + 1 ≤ maxLen := by unfold maxLen; omega
  clear hcelli
  go_enter Try.func46, Try.ntmps46
  go_wp2
  go_quiet ((go_at_call 60; exact Calls.quiet_of_same (hlen _ h)))
  clear hlen h
  go_wp2_with (first | (at_builtin; refine wpList_append_lab rfl (.tmp 49) (.tmp 50) 85 rfl 4 ib (.bool false) 1 1 Try.underlying85 hib hzb0 hzb1 hzb2 rfl (by decide) o (R + 1) _ (n + 1) (.bool false :: usedL n []) rfl (h2.step ((Step.refl (fun _ => False) w o).alloc _ |>.drewN _) (by simp)) ⟨w.heap.size, 0, none⟩ 1 1 [.bool true] rfl rfl (new_one_at (by simp) _ _) (by intro u hu; simp at hu; subst hu; rfl) (by decide) b1 (by omega) ?_) | go_in)
  intro g2 cap2 w2 o2 hr2 hs2
  have sC := (((Step.refl (fun k => k = R + 1) w o).drewN _).alloc _).trans hs2
  have n0 := h0.step sC (by omega)
  obtain ⟨e0, e1, e2, hfe⟩ := Blk.cells3 n0
  have R1 := Rf.pushed h0 h3 h4 hroom hr2 sC
  clear h0 h2 h3 h4 hr2 hs2 n0 sC
  go_wp2
  go_ret2
  exact ⟨rfl, o2, R1.1, R1.2⟩

end Go.Proofs.Ythdmajddmajjoaa

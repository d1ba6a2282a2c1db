/- Two lists of texts, two lists of such lists: are they the same? -/
import Derived.Test.YtmpkhbblakfglaaDoorFRef9
import Derived.Test.YtmpkhbblakfglaaDoorSameC
namespace Go.Proofs.YtmpkhbblakfglaaDoor
open Go.ChangeShapes Go.WideShapes Go.ChangeAt Go.RowKit Go.Maps
set_option linter.unusedVariables false
set_option linter.unusedSimpArgs false

theorem strsL_get (l : List ByteArray) (k : Nat) (h : k < l.length) : (strsL l)[k]? = some (.string (l.getD k ⟨#[]⟩)) := by
  simp [strsL, List.getD, List.getElem?_eq_getElem h]
set_option maxHeartbeats 1000000 in
theorem texts_yes (w : World) (o o2 : Nat → Nat) (La Lb n : Nat) (l : List ByteArray) (va vb : Value) (hl : l.length = n) (hn : n ≤ 5000) (ha : Row w o La 9 1 va n (strsL l)) (hb : Row w o2 Lb 9 1 vb n (strsL l)) :
    Calls Tryd.prog 26 #[va, vb] w fun e w' => e = .returned (.bool true) ∧ ∃ m, w' = w.drewN m := by
  obtain ⟨aa, ca, rfl⟩ := ha.form
  obtain ⟨ab, cb, rfl⟩ := hb.form
  have HL : Hid (l.length = n) := hl
  clear hl
  go_enter Tryd.func26, Tryd.ntmps26
  go_wp2
  go_loopw [5] (fun i wr => ∃ k : Nat, k ≤ n ∧ i = .int .i64 k ∧ ∃ m, wr = w.drewN m) (fun i _ => n - (intOf i).toNat)
  case atStart => exact ⟨0, by omega, by go_num, 0, rfl⟩
  case round =>
    obtain ⟨k, hk, rfl, m, rfl⟩ := hrel
    by_cases hlt : k < n
    · obtain ⟨ga, ca', hv, _, hca, hma, _, hcla, _⟩ := ha.pos (by omega)
      simp only [Value.slice.injEq, true_and] at hv
      obtain ⟨rfl, rfl⟩ := hv
      obtain ⟨gb, cb', hv, _, hcb, hmb, _, hclb, _⟩ := hb.pos (by omega)
      simp only [Value.slice.injEq, true_and] at hv
      obtain ⟨rfl, rfl⟩ := hv
      have hkl : k < l.length := by rw [HL.out]; exact hlt
      have cA := (hcla k (by omega)).trans (strsL_get l k hkl)
      have cB := (hclb k (by omega)).trans (strsL_get l k hkl)
      generalize l.getD k ⟨#[]⟩ = t at cA cB
      unfold maxLen at hma hmb
      clear hcla hclb ha hb
      go_wp2
      go_quiet (fail)
      go_wp2
      go_roundw
      case rel => (try ((repeat apply Exists.intro); refine ⟨?_, rfl⟩)); exact ⟨k + 1, by omega, by go_num, _, rfl⟩
      case measure => simp [intOf]; omega
    · obtain rfl : k = n := by omega
      clear ha hb
      go_wp2
      go_ret
      exact ⟨rfl, _, rfl⟩
set_option maxHeartbeats 2000000 in
theorem groups_yes (w : World) (o o2 : Nat → Nat) (lo lb lo2 lb2 n : Nat) (G G2 : Grp) (va vb : Value) (hg : G.map (·.2) = G2.map (·.2)) (hn : G.length = n) (hn2 : n ≤ 5000) (hln : ∀ i (h : i < G.length), (G[i]).2.length ≤ 5000) (ha : GrpM w o lo lb va G) (hb : GrpM w o2 lo2 lb2 vb G2) :
    Calls Tryd.prog 29 #[va, vb] w fun e w' => e = .returned (.bool true) ∧ Step (fun _ => False) w o w' o := by
  have hl : G.length = G2.length := by have := congrArg List.length hg; simpa using this
  have hel : ∀ i (h : i < G.length) (h2 : i < G2.length), (G[i]).2 = (G2[i]).2 := fun i h h2 => by
    have := congrArg (fun x => x[i]?) hg
    simpa [h, h2] using this
  obtain ⟨vs, hR, hG⟩ := ha
  obtain ⟨us, hQ, hH⟩ := hb
  rw [hn] at hR
  rw [← hl, hn] at hQ
  obtain ⟨aa, ca, rfl⟩ := hR.form
  obtain ⟨ab, cb, rfl⟩ := hQ.form
  have key : Hid (∀ k, k < n → ∃ u v l La Lb, vs[k]? = some u ∧ us[k]? = some v ∧ l.length ≤ 5000 ∧ Row w o La 9 1 u l.length (strsL l) ∧ Row w o2 Lb 9 1 v l.length (strsL l)) := fun k hk => by
    obtain ⟨u, h1, h2⟩ := hG k (by omega)
    obtain ⟨v, h3, h4⟩ := hH k (by omega)
    rw [← hel k (by omega) (by omega)] at h4
    exact ⟨u, v, _, _, _, h1, h3, hln k (by omega), h2, h4⟩
  clear hG hH hel hl hg hln hn
  go_enter Tryd.func29, Tryd.ntmps29
  go_wp2
  go_loopw [5] (fun i wr => ∃ k : Nat, k ≤ n ∧ i = .int .i64 k ∧ Step (fun _ => False) w o wr o) (fun i _ => n - (intOf i).toNat)
  case atStart => exact ⟨0, by omega, by go_num, Step.refl _ _ _⟩
  case round =>
    obtain ⟨k, hk, rfl, st⟩ := hrel
    have st2 : Step (fun _ => False) w o2 wr o2 := ⟨st.os, st.tape, st.output, st.size, fun _ _ => rfl, fun k hk _ => st.block k hk id⟩
    have hR' := hR.step st id
    have hQ' := hQ.step st2 id
    by_cases hlt : k < n
    · obtain ⟨ga, ca', hv, _, hca, hma, _, hcla, _⟩ := hR'.pos (by omega)
      simp only [Value.slice.injEq, true_and] at hv
      obtain ⟨rfl, rfl⟩ := hv
      obtain ⟨gb, cb', hv, _, hcb, hmb, _, hclb, _⟩ := hQ'.pos (by omega)
      simp only [Value.slice.injEq, true_and] at hv
      obtain ⟨rfl, rfl⟩ := hv
      obtain ⟨u, v, l, La, Lb, e1, e2, hll, r1, r2⟩ := key.out k hlt
      have cA := (hcla k (by omega)).trans e1
      have cB := (hclb k (by omega)).trans e2
      have hs := fun m' => texts_yes (wr.drewN m') o o2 La Lb l.length l u v rfl hll (r1.step (st.drewN m') id) (r2.step (st2.drewN m') id)
      unfold maxLen at hma hmb
      clear hcla hclb hR hQ hR' hQ' e1 e2 r1 r2
      go_wp2
      go_quiet ((go_at_call 26; exact Calls.quiet_of (hs _)))
      clear hs
      go_wp2
      go_roundw
      case rel => (try ((repeat apply Exists.intro); refine ⟨?_, rfl⟩)); exact ⟨k + 1, by omega, by go_num, st.drewN _⟩
      case measure => simp [intOf]; omega
    · obtain rfl : k = n := by omega
      clear hR hQ hR' hQ'
      go_wp2
      go_ret
      exact ⟨rfl, st⟩
end Go.Proofs.YtmpkhbblakfglaaDoor

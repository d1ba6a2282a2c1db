/- An edge goes: chains; a node that stands alone is taken away. No program. -/
import Derived.Test.YtffmlffhiimmdaaCut5
namespace Go.Proofs.Ytffmlffhiimmdaa
open Go.ChangeShapes Go.WideShapes Go.ChangeAt Go.RowKit Go.Maps
set_option linter.unusedVariables false

def subL (live : Nat → Prop) (e : Nat) : Nat → Prop := fun k => live k ∧ k ≠ e
theorem Fg.remove {w : World} {o : Nat → Nat} {L : Nat} {live : Nat → Prop} {pt : Nat → Nat} {E E' : Nat → Ed} {R : Nat → List Nat} {e : Nat} (F : Fg w o L live pt E R) (le : live e) (alone : ∀ k, live k → k ≠ e → e ∉ R k) (re : R e = [e]) (hE : ∀ k, live k → k ≠ e → E' k = E k) : Fg w o L (subL live e) pt E' R := by
  obtain ⟨nd, hv, T, S, P, G, hR, hT⟩ := F
  have e0 := G.s.ne le
  have Pe : ∀ h, live h → h ≠ e → P h ≠ e := fun h lh he z => by
    obtain ⟨A, eA⟩ := Rc.at_self G.c hR lh
    rw [z, if_neg e0, re] at eA
    exact alone h lh he (by rw [eA]; simp)
  have Se : ∀ h, live h → h ≠ e → e ∉ S h := fun h lh he m => by
    have q := G.c.mem h lh e m
    have hh : h ∈ S e := by rw [q.2.1]; exact G.c.self h lh
    obtain ⟨A, B, eA⟩ := List.append_of_mem hh
    have r1 := hR e le A h B eA
    obtain ⟨A2, B2, eB⟩ := List.append_of_mem (G.c.self e le)
    have r2 := hR e le A2 e B2 eB
    rw [re] at r2
    have e3 : (if P e = 0 then [] else R (P e)) ++ A2 = [] := by
      have : [] ++ [e] = ((if P e = 0 then [] else R (P e)) ++ A2) ++ [e] := by simpa using r2
      exact (last_eq this).1.symm
    have a2 : A2 = [] := (List.append_eq_nil_iff.1 e3).2
    have x2 : (if P e = 0 then [] else R (P e)) = [] := (List.append_eq_nil_iff.1 e3).1
    rw [a2] at eB
    rw [x2] at r1
    cases A with
    | nil =>
      rw [eA] at eB
      simp at eB
      exact he eB.1
    | cons x A =>
      rw [eA] at eB
      simp at eB
      exact alone h lh he (by rw [r1, eB.1]; simp)
  have Te : ∀ h, live h → h ≠ e → e ∉ T h := fun h lh he m => by
    have q := G.c.sub lh m
    exact Se h lh he (by rw [← q.2]; exact G.c.self e le)
  have le_ : ∀ h, live h → h ≠ e → (nd h).l ≠ e ∧ (nd h).r ≠ e := fun h lh he => ⟨fun z => Te h lh he ((G.c.mem_t lh).2 (.inl (by rw [z]; exact G.c.selfT le))), fun z => Te h lh he ((G.c.mem_t lh).2 (.inr (.inr (by rw [z]; exact G.c.selfT le))))⟩
  have ue : ∀ h, live h → h ≠ e → (nd h).up ≠ e := fun h lh he z => by
    by_cases t : TopN nd h
    · exact Pe h lh he (by rw [(G.c.top h lh t).2, z])
    · obtain ⟨u0, q⟩ := notTop t
      have := G.c.Su (G.c.u h lh u0) (G.s.ne lh) q
      rw [z] at this
      exact Se h lh he (by rw [← this]; exact G.c.self e le)
  refine ⟨nd, hv, T, S, P, ⟨fun h lh => ?_, fun k lk => G.s k lk.1, ⟨fun z => G.c.nz z.1, G.c.t0, fun h lh => G.c.t h lh.1, fun h lh h0 => ?_, fun h lh h0 => ?_, fun h lh h0 => ⟨G.c.u h lh.1 h0, ue h lh.1 lh.2⟩, fun h lh => G.c.top h lh.1, fun h lh => G.c.nodup h lh.1, fun h lh => G.c.self h lh.1, fun h lh k hk => ?_, fun h lh => G.c.out h lh.1, fun h lh h0 => ⟨G.c.pl h lh.1 h0, Pe h lh.1 lh.2⟩⟩, fun h lh => ?_⟩, fun h lh => hR h lh.1, ⟨fun k lk => hT.last k lk.1, fun k lk y hy => ⟨hT.mem k lk.1 y hy, fun z => alone k lk.1 lk.2 (z ▸ hy)⟩, fun k lk => hT.pre k lk.1, fun k lk => hT.nodup k lk.1⟩⟩
  · have := G.m h lh.1
    have e1 : ncells pt E' (nd h) (hv h) h = ncells pt E (nd h) (hv h) h := by unfold ncells; rw [hE h lh.1 lh.2]
    rw [e1]; exact this
  · have := G.c.l h lh.1 h0; exact ⟨⟨this.1, (le_ h lh.1 lh.2).1⟩, this.2⟩
  · have := G.c.r h lh.1 h0; exact ⟨⟨this.1, (le_ h lh.1 lh.2).2⟩, this.2⟩
  · have := G.c.mem h lh.1 k hk; exact ⟨⟨this.1, fun z => Se h lh.1 lh.2 (z ▸ hk)⟩, this.2⟩
  · rcases G.v h lh.1 with ⟨a1, a2⟩ | ⟨a1, a2, a3, a4⟩
    · exact .inl ⟨a1, a2⟩
    · refine .inr ⟨a1, a2, a3, fun j hj ej => ?_⟩
      have nj : j ≠ e := fun z => Te h lh.1 lh.2 (z ▸ hj)
      have nm : hv h ≠ e := fun z => Te h lh.1 lh.2 (z ▸ a2)
      unfold lighter
      rw [hE j (G.c.sub lh.1 hj).1 nj, hE _ (G.c.sub lh.1 a2).1 nm]; exact a4 j hj ej

section
variable {n : Nat} {ed : Nat → Option Ed} {R : Nat → List Nat}
theorem liveN_cut {i : Nat} : liveN n (upd ed i none) = subL (liveN n ed) (2 * i + 2) := by
  funext k; apply propext; unfold subL liveN
  by_cases e : k % 2 = 0
  · rw [if_pos e, if_pos e]
    by_cases q : (k - 2) / 2 = i
    · rw [q, upd_same]; simp; omega
    · rw [upd_other _ _ q]
      constructor
      · exact fun h => ⟨h, by omega⟩
      · exact fun h => h.1
  · rw [if_neg e, if_neg e]; omega
/-- What two cuts leave: all but the edge's own node as one cut at the lower end. -/
theorem cut_two (A0 : Alt n ed R) (ok : EdOk n ed) (hT : Rt (liveN n ed) R) {i a b : Nat} {x : Ed} (hx : ed i = some x) (ab : (a = x.u ∧ b = x.v) ∨ (a = x.v ∧ b = x.u)) (ea : R (2 * i + 2) = R (2 * a + 1) ++ [2 * i + 2]) (eb : R (2 * b + 1) = R (2 * i + 2) ++ [2 * b + 1]) :
    (cutR (cutR R (2 * i + 2)) (2 * b + 1) (2 * i + 2) = [2 * i + 2]) ∧ ∀ k, liveN n ed k → k ≠ 2 * i + 2 → cutR (cutR R (2 * i + 2)) (2 * b + 1) k = cutR R (2 * b + 1) k ∧ 2 * i + 2 ∉ cutR R (2 * b + 1) k := by
  obtain ⟨_, o1, o2, _⟩ := ok i x hx
  have li : liveN n ed (2 * i + 2) := liveN_e.2 (by rw [hx]; rfl)
  have lb : liveN n ed (2 * b + 1) := liveN_v (by omega)
  obtain ⟨p, hp⟩ := hT.last _ li
  obtain ⟨pb, hpb⟩ := hT.last _ lb
  have hT1 := hT.cut li
  have mb : 2 * i + 2 ∈ R (2 * b + 1) := by rw [eb, hp]; simp
  have r1e : cutR R (2 * i + 2) (2 * i + 2) = [2 * i + 2] := by
    obtain ⟨q, e1, e2⟩ := hT.cut_in li hp li (by rw [hp]; simp)
    rw [hp] at e1
    have : ([2 * i + 2] : List Nat) = (2 * i + 2) :: q := List.append_cancel_left e1
    rw [e2, ← this]
  have r1b : cutR R (2 * i + 2) (2 * b + 1) = [2 * i + 2] ++ [2 * b + 1] := by
    obtain ⟨q, e1, e2⟩ := hT.cut_in li hp lb mb
    rw [eb, hp] at e1
    have : ([2 * i + 2] ++ [2 * b + 1] : List Nat) = (2 * i + 2) :: q := List.append_cancel_left (by rw [← e1]; simp)
    rw [e2, ← this]
  refine ⟨?_, fun k lk ke => ?_⟩
  · rw [cut_out, r1e]
    rw [r1e]; simp; omega
  · by_cases m : 2 * i + 2 ∈ R k
    · obtain ⟨q, e1, e2⟩ := hT.cut_in li hp lk m
      have e3 : R k = R (2 * i + 2) ++ q := by rw [e1, hp]; simp
      cases q with
      | nil =>
        exfalso
        obtain ⟨pk, hpk⟩ := hT.last k lk
        rw [hpk, hp, List.append_nil] at e3
        exact ke (last_eq e3).2
      | cons y q =>
        have ly : liveN n ed y := hT.mem k lk y (by rw [e3]; simp)
        have hy : y = 2 * b + 1 := A0.next_e ok hT hx ly (hT.at lk e3) ab ea
        subst hy
        have mk : 2 * b + 1 ∈ R k := by rw [e3]; simp
        obtain ⟨q2, f1, f2⟩ := hT.cut_in lb hpb lk mk
        have hq2 : q2 = q := by
          have hpb2 : pb = R (2 * i + 2) := (last_eq (hpb.symm.trans eb)).1
          rw [e3, hpb2] at f1
          have := List.append_cancel_left f1
          simp at this; exact this.symm
        obtain ⟨q3, g1, g2⟩ := hT1.cut_in lb r1b lk (by rw [e2]; simp)
        have hq3 : q3 = q := by
          rw [e2] at g1
          simp at g1; exact g1.symm
        refine ⟨by rw [g2, f2, hq2, hq3], ?_⟩
        rw [f2, hq2]
        have nn := hT.nodup k lk
        rw [e3] at nn
        have := (List.nodup_append.1 nn).2.2 (2 * i + 2) (by rw [hp]; simp)
        exact fun z => this _ z rfl
    · have m1 : 2 * b + 1 ∉ R k := fun z => m (by
        obtain ⟨q, hq⟩ := hT.pre k lk _ z
        rw [hq]; exact List.mem_append_left _ mb)
      have c1 : cutR R (2 * i + 2) k = R k := cut_out m
      refine ⟨by rw [cut_out (by rw [c1]; exact m1), c1, cut_out m1], by rw [cut_out m1]; exact m⟩
theorem Alt.cut (A0 : Alt n ed R) (ok : EdOk n ed) (hT : Rt (liveN n ed) R) {i a b : Nat} {x : Ed} (hx : ed i = some x) (ab : (a = x.u ∧ b = x.v) ∨ (a = x.v ∧ b = x.u)) (ea : R (2 * i + 2) = R (2 * a + 1) ++ [2 * i + 2]) (eb : R (2 * b + 1) = R (2 * i + 2) ++ [2 * b + 1]) :
    Alt n (upd ed i none) (cutR R (2 * b + 1)) := by
  obtain ⟨_, o1, o2, _⟩ := ok i x hx
  have li : liveN n ed (2 * i + 2) := liveN_e.2 (by rw [hx]; rfl)
  have lb : liveN n ed (2 * b + 1) := liveN_v (by omega)
  obtain ⟨pb, hpb⟩ := hT.last _ lb
  have go : ∀ k c, liveN n ed k → liveN n ed c → R c = R k ++ [c] → c ≠ 2 * b + 1 → cutR R (2 * b + 1) c = cutR R (2 * b + 1) k ++ [c] := fun k c lk lc e nc => by
    by_cases m : 2 * b + 1 ∈ R k
    · obtain ⟨q, e1, e2⟩ := hT.cut_in lb hpb lk m
      obtain ⟨q2, f1, f2⟩ := hT.cut_in lb hpb lc (by rw [e]; exact List.mem_append_left _ m)
      rw [e, e1] at f1
      have : pb ++ (2 * b + 1) :: (q ++ [c]) = pb ++ (2 * b + 1) :: q2 := by rw [← f1]; simp
      have := List.append_cancel_left this
      rw [e2, f2, ← this]; rfl
    · rw [cut_out m, cut_out]
      · exact e
      · rw [e]; exact fun z => (List.mem_append.1 z).elim m (fun z => nc (by simp at z; exact z.symm))
  have lowb : ∀ j y, ed j = some y → R (2 * b + 1) = R (2 * j + 2) ++ [2 * b + 1] → j = i := fun j y hy e => by
    obtain ⟨p1, h1⟩ := hT.last _ li
    obtain ⟨p2, h2⟩ := hT.last _ (liveN_e.2 (show (ed j).isSome = true by rw [hy]; rfl) : liveN n ed (2 * j + 2))
    have := (last_eq (e.symm.trans eb)).1
    rw [h1, h2] at this
    have := (last_eq this).2
    omega
  refine ⟨fun j y hy => ?_, fun v hv => ?_⟩
  · have ji : j ≠ i := fun z => by rw [z, upd_same] at hy; simp at hy
    rw [upd_other _ _ ji] at hy
    obtain ⟨c, d, cd, ec, ed2⟩ := A0.e j y hy
    obtain ⟨_, p1, p2, _⟩ := ok j y hy
    have lj : liveN n ed (2 * j + 2) := liveN_e.2 (by rw [hy]; rfl)
    have lc : liveN n ed (2 * c + 1) := liveN_v (by omega)
    have ld : liveN n ed (2 * d + 1) := liveN_v (by omega)
    exact ⟨c, d, cd, go _ _ lc lj ec (by omega), go _ _ lj ld ed2 (fun z => ji (lowb j y hy (by rw [← z]; exact ed2)))⟩
  · by_cases vb : v = b
    · subst vb
      refine .inl ?_
      obtain ⟨q, e1, e2⟩ := hT.cut_in lb hpb lb (by rw [hpb]; simp)
      rw [hpb] at e1
      have : ([2 * v + 1] : List Nat) = (2 * v + 1) :: q := List.append_cancel_left e1
      rw [e2, ← this]
    · have lv : liveN n ed (2 * v + 1) := liveN_v hv
      rcases A0.v v hv with q | ⟨j, y, hy, hvy, q⟩
      · refine .inl ?_
        rw [cut_out]
        · exact q
        · rw [q]; simp; omega
      · have lj : liveN n ed (2 * j + 2) := liveN_e.2 (by rw [hy]; rfl)
        have ji : j ≠ i := fun z => by
          subst z
          have := A0.next_e ok hT hx lv q ab ea
          omega
        exact .inr ⟨j, y, by rw [upd_other _ _ ji]; exact hy, hvy, go _ _ lj lv q (by omega)⟩
end

end Go.Proofs.Ytffmlffhiimmdaa

/- Going through a graph: a component begins; going back; a component is done; what is known when all are. No program. -/
import Derived.Test.YtanahbkkgppfnaaDfs
namespace Go.Proofs.Ytanahbkkgppfnaa
set_option linter.unusedVariables false
section
variable {l : List (Nat × Nat)} {n τ : Nat} {anc : Nat → Nat} {s : Dst}
/-- A component begins. -/
theorem Dv.start (h : Dv l n τ anc s) {v : Nat} (hvn : v < n) (hp : s.path = []) (ht : s.turns = τ) (hv : s.tn v = 0) :
    Dv l n τ (put8 anc v v) { s with ba := put8 s.ba v (-1), tn := put8 s.tn v (s.turns + 1), lw := put8 s.lw v (s.turns + 1), path := s.path ++ [v], op := s.op ++ [v], turns := s.turns + 1 } := by
  have ho := h.oe hp
  rw [hp, ho]
  simp only [List.nil_append]
  have hne : ∀ x, 0 < s.tn x → x ≠ v := fun x hx q => by subst q; omega
  have htn : ∀ x, x ≠ v → put8 s.tn v (s.turns + 1) x = s.tn x := fun x q => put8_ne _ _ q
  have htv : put8 s.tn v (s.turns + 1) v = s.turns + 1 := put8_at _ _ _
  have hpos : ∀ x, 0 < put8 s.tn v (s.turns + 1) x → x = v ∨ (x ≠ v ∧ 0 < s.tn x) := fun x hx => by
    by_cases q : x = v
    · exact .inl q
    · rw [htn x q] at hx; exact .inr ⟨q, hx⟩
  have hgt : ∀ x, τ < put8 s.tn v (s.turns + 1) x → x = v := fun x hx => by
    by_cases q : x = v
    · exact q
    · rw [htn x q] at hx; have := h.tle x; omega
  have htree : ∀ i, Tree8 s i → Tree8 { s with ba := put8 s.ba v (-1), tn := put8 s.tn v (s.turns + 1), lw := put8 s.lw v (s.turns + 1), path := [v], op := [v], turns := s.turns + 1 } i := fun i ⟨x, hx, hb⟩ => by
    refine ⟨x, ?_, ?_⟩
    · show 0 < put8 s.tn v (s.turns + 1) x
      rw [htn x (hne x hx)]; exact hx
    · show put8 s.ba v (-1) x = _
      rw [put8_ne _ _ (hne x hx)]; exact hb
  constructor
  case tle => intro x; show put8 s.tn v (s.turns + 1) x ≤ s.turns + 1; by_cases q : x = v
              · rw [q, htv]; omega
              · rw [htn x q]; have := h.tle x; omega
  case tau => show τ ≤ s.turns + 1; have := h.tau; omega
  case inj =>
    intro x y hx hxy
    have hx' : 0 < put8 s.tn v (s.turns + 1) x := hx
    have hxy' : put8 s.tn v (s.turns + 1) x = put8 s.tn v (s.turns + 1) y := hxy
    have t1 := h.tle x
    have t2 := h.tle y
    by_cases q : x = v
    · by_cases q2 : y = v
      · rw [q, q2]
      · rw [q, htv, htn y q2] at hxy'; omega
    · by_cases q2 : y = v
      · rw [q2, htv, htn x q] at hxy'; omega
      · rw [htn x q] at hx'
        rw [htn x q, htn y q2] at hxy'
        exact h.inj x y hx' hxy'
  case lt =>
    intro x hx
    rcases hpos x hx with rfl | ⟨_, q⟩
    · exact hvn
    · exact h.lt x q
  case stI => exact h.stI
  case un =>
    intro x e' y' hx hi
    have hx' : put8 s.tn v (s.turns + 1) x = 0 := hx
    by_cases q : x = v
    · rw [q, htv] at hx'; omega
    · rw [htn x q] at hx'
      exact h.un x e' y' hx' hi
  case tk =>
    intro x e' y' hx hi hn
    show 0 < put8 s.tn v (s.turns + 1) y'
    rcases hpos x hx with rfl | ⟨q0, q⟩
    · exact absurd (h.un x e' y' hv hi) hn
    · have := h.tk x e' y' q hi hn
      rw [htn _ (hne _ this)]; exact this
  case lf =>
    intro x hx hn
    have hn' : x ∉ [v] := hn
    rcases hpos x hx with q | ⟨_, q⟩
    · exact absurd (by simpa using q) hn'
    · exact h.lf x q (by rw [hp]; simp)
  case old =>
    intro x e' y' hx hxt hi
    show 0 < put8 s.tn v (s.turns + 1) y' ∧ put8 s.tn v (s.turns + 1) y' ≤ τ
    have hxt' : put8 s.tn v (s.turns + 1) x ≤ τ := hxt
    rcases hpos x hx with rfl | ⟨q0, q⟩
    · rw [htv] at hxt'; omega
    · rw [htn x q0] at hxt'
      have := h.old x e' y' q hxt' hi
      rw [htn _ (hne _ this.1)]; exact this
  case pt =>
    intro x hx
    have hx' : x ∈ [v] := hx
    show τ < put8 s.tn v (s.turns + 1) x
    simp only [List.mem_singleton] at hx'
    rw [hx', htv]; omega
  case pw => show [v].Pairwise _; simp
  case lk =>
    intro i a b ha hb
    have hb' : [v][i + 1]? = some b := hb
    simp at hb'
  case rt =>
    intro a ha
    have ha' : [v][0]? = some a := ha
    simp only [List.getElem?_cons_zero, Option.some.injEq] at ha'
    subst ha'
    show put8 s.ba v (-1) v = -1 ∧ put8 s.tn v (s.turns + 1) v = τ + 1
    rw [put8_at, htv, ht]
    exact ⟨rfl, rfl⟩
  case an =>
    intro x hx _
    have := hgt x hx
    subst this
    rw [put8_at anc]
    exact ⟨by simp, Nat.le_refl _, fun _ _ h => h⟩
  case lo =>
    intro x e' y' hx _ hi hn
    have := hgt x hx
    subst this
    exact absurd (h.un x e' y' hv hi) hn
  case wi =>
    intro p' hp'
    have hp2 : p' ∈ [v] := hp'
    simp only [List.mem_singleton] at hp2
    subst hp2
    exact ⟨p', hp', by show put8 s.lw p' (s.turns + 1) p' = put8 s.tn p' (s.turns + 1) p'; rw [put8_at, put8_at], Nat.le_refl _, Jn.refl⟩
  case ml =>
    intro x e' y' hx hn hy hi
    have hn' : x ∉ [v] := hn
    have hy' : y' ∈ [v] := hy
    simp only [List.mem_singleton] at hn' hy'
    rcases hpos x hx with q | ⟨q0, q⟩
    · exact absurd q hn'
    · have := h.tk x e' y' q hi (by rw [h.lf x q (by rw [hp]; simp)]; simp)
      exact absurd hy' (hne _ this)
  case opw => show [v].Pairwise _; simp
  case opt =>
    intro x hx
    have hx' : x ∈ [v] := hx
    show τ < put8 s.tn v (s.turns + 1) x
    simp only [List.mem_singleton] at hx'
    rw [hx', htv]; omega
  case oph => exact fun x hx => hx
  case oe => intro hc; have hc' : [v] = [] := hc; simp at hc'
  case fo =>
    intro x hx
    have hx' : x ∈ [v] := hx
    simp only [List.mem_singleton] at hx'
    rw [hx', put8_at]; exact Jn.refl
  case sh =>
    intro x e' y' hx hn hi
    have hn' : x ∉ [v] := hn
    simp only [List.mem_singleton] at hn'
    show e' ∈ s.br ∨ (0 < put8 s.tn v (s.turns + 1) y' ∧ y' ∉ [v] ∧ s.bl y' = s.bl x)
    rcases hpos x hx with q | ⟨q0, q⟩
    · exact absurd q hn'
    · rcases h.sh x e' y' q (by rw [ho]; simp) hi with k | ⟨k1, k2, k3⟩
      · exact .inl k
      · refine .inr ⟨by rw [htn _ (hne _ k1)]; exact k1, ?_, k3⟩
        simp only [List.mem_singleton]
        exact hne _ k1
  case blk =>
    intro x hx hn
    have hn' : x ∉ [v] := hn
    simp only [List.mem_singleton] at hn'
    rcases hpos x hx with q | ⟨q0, q⟩
    · exact absurd q hn'
    · exact h.blk x q (by rw [ho]; simp)
  case brb => exact h.brb
  case brx =>
    intro e' he'
    obtain ⟨x, y, h1, h2, h3⟩ := h.brx e' he'
    refine ⟨x, y, h1, by show 0 < put8 s.tn v (s.turns + 1) x; rw [htn _ (hne _ h2)]; exact h2, ?_⟩
    show x ∉ [v]
    simp only [List.mem_singleton]
    exact hne _ h2
  case brn => exact h.brn
  case te =>
    intro x e' hx hn hb
    have hn' : x ∉ [v] := hn
    simp only [List.mem_singleton] at hn'
    have hb' : put8 s.ba v (-1) x = (e' : Nat) := hb
    rcases hpos x hx with q | ⟨q0, q⟩
    · exact absurd q hn'
    · rw [put8_ne _ _ q0] at hb'
      exact h.te x e' q (by rw [hp]; simp) hb'
  case ct =>
    intro x y hx hy
    rw [hgt x hx, hgt y hy]
    exact Jn.refl
  case co =>
    intro x e' y' hx hxt hi
    have hxt' : put8 s.tn v (s.turns + 1) x ≤ τ := hxt
    rcases hpos x hx with rfl | ⟨q0, q⟩
    · rw [htv] at hxt'; omega
    · rw [htn x q0] at hxt'
      exact (h.co x e' y' q hxt' hi).mono htree

/-- Along the way without the last edge. -/
theorem Dv.along (h : Dv l n τ anc s) {ps : List Nat} {p e b : Nat} (hp : s.path = ps ++ [p]) (hI : Inc l e b p) (hb : b ∈ ps) : ∀ q, q ∈ ps → ∀ r, r ∈ ps → Jn l (fun i => i ≠ e) q r := by
  obtain ⟨hm, hap, htop, hor, hnp, htp, h0⟩ := h.top hp
  have hidx : ∀ i, i < ps.length → s.path[i]? = ps[i]? := fun i hi => by rw [hp, List.getElem?_append_left hi]
  have go : ∀ i (hi : i < ps.length), Jn l (fun k => k ≠ e) (ps[0]'(by omega)) ps[i] := fun i => by
    induction i with
    | zero => exact fun _ => Jn.refl
    | succ i ih =>
      intro hi
      obtain ⟨e', h1, h2⟩ := h.lk i ps[i] ps[i + 1] ((hidx i (by omega)).trans (List.getElem?_eq_getElem (by omega))) ((hidx (i + 1) hi).trans (List.getElem?_eq_getElem hi))
      refine (ih (by omega)).trans (Inc.jn h2 fun q => ?_)
      subst q
      rcases h2.ends hI with ⟨_, z⟩ | ⟨_, z⟩
      · exact hnp (z ▸ List.getElem_mem _)
      · exact hnp (z ▸ List.getElem_mem _)
  intro q hq r hr
  obtain ⟨i, hi, rfl⟩ := List.getElem_of_mem hq
  obtain ⟨j, hj, rfl⟩ := List.getElem_of_mem hr
  exact (go i hi).symm.trans (go j hj)

/-- Going back where something earlier is reached. -/
theorem Dv.leave (h : Dv l n τ anc s) {ps : List Nat} {p b : Nat} (hp : s.path = (ps ++ [b]) ++ [p]) (hs : s.st p = []) (hlow : s.lw p < s.tn p) :
    Dv l n τ (fun x => if anc x = p then b else anc x) { s with path := ps ++ [b], lw := put8 s.lw b (min (s.lw b) (s.lw p)) } := by
  obtain ⟨hm, hap, htop, hor, hnp, htp, h0⟩ := h.top hp
  have hbm : b ∈ s.path := by rw [hp]; simp
  have hbp : b ≠ p := fun q => hnp (by rw [← q]; simp)
  have hlast : ∀ q, q ∈ ps ++ [b] → s.tn q ≤ s.tn b := fun q hq => by
    rcases List.mem_append.1 hq with z | z
    · have := h.pw
      rw [hp, List.pairwise_append] at this
      exact Nat.le_of_lt (pw_last this.1 q z)
    · simp only [List.mem_singleton] at z; rw [z]; exact Nat.le_refl _
  have hmem : ∀ q, q ∈ ps ++ [b] → q ∈ s.path := fun q hq => by rw [hp]; exact List.mem_append_left _ hq
  have hnq : ∀ q, q ∈ ps ++ [b] → q ≠ p := fun q hq z => hnp (z ▸ hq)
  have hlen : s.path.length = ps.length + 2 := by rw [hp]; simp
  have hidx : ∀ i, i < ps.length + 1 → s.path[i]? = (ps ++ [b])[i]? := fun i hi => by rw [hp, List.getElem?_append_left (by simpa using hi)]
  obtain ⟨e, he, hI⟩ := h.lk ps.length b p (by rw [hidx _ (by omega)]; simp) (by rw [hp]; simp)
  have hbt : s.tn b < s.tn p := htop b hbm hbp
  have habb : anc b = b := by
    obtain ⟨a1, a2, a3⟩ := h.an b (h.pt b hbm) h0
    exact h.inj _ _ (by have := h.pt _ a1; omega) (by have := a3 b hbm (Nat.le_refl _); omega)
  obtain ⟨q, hq, hq1, hq2, hq3⟩ := h.wi p hm
  have hqp : q ≠ p := fun z => by subst z; omega
  have hqs : q ∈ ps ++ [b] := by
    rcases hor q hq with z | z
    · exact absurd z hqp
    · exact z
  have firm : Firm l e := ⟨b, p, hI, (h.along hp hI (by simp) b (by simp) q hqs).trans (hq3.mono fun i hi z => by subst z; exact hi p hm (by omega) (Nat.le_refl _) he).symm⟩
  have hlb : s.lw b ≤ s.tn b := by obtain ⟨r, _, r1, r2, _⟩ := h.wi b hbm; omega
  have hnot : ∀ x, x ∉ ps ++ [b] → x ∉ s.path ∨ x = p := fun x hx => by
    by_cases z : x = p
    · exact .inr z
    · exact .inl fun hc => (hor x hc).elim z hx
  exact { h with
    lf := fun x hx hn => by
      rcases hnot x hn with z | z
      · exact h.lf x hx z
      · rw [z]; exact hs
    pt := fun x hx => h.pt x (hmem x hx)
    pw := by have := h.pw; rw [hp, List.pairwise_append] at this; exact this.1
    lk := fun i x y hx hy => by
      have hi := (List.getElem?_eq_some_iff.1 hy).1
      have hi' : i + 1 < ps.length + 1 := by simpa using hi
      exact h.lk i x y ((hidx i (by omega)).trans hx) ((hidx (i + 1) hi').trans hy)
    rt := fun a ha => h.rt a ((hidx 0 (by omega)).trans ha)
    an := fun x hx _ => by
      obtain ⟨a1, a2, a3⟩ := h.an x hx h0
      show (if anc x = p then b else anc x) ∈ ps ++ [b] ∧ s.tn (if anc x = p then b else anc x) ≤ s.tn x ∧ ∀ p', p' ∈ ps ++ [b] → s.tn p' ≤ s.tn x → s.tn p' ≤ s.tn (if anc x = p then b else anc x)
      by_cases z : anc x = p
      · rw [if_pos z]
        refine ⟨by simp, by rw [z] at a2; omega, fun p' hp' _ => hlast p' hp'⟩
      · rw [if_neg z]
        exact ⟨(hor _ a1).elim (fun q => absurd q z) id, a2, fun p' hp' k => a3 p' (hmem _ hp') k⟩
    lo := fun x e' y' hx _ hi hn => by
      show s.ba (if anc x = p then b else anc x) = (e' : Nat) ∨ put8 s.lw b (min (s.lw b) (s.lw p)) (if anc x = p then b else anc x) ≤ s.tn y'
      have k := h.lo x e' y' hx h0 hi hn
      by_cases z : anc x = p
      · rw [if_pos z, put8_at]
        rw [z] at k
        rcases k with k | k
        · rw [he] at k
          have k' : e = e' := by omega
          subst k'
          rcases hI.ends hi with ⟨z1, z2⟩ | ⟨z1, z2⟩
          · rw [z1, habb] at z; exact absurd z hbp
          · rw [z2]; exact .inr (by omega)
        · exact .inr (by omega)
      · rw [if_neg z]
        rcases k with k | k
        · exact .inl k
        · refine .inr ?_
          by_cases z2 : anc x = b
          · rw [z2, put8_at]; rw [z2] at k; omega
          · rw [put8_ne _ _ z2]; exact k
    wi := fun p' hp' => by
      show ∃ q, q ∈ ps ++ [b] ∧ put8 s.lw b (min (s.lw b) (s.lw p)) p' = s.tn q ∧ s.tn q ≤ s.tn p' ∧ Jn l (fun e => ∀ a, a ∈ ps ++ [b] → s.tn q < s.tn a → s.tn a ≤ s.tn p' → s.ba a ≠ (e : Nat)) p' q
      have old : ∃ q, q ∈ ps ++ [b] ∧ s.lw p' = s.tn q ∧ s.tn q ≤ s.tn p' ∧ Jn l (fun e => ∀ a, a ∈ ps ++ [b] → s.tn q < s.tn a → s.tn a ≤ s.tn p' → s.ba a ≠ (e : Nat)) p' q := by
        obtain ⟨r, r0, r1, r2, r3⟩ := h.wi p' (hmem _ hp')
        have hpt := htop p' (hmem _ hp') (hnq _ hp')
        refine ⟨r, (hor r r0).elim (fun z => absurd (z ▸ r2) (by omega)) id, r1, r2, r3.mono fun i hi a ha => hi a (hmem a ha)⟩
      by_cases z : p' = b
      · subst z
        rw [put8_at]
        by_cases z2 : s.lw p' ≤ s.lw p
        · rw [Nat.min_eq_left z2]; exact old
        · rw [Nat.min_eq_right (by omega)]
          refine ⟨q, hqs, hq1, by omega, (Inc.jn hI fun a ha k1 k2 k3 => ?_).trans (hq3.mono fun i hi a ha k1 k2 => hi a (hmem a ha) k1 (by omega))⟩
          obtain ⟨c, hc, hic, hct⟩ := h.ahead (hmem a ha) k3
          rcases hI.ends hic with ⟨z1, z3⟩ | ⟨z1, z3⟩
          · exact hnq a ha z3
          · subst z1; subst z3; omega
      · rw [put8_ne _ _ z]; exact old
    ml := fun x e' y' hx hn hy hi => by
      rcases hnot x hn with z | z
      · exact h.ml x e' y' hx z (hmem _ hy) hi
      · rw [z]; exact htop y' (hmem _ hy) (hnq _ hy)
    oph := fun x hx => h.oph x (hmem _ hx)
    oe := fun hc => by have hc' : ps ++ [b] = [] := hc; simp at hc'
    fo := fun x hx => by
      show Jn l (Firm l) x (if anc x = p then b else anc x)
      have k := h.fo x hx
      by_cases z : anc x = p
      · rw [if_pos z]; rw [z] at k; exact k.trans (Inc.jn hI.symm firm)
      · rw [if_neg z]; exact k
    brx := fun e' he' => by
      obtain ⟨x, y, k1, k2, k3⟩ := h.brx e' he'
      exact ⟨x, y, k1, k2, fun hc => k3 (hmem x hc)⟩
    te := fun x e' hx hn hb => by
      rcases hnot x hn with z | z
      · exact h.te x e' hx z hb
      · have hb' : s.ba x = (e' : Nat) := hb
        rw [z, he] at hb'
        have k : e = e' := by omega
        exact .inr (k ▸ firm) }
end
end Go.Proofs.Ytanahbkkgppfnaa

/- Going through a graph: a block is shut; a component is done; what is known when all are. No program. -/
import Derived.Test.YtanahbkkgppfnaaDfs2
namespace Go.Proofs.Ytanahbkkgppfnaa
set_option linter.unusedVariables false
section
variable {l : List (Nat × Nat)} {n τ : Nat} {anc : Nat → Nat} {s : Dst}
/-- Going back where nothing earlier is reached: a block. -/
theorem Dv.shut (h : Dv l n τ anc s) {ps A B : List Nat} {p b m : Nat} (hp : s.path = ps ++ [p]) (hb : ps ≠ [] → ∃ ps', ps = ps' ++ [b]) (hs : s.st p = []) (hlow : ¬ s.lw p < s.tn p) (ho : s.op = A ++ p :: B) (hm1 : m ∈ p :: B) (hm2 : ∀ x, x ∈ p :: B → m ≤ x) {br' : List Nat}
    (hbr : (s.ba p = -1 ∧ br' = s.br) ∨ ∃ e : Nat, s.ba p = (e : Nat) ∧ br' = s.br ++ [e]) :
    Dv l n τ (fun x => if anc x = p then b else anc x) { s with path := ps, op := A, bl := fun x => if x ∈ p :: B then m else s.bl x, br := br' } := by
  obtain ⟨hm, hap, htop, hor, hnp, htp, h0⟩ := h.top hp
  have hmem : ∀ q, q ∈ ps → q ∈ s.path := fun q hq => by rw [hp]; exact List.mem_append_left _ hq
  have hnq : ∀ q, q ∈ ps → q ≠ p := fun q hq z => hnp (z ▸ hq)
  have hnot : ∀ x, x ∉ ps → x ∉ s.path ∨ x = p := fun x hx => by
    by_cases z : x = p
    · exact .inr z
    · exact .inl fun hc => (hor x hc).elim z hx
  have hidx : ∀ i, i < ps.length → s.path[i]? = ps[i]? := fun i hi => by rw [hp, List.getElem?_append_left hi]
  have hlp : s.lw p = s.tn p := by obtain ⟨r, _, r1, r2, _⟩ := h.wi p hm; omega
  have hlw : ∀ q, q ∈ s.path → s.lw q ≤ s.tn q := fun q hq => by obtain ⟨r, _, r1, r2, _⟩ := h.wi q hq; omega
  have hD : ∀ x e y, s.tn p ≤ s.tn x → Inc l e x y → s.ba p = (e : Nat) ∨ s.tn p ≤ s.tn y := fun x e y hx hi => by
    have ht := h.pt p hm
    have hst : s.st x = [] := by
      by_cases z : x ∈ s.path
      · by_cases z2 : x = p
        · rw [z2]; exact hs
        · exact absurd (htop x z z2) (by omega)
      · exact h.lf x (by omega) z
    obtain ⟨a1, a2, a3⟩ := h.an x (by omega) h0
    have hax : anc x = p := by
      by_cases z : anc x = p
      · exact z
      · have := htop _ a1 z
        have := a3 p hm hx
        omega
    have := h.lo x e y (by omega) h0 hi (by rw [hst]; simp)
    rw [hax, hlp] at this
    exact this
  have hop1 : ∀ x, x ∈ p :: B → s.tn p ≤ s.tn x ∧ x ∈ s.op := fun x hx => by
    have := h.opw
    rw [ho, List.pairwise_append, List.pairwise_cons] at this
    refine ⟨?_, by rw [ho]; exact List.mem_append_right _ hx⟩
    rcases List.mem_cons.1 hx with z | z
    · rw [z]; exact Nat.le_refl _
    · exact Nat.le_of_lt (this.2.1.1 x z)
  have hop2 : ∀ x, x ∈ A → s.tn x < s.tn p ∧ x ∈ s.op := fun x hx => by
    have := h.opw
    rw [ho, List.pairwise_append] at this
    exact ⟨this.2.2 x hx p (by simp), by rw [ho]; exact List.mem_append_left _ hx⟩
  have hop3 : ∀ x, x ∈ s.op → x ∈ A ∨ x ∈ p :: B := fun x hx => by rw [ho] at hx; exact List.mem_append.1 hx
  have hmB : ∀ e, e ∈ br' ↔ e ∈ s.br ∨ s.ba p = (e : Nat) := fun e => by
    rcases hbr with ⟨k1, rfl⟩ | ⟨e', k1, rfl⟩
    · rw [k1]; constructor
      · exact .inl
      · rintro (k | k)
        · exact k
        · omega
    · rw [k1]; simp only [List.mem_append, List.mem_singleton]
      constructor
      · rintro (k | k)
        · exact .inl k
        · exact .inr (by rw [k])
      · rintro (k | k)
        · exact .inl k
        · exact .inr (by omega)
  have habb : ∀ q, q ∈ s.path → anc q = q := fun q hq => by
    obtain ⟨a1, a2, a3⟩ := h.an q (h.pt q hq) h0
    exact h.inj _ _ (by have := h.pt _ a1; omega) (by have := a3 q hq (Nat.le_refl _); omega)
  have hahead : ∀ e : Nat, s.ba p = (e : Nat) → ∃ c, c ∈ ps ∧ Inc l e c p ∧ s.tn c < s.tn p := fun e he => by
    obtain ⟨c, hc, hic, hct⟩ := h.ahead hm he
    exact ⟨c, (hor c hc).elim (fun z => absurd (z ▸ hct) (by omega)) id, hic, hct⟩
  have hlast : ps ≠ [] → b ∈ ps ∧ ∀ q, q ∈ ps → s.tn q ≤ s.tn b := fun hne => by
    obtain ⟨ps', rfl⟩ := hb hne
    refine ⟨by simp, fun q hq => ?_⟩
    rcases List.mem_append.1 hq with z | z
    · have := h.pw
      rw [hp, List.pairwise_append] at this
      exact Nat.le_of_lt (pw_last this.1 q z)
    · simp only [List.mem_singleton] at z; rw [z]; exact Nat.le_refl _
  exact { h with
    lf := fun x hx hn => by
      rcases hnot x hn with z | z
      · exact h.lf x hx z
      · rw [z]; exact hs
    pt := fun x hx => h.pt x (hmem x hx)
    pw := by have := h.pw; rw [hp, List.pairwise_append] at this; exact this.1
    lk := fun i x y hx hy => by
      have hi : i + 1 < ps.length := (List.getElem?_eq_some_iff.1 hy).1
      exact h.lk i x y ((hidx i (by omega)).trans hx) ((hidx (i + 1) hi).trans hy)
    rt := fun a ha => h.rt a ((hidx 0 (List.getElem?_eq_some_iff.1 ha).1).trans ha)
    an := fun x hx hne => by
      obtain ⟨a1, a2, a3⟩ := h.an x hx h0
      obtain ⟨l1, l2⟩ := hlast hne
      show (if anc x = p then b else anc x) ∈ ps ∧ s.tn (if anc x = p then b else anc x) ≤ s.tn x ∧ ∀ p', p' ∈ ps → s.tn p' ≤ s.tn x → s.tn p' ≤ s.tn (if anc x = p then b else anc x)
      by_cases z : anc x = p
      · rw [if_pos z]
        refine ⟨l1, by rw [z] at a2; have := htop b (hmem _ l1) (hnq _ l1); omega, fun p' hp' _ => l2 p' hp'⟩
      · rw [if_neg z]
        exact ⟨(hor _ a1).elim (fun q => absurd q z) id, a2, fun p' hp' k => a3 p' (hmem _ hp') k⟩
    lo := fun x e' y' hx hne hi hn => by
      obtain ⟨l1, l2⟩ := hlast hne
      show s.ba (if anc x = p then b else anc x) = (e' : Nat) ∨ s.lw (if anc x = p then b else anc x) ≤ s.tn y'
      have k := h.lo x e' y' hx h0 hi hn
      by_cases z : anc x = p
      · rw [if_pos z]
        rw [z] at k
        have hbt := htop b (hmem _ l1) (hnq _ l1)
        have hbl := hlw b (hmem _ l1)
        rcases k with k | k
        · obtain ⟨ps', rfl⟩ := hb hne
          obtain ⟨e, k1, hI⟩ := h.lk ps'.length b p (by rw [hidx _ (by simp)]; simp) (by rw [hp]; simp)
          rw [k1] at k
          have k' : e = e' := by omega
          subst k'
          rcases hI.ends hi with ⟨z1, z2⟩ | ⟨z1, z2⟩
          · rw [z1, habb b (hmem _ l1)] at z; exact absurd z (hnq _ l1)
          · rw [z2]; exact .inr hbl
        · exact .inr (by omega)
      · rw [if_neg z]; exact k
    wi := fun p' hp' => by
      obtain ⟨r, r0, r1, r2, r3⟩ := h.wi p' (hmem _ hp')
      have hpt := htop p' (hmem _ hp') (hnq _ hp')
      exact ⟨r, (hor r r0).elim (fun z => absurd (z ▸ r2) (by omega)) id, r1, r2, r3.mono fun i hi a ha => hi a (hmem a ha)⟩
    ml := fun x e' y' hx hn hy hi => by
      rcases hnot x hn with z | z
      · exact h.ml x e' y' hx z (hmem _ hy) hi
      · rw [z]; exact htop y' (hmem _ hy) (hnq _ hy)
    opw := by have := h.opw; rw [ho, List.pairwise_append] at this; exact this.1
    opt := fun x hx => h.opt x (hop2 x hx).2
    oph := fun x hx => by
      rcases hop3 x (h.oph x (hmem x hx)) with z | z
      · exact z
      · exact absurd (hop1 x z).1 (by have := htop x (hmem _ hx) (hnq _ hx); omega)
    oe := fun hc => by
      have hc' : ps = [] := hc
      have hpp : s.path[0]? = some p := by rw [hp, hc']; rfl
      have h1 := (h.rt p hpp).2
      cases A with
      | nil => rfl
      | cons a A => exact absurd (h.opt a (hop2 a (by simp)).2) (by have := (hop2 a (by simp)).1; omega)
    fo := fun x hx => by
      show Jn l (Firm l) x (if anc x = p then b else anc x)
      have hx' := hop2 x hx
      obtain ⟨a1, a2, a3⟩ := h.an x (h.opt x hx'.2) h0
      rw [if_neg (fun z => by rw [z] at a2; omega)]
      exact h.fo x hx'.2
    sh := fun x e' y' hx hn hi => by
      show e' ∈ br' ∨ (0 < s.tn y' ∧ y' ∉ A ∧ (if y' ∈ p :: B then m else s.bl y') = (if x ∈ p :: B then m else s.bl x))
      by_cases z : x ∈ s.op
      · have hxB : x ∈ p :: B := (hop3 x z).elim (fun q => absurd q hn) id
        rcases hD x e' y' (hop1 x hxB).1 hi with k | k
        · exact .inl ((hmB e').2 (.inr k))
        · by_cases zy : y' ∈ s.op
          · have hyB : y' ∈ p :: B := (hop3 y' zy).elim (fun q => absurd (hop2 y' q).1 (by omega)) id
            refine .inr ⟨by omega, fun q => absurd (hop2 y' q).1 (by omega), ?_⟩
            rw [if_pos hyB, if_pos hxB]
          · rcases h.sh y' e' x (by omega) zy hi.symm with k' | ⟨_, k2, _⟩
            · exact .inl ((hmB e').2 (.inl k'))
            · exact absurd z k2
      · rcases h.sh x e' y' hx z hi with k | ⟨k1, k2, k3⟩
        · exact .inl ((hmB e').2 (.inl k))
        · refine .inr ⟨k1, fun q => k2 (hop2 y' q).2, ?_⟩
          rw [if_neg (fun q => k2 (hop1 y' q).2), if_neg (fun q => z (hop1 x q).2)]
          exact k3
    blk := fun x hx hn => by
      show (if x ∈ p :: B then m else s.bl x) ≤ x ∧ Jn l (Firm l) (if x ∈ p :: B then m else s.bl x) x
      by_cases z : x ∈ p :: B
      · rw [if_pos z]
        have one : ∀ y, y ∈ p :: B → Jn l (Firm l) y p := fun y hy => by
          obtain ⟨k1, k2⟩ := hop1 y hy
          have ht := h.opt y k2
          obtain ⟨a1, a2, a3⟩ := h.an y ht h0
          have hay : anc y = p := by
            by_cases z : anc y = p
            · exact z
            · have := htop _ a1 z
              have := a3 p hm k1
              omega
          have := h.fo y k2
          rw [hay] at this
          exact this
        exact ⟨hm2 x z, (one m hm1).trans (one x z).symm⟩
      · rw [if_neg z]
        exact h.blk x hx (fun q => (hop3 x q).elim hn z)
    brb := fun e he => by
      rcases (hmB e).1 he with k | k
      · exact h.brb e k
      · obtain ⟨c, hc, hic, hct⟩ := hahead e k
        refine ⟨hic.lt, fun hf => ?_⟩
        have := hf.at hic.symm (fun z => s.tn p ≤ s.tn z) (Nat.le_refl _) fun i x hx hP => by
          constructor
          · intro q
            rcases hD x.1 i x.2 q (.inl hx) with k' | k'
            · rw [k] at k'; exact absurd (show i = e by omega) hP
            · exact k'
          · intro q
            rcases hD x.2 i x.1 q (.inr hx) with k' | k'
            · rw [k] at k'; exact absurd (show i = e by omega) hP
            · exact k'
        omega
    brx := fun e he => by
      rcases (hmB e).1 he with k | k
      · obtain ⟨x, y, k1, k2, k3⟩ := h.brx e k
        exact ⟨x, y, k1, k2, fun hc => k3 (hmem x hc)⟩
      · obtain ⟨c, hc, hic, hct⟩ := hahead e k
        exact ⟨p, c, hic.symm, htp, hnp⟩
    brn := by
      rcases hbr with ⟨k1, rfl⟩ | ⟨e', k1, rfl⟩
      · exact h.brn
      · show (s.br ++ [e']).Nodup
        rw [List.nodup_append]
        refine ⟨h.brn, by simp, fun a ha b' hb' => ?_⟩
        simp only [List.mem_singleton] at hb'
        rw [hb']
        rintro rfl
        obtain ⟨x, y, j1, j2, j3⟩ := h.brx a ha
        obtain ⟨c, hc, hic, hct⟩ := hahead a k1
        rcases hic.ends j1 with ⟨z1, z2⟩ | ⟨z1, z2⟩
        · exact j3 (z1 ▸ hmem _ hc)
        · exact j3 (z1 ▸ hm)
    te := fun x e' hx hn hbx => by
      rcases hnot x hn with z | z
      · exact (h.te x e' hx z hbx).elim (fun k => .inl ((hmB e').2 (.inl k))) .inr
      · rw [z] at hbx; exact .inl ((hmB e').2 (.inr hbx)) }
/-- A component is done. -/
theorem Dv.next (h : Dv l n τ anc s) (hp : s.path = []) : Dv l n s.turns anc s := by
  have ho := h.oe hp
  have hst : ∀ x, 0 < s.tn x → s.st x = [] := fun x hx => h.lf x hx (by rw [hp]; simp)
  have hall : ∀ x e y, 0 < s.tn x → Inc l e x y → 0 < s.tn y := fun x e y hx hi => h.tk x e y hx hi (by rw [hst x hx]; simp)
  have hno : ∀ x, ¬ s.turns < s.tn x := fun x hx => by have := h.tle x; omega
  exact { h with
    tau := Nat.le_refl _
    old := fun x e y hx _ hi => ⟨hall x e y hx hi, h.tle y⟩
    pt := fun x hx => by rw [hp] at hx; simp at hx
    rt := fun a ha => by rw [hp] at ha; simp at ha
    an := fun x hx => absurd hx (hno x)
    lo := fun x e y hx => absurd hx (hno x)
    opt := fun x hx => by rw [ho] at hx; simp at hx
    ct := fun x y hx => absurd hx (hno x)
    co := fun x e y hx _ hi => by
      by_cases q : s.tn x ≤ τ
      · exact h.co x e y hx q hi
      · refine h.ct x y (by omega) ?_
        by_cases q2 : τ < s.tn y
        · exact q2
        · have := h.old y e x (hall x e y hx hi) (by omega) hi.symm
          omega }
/-- What is known when all is gone through: which edges are bridges, and of each vertex the least one of its block. -/
def Told8 (l : List (Nat × Nat)) (n : Nat) (br : List Nat) (bl : Nat → Nat) : Prop :=
  br.Nodup ∧ (∀ e, e ∈ br ↔ e < l.length ∧ ¬ Firm l e) ∧ (∀ x, x < n → bl x ≤ x ∧ Jn l (Firm l) (bl x) x) ∧ (∀ x y, x < n → y < n → Jn l (Firm l) x y → bl x = bl y)
theorem Dv.done (h : Dv l n τ anc s) (hp : s.path = []) (hl : ∀ x, x ∈ l → x.1 < n ∧ x.2 < n) (hall : ∀ x, x < n → 0 < s.tn x) : Told8 l n s.br s.bl := by
  have h' := h.next hp
  have ho := h.oe hp
  have hbr : ∀ e, e ∈ s.br ↔ e < l.length ∧ ¬ Firm l e := fun e => by
    constructor
    · exact h.brb e
    · rintro ⟨he, hf⟩
      have hx : l[e]? = some l[e] := List.getElem?_eq_getElem he
      have hI : Inc l e l[e].1 l[e].2 := .inl hx
      obtain ⟨b1, b2⟩ := hl _ (List.getElem_mem he)
      have hc := h'.co _ e _ (hall _ b1) (h.tle _) hI
      apply Classical.byContradiction
      intro hn
      refine hf ⟨_, _, hI, hc.mono fun i hi q => ?_⟩
      subst q
      obtain ⟨x, k1, k2⟩ := hi
      rcases h.te x i k1 (by rw [hp]; simp) k2 with k | k
      · exact hn k
      · exact hf k
  refine ⟨h.brn, hbr, fun x hx => h.blk x (hall x hx) (by rw [ho]; simp), fun x y hx hy hj => ?_⟩
  exact (hj (fun z => z < n ∧ s.bl x = s.bl z) ⟨hx, rfl⟩ fun i z hz hF => by
    obtain ⟨b1, b2⟩ := hl _ (List.mem_of_getElem? hz)
    have : s.bl z.2 = s.bl z.1 := by
      rcases h.sh z.1 i z.2 (hall _ b1) (by rw [ho]; simp) (.inl hz) with k | ⟨_, _, k⟩
      · exact absurd hF ((hbr i).1 k).2
      · exact k
    rw [this]
    exact ⟨fun k => ⟨b2, k.2⟩, fun k => ⟨b1, k.2⟩⟩).2
end
end Go.Proofs.Ytanahbkkgppfnaa

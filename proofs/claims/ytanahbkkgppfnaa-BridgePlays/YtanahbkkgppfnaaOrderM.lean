/- In which order edges stand, and which of its ends is first, bears upon nothing. No program. -/
import Derived.Test.YtanahbkkgppfnaaGra
import Derived.Test.YtanahbkkgppfnaaAwk
namespace Go.Proofs.Ytanahbkkgppfnaa
open Go.ChangeShapes Go.WideShapes Go.ChangeAt Go.RowKit
set_option linter.unusedVariables false

/-- Joined by the edges of a set. -/
def Jm (M : EdT → Prop) (a b : Nat) : Prop := ∀ B : Nat → Prop, B a → (∀ x, M x → (B x.u.toNat ↔ B x.v.toNat)) → B b
def Flip8 (x y : EdT) : Prop := y.id = x.id ∧ y.u = x.v ∧ y.v = x.u
theorem Flip8.symm {x y : EdT} (h : Flip8 x y) : Flip8 y x := ⟨h.1.symm, h.2.2.symm, h.2.1.symm⟩
theorem Jm.twin {M M' : EdT → Prop} {a b : Nat} (h : Jm M a b) (t : ∀ x, M x → ∃ y, M' y ∧ Flip8 x y) : Jm M' a b := fun B ha hB => h B ha fun x hx => by
  obtain ⟨y, hy, _, h2, h3⟩ := t x hx
  have := hB y hy
  rw [h2, h3] at this
  exact this.symm
theorem Jm.symm {M : EdT → Prop} {a b : Nat} (h : Jm M a b) : Jm M b a :=
  h (fun z => Jm M z a) (fun B h _ => h) fun x hx => ⟨fun k B hv hB => k B ((hB x hx).2 hv) hB, fun k B hu hB => k B ((hB x hx).1 hu) hB⟩
theorem jn_jm {es : List EdT} {P : Nat → Prop} {M : EdT → Prop} {a b : Nat} (h1 : ∀ i (h : i < es.length), P i → M es[i]) (h2 : ∀ x, M x → ∃ i, ∃ h : i < es.length, es[i] = x ∧ P i) : Jn (ends es) P a b ↔ Jm M a b := by
  have hi : ∀ i (h : i < es.length), (ends es)[i]? = some (es[i].u.toNat, es[i].v.toNat) := fun i h => by simp [ends, h]
  constructor
  · intro h B ha hB
    refine h B ha fun i x hx hP => ?_
    have hl : i < es.length := by have := (List.getElem?_eq_some_iff.1 hx).1; rw [ends_len] at this; exact this
    rw [hi i hl] at hx
    injection hx with hx
    subst hx
    exact hB _ (h1 i hl hP)
  · intro h B ha hB
    refine h B ha fun x hx => ?_
    obtain ⟨i, hl, rfl, hP⟩ := h2 x hx
    exact hB i _ (hi i hl) hP
/-- An edge without which its ends stay joined. -/
def FirmX (es : List EdT) (x : EdT) : Prop := Jm (fun y => y ∈ es ∧ y.id ≠ x.id) x.u.toNat x.v.toNat
theorem OkE.inj {n : Nat} {es : List EdT} (ok : OkE n es) {i j : Nat} (hi : i < es.length) (hj : j < es.length) (h : es[i].id = es[j].id) : i = j := by
  have key : ∀ i j (hij : i < j) (hj : j < es.length), es[i].id ≠ es[j].id := fun i j hij hj => (ok j hj).2 _ (List.mem_take_iff_getElem.2 ⟨i, by omega, rfl⟩)
  rcases Nat.lt_trichotomy i j with z | z | z
  · exact absurd h (key i j z hj)
  · exact z
  · exact absurd h.symm (key j i z hi)
theorem firm_x {n : Nat} {es : List EdT} (ok : OkE n es) {e : Nat} (he : e < es.length) : Firm (ends es) e ↔ FirmX es es[e] := by
  have hI : Inc (ends es) e es[e].u.toNat es[e].v.toNat := .inl (by simp [ends, he])
  have key := jn_jm (es := es) (P := fun i => i ≠ e) (M := fun y => y ∈ es ∧ y.id ≠ es[e].id) (a := es[e].u.toNat) (b := es[e].v.toNat) (fun i h hP => ⟨List.getElem_mem h, fun q => hP (ok.inj h he q)⟩) (fun x hx => by
    obtain ⟨i, hi, rfl⟩ := List.getElem_of_mem hx.1
    exact ⟨i, hi, rfl, fun q => hx.2 (by subst q; rfl)⟩)
  exact ⟨fun h => key.1 (h.at hI), fun h => ⟨_, _, hI, key.2 h⟩⟩
theorem jfirm_x {n : Nat} {es : List EdT} (ok : OkE n es) {a b : Nat} : Jn (ends es) (Firm (ends es)) a b ↔ Jm (fun x => x ∈ es ∧ FirmX es x) a b :=
  jn_jm (fun i h hP => ⟨List.getElem_mem h, (firm_x ok h).1 hP⟩) (fun x hx => by
    obtain ⟨i, hi, rfl⟩ := List.getElem_of_mem hx.1
    exact ⟨i, hi, rfl, (firm_x ok hi).2 hx.2⟩)
def Twin8 (es fs : List EdT) : Prop := (∀ x, x ∈ es → ∃ y, y ∈ fs ∧ Flip8 x y) ∧ (∀ y, y ∈ fs → ∃ x, x ∈ es ∧ Flip8 y x)
theorem Twin8.symm {es fs : List EdT} (h : Twin8 es fs) : Twin8 fs es := ⟨h.2, h.1⟩
theorem Twin8.firm {es fs : List EdT} (h : Twin8 es fs) {x y : EdT} (f : Flip8 x y) (k : FirmX es x) : FirmX fs y := by
  have : Jm (fun z => z ∈ fs ∧ z.id ≠ y.id) x.u.toNat x.v.toNat := k.twin fun z hz => by
    obtain ⟨t, ht, hf⟩ := h.1 z hz.1
    exact ⟨t, ⟨ht, by rw [hf.1, f.1]; exact hz.2⟩, hf⟩
  unfold FirmX
  rw [f.2.1, f.2.2]
  exact this.symm
theorem Twin8.jfirm {n : Nat} {es fs : List EdT} (h : Twin8 es fs) (ok : OkE n es) (ok' : OkE n fs) {a b : Nat} (k : Jn (ends es) (Firm (ends es)) a b) : Jn (ends fs) (Firm (ends fs)) a b :=
  (jfirm_x ok').2 (((jfirm_x ok).1 k).twin fun z hz => by
    obtain ⟨t, ht, hf⟩ := h.1 z hz.1
    exact ⟨t, ⟨ht, h.firm hf hz.2⟩, hf⟩)
theorem Twin8.mem {n : Nat} {es fs : List EdT} {B B' : List Nat} {bl bl' : Nat → Nat} (h : Twin8 es fs) (ok : OkE n es) (ok' : OkE n fs) (A : Ans n es B bl) (A' : Ans n fs B' bl') {i : Nat} (hi : i ∈ B) : i ∈ B' := by
  obtain ⟨e, he, h1, h2⟩ := (A.2.1 i).1 hi
  obtain ⟨y, hy, hf⟩ := h.1 _ (List.getElem_mem he)
  obtain ⟨j, hj, rfl⟩ := List.getElem_of_mem hy
  refine (A'.2.1 i).2 ⟨j, hj, ?_, fun q => h2 ?_⟩
  · have e1 : idn es e = es[e].id.toNat := by simp [idn, he]
    have e2 : idn fs j = fs[j].id.toNat := by simp [idn, hj]
    rw [e2, hf.1, ← e1, h1]
  · rw [firm_x ok' hj] at q
    rw [firm_x ok he]
    exact h.symm.firm hf.symm q
theorem Twin8.le {n : Nat} {es fs : List EdT} {B B' : List Nat} {bl bl' : Nat → Nat} (h : Twin8 es fs) (ok : OkE n es) (ok' : OkE n fs) (A : Ans n es B bl) (A' : Ans n fs B' bl') {x : Nat} (hx : x < n) : bl' x ≤ bl x := by
  obtain ⟨h1, h2⟩ := A.2.2.1 x hx
  have h3 := h.jfirm ok ok' h2
  have h4 := A'.2.2.2 (bl x) x (by omega) hx h3
  have := (A'.2.2.1 (bl x) (by omega)).1
  omega
theorem Twin8.ans {n : Nat} {es fs : List EdT} {B B' : List Nat} {bl bl' : Nat → Nat} (h : Twin8 es fs) (ok : OkE n es) (ok' : OkE n fs) (A : Ans n es B bl) (A' : Ans n fs B' bl') : B = B' ∧ (∀ x, x < n → bl x = bl' x) ∧ cntB bl n = cntB bl' n := by
  have hb : ∀ x, x < n → bl x = bl' x := fun x hx => by
    have a1 := h.le ok ok' A A' hx
    have a2 := h.symm.le ok' ok A' A hx
    omega
  refine ⟨inc_ext B B' A.1 A'.1 fun i => ⟨h.mem ok ok' A A', h.symm.mem ok' ok A' A⟩, hb, ?_⟩
  exact sumN_same n fun v hv => by rw [hb v hv]
/-- The first k edges, turned about. -/
def twL (es : List EdT) : Nat → List EdT
  | 0 => []
  | k + 1 => match es[k]? with
    | none => twL es k
    | some x => twL es k ++ [⟨x.id, x.v, x.u, (k : Int)⟩]
theorem twL_succ {es : List EdT} {k : Nat} (hk : k < es.length) : twL es (k + 1) = twL es k ++ [⟨es[k].id, es[k].v, es[k].u, (k : Int)⟩] := by
  simp only [twL, List.getElem?_eq_getElem hk]
theorem twL_mem {es : List EdT} : ∀ k, k ≤ es.length → ∀ y, y ∈ twL es k ↔ ∃ j, ∃ h : j < es.length, j < k ∧ y = ⟨es[j].id, es[j].v, es[j].u, (j : Int)⟩
  | 0, _, y => by simp [twL]
  | k + 1, hk, y => by
    rw [twL_succ (by omega), List.mem_append, twL_mem k (by omega) y, List.mem_singleton]
    constructor
    · rintro (⟨j, h, hj, rfl⟩ | rfl)
      · exact ⟨j, h, by omega, rfl⟩
      · exact ⟨k, by omega, by omega, rfl⟩
    · rintro ⟨j, h, hj, rfl⟩
      by_cases q : j = k
      · subst q; exact .inr rfl
      · exact .inl ⟨j, h, by omega, rfl⟩
theorem twL_pw {n m : Nat} {es : List EdT} (G : GrE n m es) : ∀ k, k ≤ es.length → (twL es k).Pairwise (fun a b => a.id ≠ b.id)
  | 0, _ => List.Pairwise.nil
  | k + 1, hk => by
    rw [twL_succ (by omega), List.pairwise_append]
    refine ⟨twL_pw G k (by omega), by simp, fun a ha b hb => ?_⟩
    simp only [List.mem_singleton] at hb
    subst hb
    obtain ⟨j, h, hj, rfl⟩ := (twL_mem k (by omega) a).1 ha
    have := List.pairwise_iff_getElem.1 G.2 j k h (by omega) hj
    simp only
    omega
/-- The list that was put together. -/
theorem tw_done {n m : Nat} {es fs : List EdT} (G : GrE n m es) (hm : m ≤ 1048576) (hl : es.length ≤ 200) (hp : fs.Perm (twL es es.length)) : OkE n fs ∧ Twin8 es fs := by
  have hmem : ∀ y, y ∈ fs ↔ ∃ j, ∃ h : j < es.length, j < es.length ∧ y = ⟨es[j].id, es[j].v, es[j].u, (j : Int)⟩ := fun y => hp.mem_iff.trans (twL_mem _ (Nat.le_refl _) y)
  have hpw : fs.Pairwise (fun a b => a.id ≠ b.id) := (hp.pairwise_iff (fun {a b} h => h.symm)).2 (twL_pw G _ (Nat.le_refl _))
  refine ⟨fun k hk => ?_, fun x hx => ?_, fun y hy => ?_⟩
  · obtain ⟨j, h, _, hy⟩ := (hmem _).1 (List.getElem_mem hk)
    obtain ⟨a, b, c, d, e⟩ := G.1 _ (List.getElem_mem h)
    refine ⟨?_, fun x hx => ?_⟩
    · rw [hy]
      exact ⟨b, a, fun q => c q.symm, ⟨by have := d.1; simp only; omega, by have := d.2; simp only; omega⟩, ⟨by simp only; omega, by simp only; omega⟩⟩
    · obtain ⟨i, hi, rfl⟩ := List.mem_take_iff_getElem.1 hx
      exact List.pairwise_iff_getElem.1 hpw i k (by omega) hk (by omega)
  · obtain ⟨j, h, rfl⟩ := List.getElem_of_mem hx
    exact ⟨_, (hmem _).2 ⟨j, h, h, rfl⟩, rfl, rfl, rfl⟩
  · obtain ⟨j, h, _, rfl⟩ := (hmem y).1 hy
    exact ⟨_, List.getElem_mem h, rfl, rfl, rfl⟩
/-- One more is put in. -/
theorem tw_put {es fs : List EdT} {k a : Nat} (hk : k < es.length) (hp : fs.Perm (twL es k)) : (fs.take a ++ ⟨es[k].id, es[k].v, es[k].u, (k : Int)⟩ :: fs.drop a).Perm (twL es (k + 1)) := by
  rw [twL_succ hk]
  refine List.perm_middle.trans ?_
  rw [List.take_append_drop]
  exact (hp.cons _).trans (List.perm_append_singleton _ _).symm
/-- Numbers that came in, only read. -/
def ArgI (w : World) (o : Nat → Nat) (ao : Option Addr) (len : Nat) (z : Nat → Int) : Prop :=
  ∀ j, j < len → ∃ b off, ao = some ⟨b, off, none⟩ ∧ b < w.heap.size ∧ o b = 0 ∧ w.cell? ⟨b, off + j, none⟩ = some (.int .i64 (z j)) ∧ i64 (z j)
theorem ArgI.step {I : Nat → Prop} {w w' : World} {o o' : Nat → Nat} {ao : Option Addr} {len : Nat} {z : Nat → Int} (h : ArgI w o ao len z) (s : Step I w o w' o') (hi : ¬ I 0) : ArgI w' o' ao len z := by
  intro j hj
  obtain ⟨b, off, h1, h2, h3, c0, hb⟩ := h j hj
  exact ⟨b, off, h1, Nat.lt_of_lt_of_le h2 s.size, (s.lab b h2).trans h3, (s.cell h2 (by rw [h3]; exact hi) _).trans c0, hb⟩
theorem Ans.len {n : Nat} {es : List EdT} {B : List Nat} {bl : Nat → Nat} (h : Ans n es B bl) : B.length ≤ es.length := by
  have h1 : ∀ i, ∃ e, i ∈ B → e < es.length ∧ idn es e = i := fun i => by
    by_cases q : i ∈ B
    · obtain ⟨e, a, b, _⟩ := (h.2.1 i).1 q
      exact ⟨e, fun _ => ⟨a, b⟩⟩
    · exact ⟨0, fun z => absurd z q⟩
  obtain ⟨g, hg⟩ := Classical.axiomOfChoice h1
  have hnd : (B.map g).Nodup := by
    rw [List.Nodup, List.pairwise_map]
    refine h.1.imp_of_mem fun {a b} ha hb hab q => ?_
    have e1 := (hg a ha).2
    have e2 := (hg b hb).2
    rw [q, e2] at e1
    omega
  have := nodup_len hnd (fun x hx => by
    obtain ⟨i, hi, rfl⟩ := List.mem_map.1 hx
    exact (hg i hi).1)
  rw [List.length_map] at this
  exact this
end Go.Proofs.Ytanahbkkgppfnaa

/- The names of a family, rising. No program but its types. -/
import Derived.Test.YtabkbldhiigcgaaDoorFamC
import Derived.Sort.KeysCollected
namespace Go.Proofs.YtabkbldhiigcgaaDoor
open Go.ChangeShapes Go.WideShapes Go.ChangeAt Go.RowKit Go.Maps Go.Sort
set_option linter.unusedVariables false

/-- A text ahead of another one, by their bytes. -/
def bls (s t : ByteArray) : Prop := s.data.toList < t.data.toList
/-- NL are the names of F, rising. -/
def NamesOf (F : ByteArray → Option Nat) (NL : List ByteArray) : Prop := (∀ s, s ∈ NL ↔ (F s).isSome = true) ∧ NL.Pairwise bls
def strsL (l : List ByteArray) : List Value := l.map Value.string
theorem bls_irrefl (s : ByteArray) : ¬ bls s s := List.lt_irrefl _
theorem NamesOf.nodup {F : ByteArray → Option Nat} {NL : List ByteArray} (h : NamesOf F NL) : NL.Nodup := List.Pairwise.imp (S := fun a b => a ≠ b) (fun {a b} hab e => bls_irrefl a (by rw [← e] at hab; exact hab)) h.2
def txt (l : List UInt8) : ByteArray := ⟨l.toArray⟩
theorem txt_data (l : List UInt8) : (txt l).data.toList = l := by simp [txt]
theorem txt_of (s : ByteArray) : txt s.data.toList = s := by simp [txt]
theorem names_of_keys {w : World} {o : Nat → Nat} {i b m : Nat} {F : ByteArray → Option Nat} {D : DataW Unit} (h1 : w.ownsMap Tryd.prog 9 stElem b m D) (h2 : Maps.size D = m)
    (h4 : ∀ s : ByteArray, Maps.has D (.string s.data.toList) = (F s).isSome ∧ ∀ x, F s = some x → D.atKey (.string s.data.toList) (stD 0) = stD (x : Nat)) {ss : List (List UInt8)} (hp : ss.Perm (strKeys D)) :
    NamesOf F ((ss.mergeSort (fun x y => decide (x ≤ y))).map txt) ∧ ss.length = m := by
  obtain ⟨es, hD, hpw, _⟩ := h1.entries strLaw
  obtain ⟨es', hD', hko⟩ := h1.keysOf
  obtain rfl : es = es' := by rw [hD] at hD'; simpa using hD'
  subst hD
  have hk : ∀ p ∈ es, ∃ x, p.1 = .string x := fun p hp => by obtain ⟨v, hv⟩ := hko p hp; obtain ⟨x, _, hx, _⟩ := Maps.keyOf_str Tryd.underlying9 hv; exact ⟨x, hx⟩
  have hnd : (strKeys (.map es)).Nodup := by
    show (es.map fun p => strOf p.1).Nodup
    refine List.pairwise_map.2 (hpw.imp_of_mem fun {p q} hp' hq' hne e => hne ?_)
    obtain ⟨a, ha⟩ := hk p hp'
    obtain ⟨b, hb⟩ := hk q hq'
    rw [ha, hb] at e ⊢
    exact congrArg _ e
  have hmem : ∀ x, x ∈ strKeys (.map es) ↔ Maps.has (.map es) (.string x) = true := fun x => by
    rw [has_eq, List.any_eq_true]
    show x ∈ es.map (fun p => strOf p.1) ↔ _
    rw [List.mem_map]
    constructor
    · rintro ⟨p, hp', rfl⟩
      obtain ⟨a, ha⟩ := hk p hp'
      exact ⟨p, hp', by rw [ha]; simp [Lit.sameKey, strOf]⟩
    · rintro ⟨p, hp', hs⟩
      obtain ⟨a, ha⟩ := hk p hp'
      rw [ha] at hs
      exact ⟨p, hp', by rw [ha]; simpa [Lit.sameKey, strOf] using hs⟩
  have tr : ∀ a b c : List UInt8, leB a b = true → leB b c = true → leB a c = true := fun a b c h1 h2 => by simp only [leB, decide_eq_true_eq] at *; exact List.le_trans h1 h2
  have tot : ∀ a b : List UInt8, (leB a b || leB b a) = true := fun a b => by simp only [leB, Bool.or_eq_true, decide_eq_true_eq]; exact List.le_total a b
  have hsort := List.pairwise_mergeSort tr tot ss
  have hnd2 : (ss.mergeSort leB).Nodup := ((List.mergeSort_perm ss leB).trans hp).nodup_iff.2 hnd
  refine ⟨⟨fun s => ?_, ?_⟩, ?_⟩
  · rw [← (h4 s).1, ← hmem, List.mem_map]
    constructor
    · rintro ⟨l, hl, rfl⟩
      rw [txt_data]
      exact ((List.mergeSort_perm ss leB).trans hp).mem_iff.1 hl
    · intro h
      exact ⟨s.data.toList, ((List.mergeSort_perm ss leB).trans hp).mem_iff.2 h, txt_of s⟩
  · rw [List.pairwise_map]
    refine (hsort.and hnd2).imp fun {a b} hab => ?_
    unfold bls
    rw [txt_data, txt_data]
    have h1 : a ≤ b := by simpa [leB] using hab.1
    exact Classical.byContradiction fun hn => hab.2 (List.le_antisymm h1 (List.not_lt.1 hn))
  · rw [hp.length_eq, ← h2]
    show (es.map _).length = _
    simp [Maps.size]
end Go.Proofs.YtabkbldhiigcgaaDoor

/- The document's own kinds: kind, by size. (mkkind.py writes this text.) -/
import Derived.Test.YtafnlhnenmpfoaaGreatDoorHeavyA
import Derived.BigQuiet
import Derived.Deep.CutBlock
import Derived.Deep.DeepCutAuto
namespace Go.Proofs.YtafnlhnenmpfoaaGreatDoor
set_option linter.unusedVariables false
set_option linter.unusedSimpArgs false

abbrev Er := Option (Nat × Int)
def stS : Sum (Nat × Int) Int → Er
  | .inl x => some x
  | .inr _ => none
def resR (st : Er) (k : Int) : Sum (Nat × Int) Int :=
  match st with
  | some x => .inl x
  | none => .inr k
/-- A kid that must be of a kind, where an error may be noted. -/
def musR (st : Er) (m : Int) (e : Ex) (b : List (List UInt8)) : Er :=
  match st with
  | some x => some x
  | none => stS (mustT m e.a (chkE e b))
/-- All kids must be vertices. -/
def musL : Fs → Er → List (List UInt8) → Er
  | ⟨none⟩, st, _ => st
  | ⟨some ⟨k, n, nm, a, ks, r⟩⟩, st, b => musL r (musR st 3 ⟨k, n, nm, a, ks⟩ b) b
theorem musL_some : ∀ (f : Fs) (x : Nat × Int) (b : List (List UInt8)), musL f (some x) b = some x
  | ⟨none⟩, x, b => rfl
  | ⟨some ⟨k, n, nm, a, ks, r⟩⟩, x, b => musL_some r x b
theorem must_cases (m a : Int) (r : Sum (Nat × Int) Int) (hm : m ≠ 0) : (∃ x, mustT m a r = .inl x) ∨ (mustT m a r = .inr m ∧ r = .inr m) := by
  cases r with
  | inl x => exact .inl ⟨x, rfl⟩
  | inr is =>
    simp only [mustT]
    by_cases h : is = m
    · subst h
      exact .inr ⟨by rw [if_neg (fun h2 => h2.2 rfl)], rfl⟩
    · exact .inl ⟨_, by rw [if_pos ⟨hm, h⟩]⟩
theorem chk_ex' (x : Ex) (r : Fs) (k n : Int) (nm : List UInt8) (len : Nat) (b : List (List UInt8)) (i : Nat) (done : List Int) (hk : k ≠ 21) :
    chkFs (Fs.ex x r) k n nm len b i done = (match mustT (ruleT k n len done) x.a (chkE x b) with
      | .inl e => .inl e
      | .inr is => chkFs r k n nm len b (i + 1) (done ++ [is])) := by
  have h := chk_ex x r k n nm len b i done
  rw [if_neg (fun h2 => hk h2.1)] at h
  exact h
theorem rep_app (n : Nat) (d : List Int) : d ++ [3] ++ List.replicate n 3 = d ++ List.replicate (n + 1) 3 := by
  rw [List.append_assoc]
  rfl
theorem chk_vert (k n : Int) (nm : List UInt8) (len : Nat) (b : List (List UInt8)) (hk : k ≠ 21) : ∀ (f : Fs) (i : Nat) (done : List Int), (∀ d : List Int, done.length ≤ d.length → d.length < done.length + f.len → ruleT k n len d = 3) →
    chkFs f k n nm len b i done = (match musL f none b with | some x => .inl x | none => .inr (done ++ List.replicate f.len 3))
  | ⟨none⟩, i, done, h => by simp [chkFs, musL, Fs.len]
  | ⟨some ⟨kk, kn, km, ka, kks, kr⟩⟩, i, done, h => by
    have e1 := chk_ex' ⟨kk, kn, km, ka, kks⟩ kr k n nm len b i done hk
    have e2 : chkFs ⟨some ⟨kk, kn, km, ka, kks, kr⟩⟩ k n nm len b i done = _ := e1
    rw [e2, h done (Nat.le_refl _) (by simp [Fs.len])]
    simp only [musL, musR]
    rcases must_cases 3 ka (chkE ⟨kk, kn, km, ka, kks⟩ b) (by decide) with ⟨x, hx⟩ | ⟨hx, -⟩
    · rw [hx]
      simp only [stS, musL_some]
    · rw [hx]
      simp only [stS]
      rw [chk_vert k n nm len b hk kr (i + 1) (done ++ [3]) (fun d h1 h2 => h d (by simp at h1; omega) (by simp [Fs.len] at h1 h2 ⊢; omega))]
      cases musL kr none b with
      | some x => rfl
      | none => simp only [Fs.len]; rw [rep_app]
/-- Two kids of one kind, whichever that is. -/
theorem chk_alike {k n : Int} {nm : List UInt8} {a : Int} {x y : Ex} {b : List (List UInt8)} (hk : k = 13 ∨ k = 14) :
    chkE ⟨k, n, nm, a, Fs.ex x (Fs.ex y .nil)⟩ b = (match chkE x b with | .inl e => .inl e | .inr k0 => resR (musR none k0 y b) 2) := by
  rw [chkE_kids _ _ (by show k ≠ 4; omega)]
  show endT k n 2 (chkFs (Fs.ex x (Fs.ex y .nil)) k n nm 2 b 0 []) = _
  have hr : ∀ d, ruleT k n 2 d = (match d with | [] => 0 | [a] => a | _ => 2) := fun d => by unfold ruleT; rw [if_pos hk]; rcases d with _ | ⟨x, _ | ⟨y, r⟩⟩ <;> rfl
  rw [chk_ex' _ _ _ _ _ _ _ _ _ (by omega), hr]
  simp only
  cases hx : chkE x b with
  | inl e => rfl
  | inr k0 =>
    simp only [mustT]
    rw [if_neg (fun h => h.1 rfl)]
    simp only [List.nil_append]
    rw [chk_ex' _ _ _ _ _ _ _ _ _ (by omega), hr]
    unfold musR
    simp only
    cases mustT k0 y.a (chkE y b) with
    | inl e => rfl
    | inr k1 =>
      show Sum.inr (ruleT k n 2 [k0, k1]) = _
      rw [hr]
      rfl
/-- A question and two kids of one kind. -/
theorem chk_choice {n : Int} {nm : List UInt8} {a : Int} {x y z : Ex} {b : List (List UInt8)} :
    chkE ⟨19, n, nm, a, Fs.ex x (Fs.ex y (Fs.ex z .nil))⟩ b = (match musR none 2 x b with
      | some e => .inl e
      | none => match chkE y b with | .inl e => .inl e | .inr k1 => resR (musR none k1 z b) k1) := by
  rw [chkE_kids _ _ (by show (19 : Int) ≠ 4; omega)]
  show endT 19 n 3 (chkFs (Fs.ex x (Fs.ex y (Fs.ex z .nil))) 19 n nm 3 b 0 []) = _
  have hr : ∀ d, ruleT 19 n 3 d = (match d with | [] => 2 | [_] => 0 | _ :: b :: _ => b) := fun d => by unfold ruleT; rw [if_neg (by omega), if_pos rfl]; rcases d with _ | ⟨x, _ | ⟨y, r⟩⟩ <;> rfl
  rw [chk_ex' _ _ _ _ _ _ _ _ _ (by omega), hr]
  simp only
  rcases must_cases 2 x.a (chkE x b) (by decide) with ⟨u, hu⟩ | ⟨hu, -⟩
  · unfold musR
    simp only
    rw [hu]
    rfl
  · have e1 : musR none 2 x b = none := by unfold musR; simp only; rw [hu]; rfl
    rw [hu, e1]
    simp only [List.nil_append]
    rw [chk_ex' _ _ _ _ _ _ _ _ _ (by omega), hr]
    simp only
    cases hy : chkE y b with
    | inl e => rfl
    | inr k1 =>
      simp only [mustT]
      rw [if_neg (fun h => h.1 rfl)]
      simp only [List.cons_append, List.nil_append]
      rw [chk_ex' _ _ _ _ _ _ _ _ _ (by omega), hr]
      unfold musR
      simp only
      cases mustT k1 z.a (chkE z b) with
      | inl e => rfl
      | inr k2 =>
        show Sum.inr (ruleT 19 n 3 [2, k1, k2]) = _
        rw [hr]
        rfl
theorem chk_set {k n : Int} {nm : List UInt8} {a : Int} {f : Fs} {b : List (List UInt8)} (hk : (k = 22 ∨ k = 23) ∧ f.len = 0 ∨ k = 24 ∧ f.len = 1 ∨ k = 25) :
    chkE ⟨k, n, nm, a, f⟩ b = resR (musL f none b) 4 := by
  rw [chkE_kids _ _ (by show k ≠ 4; omega)]
  show endT k n f.len (chkFs f k n nm f.len b 0 []) = _
  have hv : ∀ d : List Int, d.length < f.len → ruleT k n f.len d = 3 := fun d hd => by
    rcases hk with ⟨rfl | rfl, h0⟩ | ⟨rfl, h0⟩ | rfl
    · omega
    · omega
    · have : d.length = 0 := by omega
      obtain rfl := List.length_eq_zero_iff.1 this
      rfl
    · unfold ruleT
      rw [if_neg (by omega), if_neg (by omega), if_pos rfl, if_pos hd]
  rw [chk_vert k n nm f.len b (by omega) f 0 [] (fun d _ h2 => hv d (by simpa using h2))]
  cases musL f none b with
  | some x => rfl
  | none =>
    show Sum.inr (ruleT k n f.len ([] ++ List.replicate f.len 3)) = Sum.inr 4
    congr 1
    rcases hk with ⟨rfl | rfl, h0⟩ | ⟨rfl, h0⟩ | rfl
    · rw [h0]; rfl
    · rw [h0]; rfl
    · rw [h0]; rfl
    · unfold ruleT
      rw [if_neg (by omega), if_neg (by omega), if_pos rfl, if_neg (by simp)]
theorem chkFs_len : ∀ (f : Fs) (k n : Int) (nm : List UInt8) (len : Nat) (b : List (List UInt8)) (i : Nat) (done d : List Int), chkFs f k n nm len b i done = .inr d → d.length = done.length + f.len
  | ⟨none⟩, k, n, nm, len, b, i, done, d, h => by
    simp only [chkFs] at h
    injection h with h
    subst h
    rfl
  | ⟨some ⟨kk, kn, km, ka, kks, kr⟩⟩, k, n, nm, len, b, i, done, d, h => by
    have e1 : chkFs ⟨some ⟨kk, kn, km, ka, kks, kr⟩⟩ k n nm len b i done = _ := chk_ex ⟨kk, kn, km, ka, kks⟩ kr k n nm len b i done
    rw [e1] at h
    cases hm : mustT (ruleT k n len done) ka (chkE ⟨kk, kn, km, ka, kks⟩ (if k = 21 ∧ i ≠ 0 then b ++ [nm] else b)) with
    | inl z => simp only at h; rw [hm] at h; cases h
    | inr is =>
      simp only at h
      rw [hm] at h
      have := chkFs_len kr k n nm len b (i + 1) (done ++ [is]) d h
      simp only [List.length_append, List.length_cons, List.length_nil, Fs.len] at this ⊢
      omega
/-- Where sets may stand. -/
def Fs.stk : Fs → Bool → Prop
  | ⟨none⟩, _ => True
  | ⟨some ⟨k, _, _, _, ks, r⟩⟩, first => isSetK k = first ∧ ks.stk (k == 21) ∧ r.stk false
/-- What is of a kind is of one. -/
theorem chkE_pos : ∀ (N : Nat) (e : Ex) (b : List (List UInt8)) (k : Int), e.kids.size < N → e.okA → chkE e b = .inr k → k ≠ 0
  | 0, e, b, k, hN, _, _ => absurd hN (Nat.not_lt_zero _)
  | N + 1, ⟨k0, n, nm, a, f⟩, b, k, hN, hok, h => by
    have ho := okR_of hok.1
    have hkid := hok.1.2.2.1
    simp only at hN ho hkid
    by_cases h13 : k0 = 13 ∨ k0 = 14
    · have hl : f.len = 2 := by
        rcases h13 with rfl | rfl <;> (simp [kidB, opOf, opsL] at hkid; omega)
      obtain ⟨x, y, rfl⟩ := len2 hl
      rw [chk_alike h13] at h
      cases hx : chkE x b with
      | inl z => rw [hx] at h; cases h
      | inr k1 =>
        rw [hx] at h
        simp only at h
        cases hm : musR none k1 y b with
        | some z => rw [hm] at h; cases h
        | none => rw [hm] at h; injection h with h; omega
    by_cases h19 : k0 = 19
    · subst h19
      have hl : f.len = 3 := by simp [kidB] at hkid; omega
      obtain ⟨x, y, z, rfl⟩ := len3 hl
      rw [chk_choice] at h
      cases hx : musR none 2 x b with
      | some u => rw [hx] at h; cases h
      | none =>
        rw [hx] at h
        simp only at h
        cases hy : chkE y b with
        | inl u => rw [hy] at h; cases h
        | inr k1 =>
          rw [hy] at h
          simp only at h
          cases hm : musR none k1 z b with
          | some u => rw [hm] at h; cases h
          | none =>
            rw [hm] at h
            injection h with h
            subst h
            have hsz : y.kids.size < N := by
              simp only [size_ex, Fs.size] at hN
              omega
            exact chkE_pos N y b _ hsz (okA_ex (okA_ex hok.2).2).1 hy
    by_cases h25 : k0 = 22 ∨ k0 = 23 ∨ k0 = 24 ∨ k0 = 25
    · have hl : (k0 = 22 ∨ k0 = 23) ∧ f.len = 0 ∨ k0 = 24 ∧ f.len = 1 ∨ k0 = 25 := by
        rcases h25 with rfl | rfl | rfl | rfl
        · exact .inl ⟨.inl rfl, by simp [kidB] at hkid; first | done | exact hkid | omega⟩
        · exact .inl ⟨.inr rfl, by simp [kidB] at hkid; first | done | exact hkid | omega⟩
        · exact .inr (.inl ⟨rfl, by simp [kidB] at hkid; first | done | exact hkid | omega⟩)
        · exact .inr (.inr rfl)
      rw [chk_set hl] at h
      cases hm : musL f none b with
      | some z => rw [hm] at h; cases h
      | none => rw [hm] at h; injection h with h; omega
    have hpos : ∀ (j : Nat) (v : Int), (fixL k0 n)[j]? = some v → v ≠ 0 := by
      intro j v hv
      have hmem := List.mem_of_getElem? hv
      have hi : ∀ (P : Prop) [Decidable P] (a b : List Int), (∀ x, x ∈ a → x ≠ 0) → (∀ x, x ∈ b → x ≠ 0) → ∀ x, x ∈ (if P then a else b) → x ≠ 0 := by
        intro P _ a b ha hb
        split
        · exact ha
        · exact hb
      revert v
      suffices hall : ∀ x, x ∈ fixL k0 n → x ≠ 0 from fun v _ hm => hall v hm
      unfold fixL
      repeat' apply hi
      all_goals (intro x hx; simp at hx <;> omega)
    have hfl : (fixL k0 n).length = f.len + 1 := by
      rcases ho with ho | ⟨rfl, -, ho⟩ | ⟨rfl, -, ho⟩ | ⟨hr, ho⟩
      · omega
      · exact ho
      · exact ho
      · rw [← ho]
        unfold fixL
        simp only [hr.2.2.2.1, hr.2.2.2.2.1, if_false]
    have hlen : ∀ (f : Fs) (i : Nat) (done d : List Int), chkFs f k0 n nm (f.len + i) b i done = .inr d → True := fun _ _ _ _ _ => trivial
    unfold chkE at h
    split at h
    · cases h
    · cases hc : chkFs f k0 n nm f.len b 0 [] with
      | inl z => simp only at h; rw [hc] at h; cases h
      | inr d =>
        simp only at h
        rw [hc] at h
        injection h with h
        have hd := chkFs_len f k0 n nm f.len b 0 [] d hc
        have hr : ruleT k0 n f.len d = (fixL k0 n)[d.length]?.getD 0 := by
          unfold ruleT
          rw [if_neg (by omega), if_neg (by omega), if_neg (by omega)]
        have hx : (fixL k0 n)[d.length]? = some ((fixL k0 n)[d.length]'(by simp at hd; omega)) := List.getElem?_eq_getElem (by simp at hd; omega)
        rw [← h, hr, hx]
        exact hpos _ _ hx
end Go.Proofs.YtafnlhnenmpfoaaGreatDoor
namespace Go.Proofs.YtafnlhnenmpfoaaGreatDoor
open Go.ChangeShapes Go.WideShapes Go.ChangeAt Go.RowKit
set_option linter.unusedVariables false
set_option linter.unusedSimpArgs false

def erO (st : Er) : Nat := match st with | some x => x.1 | none => 0
def plO (st : Er) : Int := match st with | some x => x.2 | none => 0
def StOk (st : Er) : Prop := ∀ x, st = some x → x.1 ≠ 0
/-- The walk in memory: names that are bound, the first error. -/
structure Wk (w : World) (wb : Nat) (bv : Value) (st : Er) : Prop where
  blk : w.heap[wb]? = some (.cells #[bv, .int .i64 (erO st : Nat), .int .i64 (plO st)] 54 (0, 0))
  ok : StOk st
theorem StOk.none : StOk none := fun x h => by cases h
/-- Names in a slice that lies elsewhere. -/
def Nmk (wb : Nat) (w : World) (v : Value) (b : List (List UInt8)) : Prop := Nms w v b ∧ ∀ g off n c, v = .slice (some ⟨g, off, none⟩) n c → g ≠ wb
theorem Nmk.keep {wb : Nat} {w w' : World} {v : Value} {b : List (List UInt8)} (h : Nmk wb w v b) (K : Keep wb w w') : Nmk wb w' v b := by
  refine ⟨?_, h.2⟩
  obtain ⟨⟨ao, cap, rfl, hc, h1 | ⟨g, rfl, h2, h0, h3⟩⟩, h4⟩ := h
  · exact ⟨ao, cap, rfl, hc, .inl h1⟩
  · exact ⟨_, cap, rfl, hc, .inr ⟨g, rfl, Nat.lt_of_lt_of_le h2 K.size, h0, fun j t hj => (K.cell h2 (h4 _ _ _ _ rfl) j).trans (h3 j t hj)⟩⟩
end Go.Proofs.YtafnlhnenmpfoaaGreatDoor
namespace Go.Proofs.YtafnlhnenmpfoaaGreatDoor
open Go.ChangeShapes Go.WideShapes Go.ChangeAt Go.RowKit
set_option linter.unusedVariables false
set_option linter.unusedSimpArgs false

/-- A part of a right tree that is no set, not too great. -/
structure Rt13 (N : Nat) (e : Ex) (nb : Nat) : Prop where
  sz : e.kids.size < N
  ok : e.okA
  st : isSetK e.k = false
  sk : e.kids.stk (e.k == 21)
  len : e.kids.len ≤ 1000000000
  sh : e.kids.short
  bl : nb + e.kids.size ≤ 3000
theorem Nmk.below {wb : Nat} {w w' : World} {v : Value} {b : List (List UInt8)} (h : Nmk wb w v b) (B : Below w.heap.size w w') : Nmk wb w' v b := ⟨h.1.below B, h.2⟩
theorem Wk.below {w w' : World} {wb : Nat} {bv : Value} {st : Er} (h : Wk w wb bv st) (B : Below w.heap.size w w') : Wk w' wb bv st := ⟨(B.block _ (lt_of_block h.blk)).trans h.blk, h.ok⟩
/-- A kid of a part that is right. -/
theorem Rt13.kid {N : Nat} {e x : Ex} {nb : Nat} {d r : Fs} {first : Bool} (hs : d.size + (Fs.ex x r).size ≤ N) (hok : (Fs.ex x r).okA) (hsk : (Fs.ex x r).stk false) (hsh : (Fs.ex x r).short) (hbl : nb + (d.size + (Fs.ex x r).size) ≤ 3000) : Rt13 N x nb := by
  rw [size_ex] at hs hbl
  exact ⟨by omega, (okA_ex hok).1, hsk.1, hsk.2.1, hsh.2.1, hsh.2.2.1, by omega⟩
end Go.Proofs.YtafnlhnenmpfoaaGreatDoor
namespace Go.Proofs.YtafnlhnenmpfoaaGreatDoor
open Go.ChangeShapes Go.WideShapes Go.ChangeAt Go.RowKit
set_option linter.unusedVariables false
set_option linter.unusedSimpArgs false

theorem app_okA2 : ∀ {x y : Fs}, (x.app y).okA → y.okA
  | ⟨none⟩, y, h => h
  | ⟨some ⟨k, n, nm, a, ks, r⟩⟩, y, h => app_okA2 h.2.2
/-- Kids that are parts of a right tree, no sets. -/
def Kds (N : Nat) (f : Fs) (nb : Nat) : Prop := ∀ (d r : Fs) (y : Ex), f = d.app (Fs.ex y r) → Rt13 N y nb
theorem Fs.app_stk : ∀ {x y : Fs} {first : Bool}, (x.app y).stk first → x.len ≠ 0 → y.stk false
  | ⟨none⟩, y, first, h, h0 => absurd rfl h0
  | ⟨some ⟨k, n, nm, a, ks, ⟨none⟩⟩⟩, y, first, h, h0 => h.2.2
  | ⟨some ⟨k, n, nm, a, ks, ⟨some r⟩⟩⟩, y, first, h, h0 => Fs.app_stk (x := ⟨some r⟩) h.2.2 (by simp [Fs.len])
theorem Fs.app_stkF {x y : Fs} (h : (x.app y).stk false) : y.stk false := by
  by_cases h0 : x.len = 0
  · cases x using Fs.on with
    | nil => exact h
    | cons k n nm a ks r => simp [Fs.len] at h0
  · exact Fs.app_stk h h0
theorem Kds.of {N : Nat} {f : Fs} {nb : Nat} (hs : f.size ≤ N) (hok : f.okA) (hsk : f.stk false) (hsh : f.short) (hbl : nb + f.size ≤ 3000) : Kds N f nb := by
  intro d r y hf
  subst hf
  rw [Fs.size_app, size_ex] at hs hbl
  have h1 := Fs.app_short hsh
  have h2 := Fs.app_stkF hsk
  have h3 : (Fs.ex y r).okA := app_okA2 hok
  exact ⟨by omega, (okA_ex h3).1, h2.1, h2.2.1, h1.2.1, h1.2.2.1, by omega⟩
end Go.Proofs.YtafnlhnenmpfoaaGreatDoor
namespace Go.Proofs.YtafnlhnenmpfoaaGreatDoor
open Go.ChangeShapes Go.WideShapes Go.ChangeAt Go.RowKit
set_option linter.unusedVariables false
set_option linter.unusedSimpArgs false

/-- The first kid may be a set alone of a quantifier. -/
theorem Rt13.kids {N : Nat} {k n : Int} {nm : List UInt8} {a : Int} {f : Fs} {nb : Nat} (h : Rt13 (N + 1) ⟨k, n, nm, a, f⟩ nb) (hk : k ≠ 21) : Kds N f nb :=
  Kds.of (by have := h.sz; simp only at this; omega) h.ok.2 (by have := h.sk; simp only at this; rw [show (k == 21) = false by simpa using hk] at this; exact this) h.sh (by have := h.bl; simp only at this; omega)
end Go.Proofs.YtafnlhnenmpfoaaGreatDoor

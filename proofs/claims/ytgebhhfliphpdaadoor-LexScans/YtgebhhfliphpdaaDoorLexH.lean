/- Pieces read as the document reads them: to their end; digits as numbers; signs. No program. -/
import Derived.Test.YtgebhhfliphpdaaDoorLexB
namespace Go.Proofs.YtgebhhfliphpdaaDoor
set_option linter.unusedVariables false

/-- A piece is read whole, where what stands behind it does not lengthen it. -/
theorem Pce.reads {k : Nat} {u : List UInt8} (h : Pce k u) (q : Nat) (m : List UInt8) (hm : ∀ c r, m = c :: r → tks k u c.toNat = false) : lexL 0 [] q q (u ++ m) = shutP k u q (lexL 0 [] (q + u.length) (q + u.length) m) := by
  obtain ⟨h0, d, r, rfl, h1, h2⟩ := h
  have hb : blk d.toNat = false := by
    rw [← Bool.not_eq_true, ← cls_blank, h1]
    exact h0
  rw [List.cons_append, lexL_no (k := 0) (by exact hb), h1]
  show lexL k [d] q (q + 1) (r ++ m) = _
  rw [lexL_end k [d] q (q + 1) r m (fun j h => h2 j h) (fun c' r' e => hm c' r' e)]
  have e1 : q + 1 + r.length = q + (d :: r).length := by simp; omega
  rw [e1]
  rfl
/-- Words and numbers go on by their bytes alone. -/
theorem tks_plain {k : Nat} (h : k = 1 ∨ k = 2) (t t' : List UInt8) (c : Nat) : tks k t c = tks k t' c := by
  rcases h with rfl | rfl <;> rfl
theorem tks_sgn (t : List UInt8) (r : Nat) : tks 3 t r = (r == 61 && (t == [33] || t == [60])) := rfl
theorem seg_piece (l : List UInt8) (k at0 e : Nat) (hk : k = 1 ∨ k = 2) (h0 : at0 < e) (h1 : e ≤ l.length) (hc : cls (l[at0]'(by omega)).toNat = k) (hin : ∀ j (h : j < l.length), at0 ≤ j → j < e → tks k [] (l[j]).toNat = true) :
    Pce k ((l.drop at0).take (e - at0)) := by
  have e1 : e - at0 = (e - (at0 + 1)) + 1 := by omega
  refine ⟨by omega, l[at0]'(by omega), (l.drop (at0 + 1)).take (e - (at0 + 1)), ?_, hc, fun j hj => ?_⟩
  · rw [drop_at l at0 (by omega), e1, List.take_succ_cons]
  · rw [tks_plain hk _ []]
    have hj' : j < e - (at0 + 1) := by simp at hj; omega
    rw [List.getElem_take, List.getElem_drop]
    exact hin _ _ (by omega) (by omega)
theorem seg_len (l : List UInt8) (at0 e : Nat) (h0 : at0 < e) (h1 : e ≤ l.length) : ((l.drop at0).take (e - at0)).length = e - at0 := by
  simp
  omega
theorem seg_read (l : List UInt8) (k at0 e : Nat) (hk : k = 1 ∨ k = 2) (h0 : at0 < e) (h1 : e ≤ l.length) (hc : cls (l[at0]'(by omega)).toNat = k) (hin : ∀ j (h : j < l.length), at0 ≤ j → j < e → tks k [] (l[j]).toNat = true)
    (hend : ∀ h : e < l.length, tks k [] (l[e]).toNat = false) : lexL 0 [] at0 at0 (l.drop at0) = shutP k ((l.drop at0).take (e - at0)) at0 (lexL 0 [] e e (l.drop e)) := by
  have hP := seg_piece l k at0 e hk h0 h1 hc hin
  have hs : l.drop at0 = (l.drop at0).take (e - at0) ++ l.drop e := by
    have h2 := (List.take_append_drop (e - at0) (l.drop at0)).symm
    rw [List.drop_drop] at h2
    have e2 : at0 + (e - at0) = e := by omega
    rw [e2] at h2
    exact h2
  have hr := hP.reads at0 (l.drop e) (fun c r hcr => by
    have hlt : e < l.length := by
      by_cases hlt : e < l.length
      · exact hlt
      · rw [List.drop_eq_nil_of_le (by omega)] at hcr
        cases hcr
    rw [drop_at l e hlt] at hcr
    injection hcr with h2 h3
    rw [← h2, tks_plain hk _ []]
    exact hend hlt)
  rw [← hs] at hr
  rw [hr, seg_len l at0 e h0 h1]
  have e3 : at0 + (e - at0) = e := by omega
  rw [e3]
/-- What digits say. -/
def dstep (a : Nat) (c : UInt8) : Nat := a * 10 + (c.toNat - 48)
def dval (acc : Nat) (l : List UInt8) : Nat := l.foldl dstep acc
theorem dval_cons (acc : Nat) (c : UInt8) (r : List UInt8) : dval acc (c :: r) = dval (acc * 10 + (c.toNat - 48)) r := by
  unfold dval
  rw [List.foldl_cons]
  rfl
theorem dval_nil (acc : Nat) : dval acc [] = acc := by
  unfold dval
  rw [List.foldl_nil]
def Digs (l : List UInt8) : Prop := ∀ c, c ∈ l → 48 ≤ c.toNat ∧ c.toNat ≤ 57
theorem dval_ge (acc : Nat) (l : List UInt8) : acc * 10 ^ l.length ≤ dval acc l := by
  induction l generalizing acc with
  | nil =>
    rw [List.length_nil, Nat.pow_zero, Nat.mul_one, dval_nil]
    exact Nat.le_refl _
  | cons c r ih =>
    rw [dval_cons, List.length_cons]
    refine Nat.le_trans ?_ (ih _)
    rw [Nat.pow_succ, Nat.mul_comm (10 ^ r.length) 10, ← Nat.mul_assoc]
    exact Nat.mul_le_mul_right _ (by omega)
theorem dval_mono (acc : Nat) (l : List UInt8) : acc ≤ dval acc l := by
  induction l generalizing acc with
  | nil =>
    rw [dval_nil]
    exact Nat.le_refl _
  | cons c r ih =>
    rw [dval_cons]
    exact Nat.le_trans (by omega) (ih _)
theorem dval_append (acc : Nat) (l m : List UInt8) : dval acc (l ++ m) = dval (dval acc l) m := by
  unfold dval
  rw [List.foldl_append]
theorem parse_ok (acc : Nat) (l : List UInt8) (hl : Digs l) (h : dval acc l < 18446744073709551616) : Lib.parseUint10 acc l = .ok (dval acc l) := by
  induction l generalizing acc with
  | nil =>
    rw [dval_nil]
    rfl
  | cons c r ih =>
    have hc := hl c (by simp)
    rw [dval_cons] at h ⊢
    have hm := dval_mono (acc * 10 + (c.toNat - 48)) r
    simp only [Lib.parseUint10]
    rw [if_pos hc, if_neg (by omega), if_neg (by omega)]
    exact ih _ (fun d hd => hl d (by simp [hd])) h
theorem parse_val (acc : Nat) (l : List UInt8) (hl : Digs l) (u : Nat) (h : Lib.parseUint10 acc l = .ok u) : u = dval acc l := by
  induction l generalizing acc with
  | nil =>
    simp only [Lib.parseUint10] at h
    injection h with h
    rw [dval_nil]
    exact h.symm
  | cons c r ih =>
    have hc := hl c (by simp)
    rw [dval_cons]
    simp only [Lib.parseUint10] at h
    rw [if_pos hc] at h
    split at h
    · cases h
    · split at h
      · cases h
      · exact ih _ (fun d hd => hl d (by simp [hd])) h
theorem atoi_digs {l : List UInt8} (hl : Digs l) (h0 : l ≠ []) : (dval 0 l < 9223372036854775808 → Lib.atoiAll l = .ok (dval 0 l : Nat)) ∧ (9223372036854775808 ≤ dval 0 l → ∀ v, Lib.atoiAll l ≠ .ok v) := by
  cases l with
  | nil => exact absurd rfl h0
  | cons c r =>
    have hc := hl c (by simp)
    have hne : ¬ (c.toNat = 43 ∨ c.toNat = 45) := by omega
    have hm : Lib.parseMag (c :: r) = Lib.parseUint10 0 (c :: r) := by
      unfold Lib.parseMag
      rw [if_neg (by simp)]
    constructor
    · intro h
      have hp := parse_ok 0 (c :: r) hl (by omega)
      unfold Lib.atoiAll
      simp only
      rw [if_neg hne, hm, hp]
      simp only
      rw [if_neg (by omega), if_neg (by omega), if_neg (by omega)]
    · intro h v hv
      unfold Lib.atoiAll at hv
      simp only at hv
      rw [if_neg hne, hm] at hv
      cases hp : Lib.parseUint10 0 (c :: r) with
      | ok u =>
        rw [hp] at hv
        simp only at hv
        have hu := parse_val 0 (c :: r) hl u hp
        rw [if_pos (by omega)] at hv
        cases hv
      | _ => rw [hp] at hv; cases hv
theorem numT_no {l : List UInt8} (h : ∀ v, Lib.atoiAll l ≠ .ok v) (a : Nat) : numT l a = .inl 111 := by
  unfold numT
  split
  · rename_i v hv
    exact absurd hv (h v)
  · rfl
theorem numT_lead {l : List UInt8} (h1 : l.head? = some 48) (h2 : 1 < l.length) (a : Nat) : numT l a = .inl 111 := by
  unfold numT
  have hne : l ≠ [48] := fun e => by rw [e] at h2; simp at h2
  split
  · rw [if_pos ⟨h1, hne⟩]
  · rfl
theorem numT_yes {l : List UInt8} (hl : Digs l) (h0 : l ≠ []) (h1 : l.head? ≠ some 48 ∨ l.length ≤ 1) (h2 : dval 0 l < 9223372036854775808) (a : Nat) : numT l a = .inr ⟨1, (dval 0 l : Nat), [], a⟩ := by
  unfold numT
  rw [(atoi_digs hl h0).1 h2]
  simp only
  rw [if_neg]
  rintro ⟨h3, h4⟩
  rcases h1 with h1 | h1
  · exact h1 h3
  · apply h4
    cases l with
    | nil => exact absurd rfl h0
    | cons c r =>
      simp at h1 h3
      rw [h1, h3]
theorem numT_long {l : List UInt8} (hl : Digs l) (h : 19 < l.length) (a : Nat) : numT l a = .inl 111 := by
  cases l with
  | nil => simp at h
  | cons c r =>
    by_cases hc : c = 48
    · exact numT_lead (by rw [hc]; rfl) (by omega) a
    · refine numT_no ((atoi_digs hl (by simp)).2 ?_) a
      have h1 := hl c (by simp)
      have h2 : 1 ≤ c.toNat - 48 := by
        by_cases e : c.toNat = 48
        · exact absurd (UInt8.toNat.inj e) hc
        · omega
      have h3 := dval_ge (0 * 10 + (c.toNat - 48)) r
      rw [dval_cons]
      have h4 : 10 ^ 19 ≤ 10 ^ r.length := Nat.pow_le_pow_right (by omega) (by simp at h; omega)
      have h5 : 1 * 10 ^ r.length ≤ (0 * 10 + (c.toNat - 48)) * 10 ^ r.length := Nat.mul_le_mul_right _ (by omega)
      have h6 : (10 : Nat) ^ 19 = 10000000000000000000 := by decide
      omega
end Go.Proofs.YtgebhhfliphpdaaDoor

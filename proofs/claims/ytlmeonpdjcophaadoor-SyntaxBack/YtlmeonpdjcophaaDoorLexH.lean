/- Pieces read as the document reads them: to their end; digits as numbers; signs. No program. -/
import Derived.Test.YtlmeonpdjcophaaDoorLexK
namespace Go.Proofs.YtlmeonpdjcophaaDoor
set_option linter.unusedVariables false

/-- A whole piece. -/
def Pce (k : Nat) (u : List UInt8) : Prop := k ≠ 0 ∧ ∃ c r, u = c :: r ∧ cls c.toNat = k ∧ ∀ j (h : j < r.length), tks k (c :: r.take j) (r[j]).toNat = true
theorem cls_blank {r : Nat} : cls r = 0 ↔ blk r = true := by
  unfold cls
  constructor
  · intro h
    by_cases hb : blk r = true
    · exact hb
    · rw [if_neg hb] at h
      repeat' split at h
      all_goals omega
  · intro h
    rw [if_pos h]
theorem Pce.one (c : UInt8) (h : cls c.toNat ≠ 0) : Pce (cls c.toNat) [c] := ⟨h, c, [], rfl, rfl, fun j h => by simp at h⟩
theorem Pce.more {k : Nat} {u : List UInt8} (h : Pce k u) (c : UInt8) (ht : tks k u c.toNat = true) : Pce k (u ++ [c]) := by
  obtain ⟨h0, d, r, rfl, h1, h2⟩ := h
  refine ⟨h0, d, r ++ [c], rfl, h1, fun j hj => ?_⟩
  by_cases e : j < r.length
  · rw [List.getElem_append_left e, List.take_append_of_le_length (by omega)]
    exact h2 j e
  · have e2 : j = r.length := by simp at hj; omega
    subst e2
    rw [List.getElem_append_right (by omega)]
    simp only [Nat.sub_self, List.getElem_singleton]
    rw [List.take_append_of_le_length (by omega), List.take_length]
    exact ht
/-- A piece is read whole, where a blank or nothing stands behind it. -/
theorem Pce.read {k : Nat} {u : List UInt8} (h : Pce k u) (q : Nat) (m : List UInt8) (hm : ∀ c r, m = c :: r → blk c.toNat = true) : lexL 0 [] q q (u ++ m) = shutP k u q (lexL 0 [] (q + u.length) (q + u.length) m) := by
  obtain ⟨h0, d, r, rfl, h1, h2⟩ := h
  have hb : blk d.toNat = false := by
    rw [← Bool.not_eq_true, ← cls_blank, h1]
    exact h0
  rw [List.cons_append, lexL_no (k := 0) (by exact hb), h1]
  show lexL k [d] q (q + 1) (r ++ m) = _
  rw [lexL_end k [d] q (q + 1) r m (fun j h => h2 j h) (fun c' r' e => tks_blank _ _ _ (hm c' r' e) h0)]
  have e1 : q + 1 + r.length = q + (d :: r).length := by simp; omega
  rw [e1]
  rfl
/-- A piece alone. -/
theorem Pce.alone {k : Nat} {u : List UInt8} (h : Pce k u) {a : Nat} {x : Tk} (hx : ptok k u a = .inr x) : lexA u = .inr [⟨x.k, x.n, x.t, 0⟩, ⟨0, 0, [], u.length⟩] := by
  have h1 := h.read 0 [] (fun c r e => by cases e)
  rw [List.append_nil] at h1
  show lexL 0 [] 0 0 u = _
  rw [h1, lexL_nil]
  unfold shutP
  rw [if_neg h.1, (ptok_inr hx).2 0, if_pos rfl, Nat.zero_add]
  rfl
theorem Pce.pos {k : Nat} {u : List UInt8} (h : Pce k u) : 0 < u.length := by
  obtain ⟨_, d, r, rfl, _⟩ := h
  simp
/-- No blank is in a piece. -/
theorem Pce.full {k : Nat} {u : List UInt8} (h : Pce k u) : ∀ j (hj : j < u.length), blk (u[j]).toNat = false := by
  obtain ⟨h0, d, r, rfl, h1, h2⟩ := h
  intro j hj
  rw [← Bool.not_eq_true]
  intro hb
  cases j with
  | zero =>
    rw [← cls_blank] at hb
    simp at hb
    omega
  | succ j =>
    have h3 := h2 j (by simpa using hj)
    rw [List.getElem_cons_succ] at hb
    rw [tks_blank _ _ _ hb h0] at h3
    cases h3
theorem dig_first {k : Nat} {u : List UInt8} (h : Pce k u) (hk : k ≠ 1) : nameB u = false := by
  obtain ⟨h0, d, r, rfl, h1, h2⟩ := h
  have hs : sml d.toNat = false := by
    rw [← Bool.not_eq_true]
    intro hs
    apply hk
    rw [← h1]
    unfold cls
    have hb : blk d.toNat = false := by
      rw [← Bool.not_eq_true, ← cls_blank, h1]
      exact h0
    have hl : ltr d.toNat = true := by simp [ltr, hs]
    simp [hb, hl]
  simp [nameB, hs]
/-- A token is a name just if its text is one. -/
theorem tok_name {k : Nat} {u : List UInt8} {a : Nat} {x : Tk} (h : Pce k u) (hx : ptok k u a = .inr x) : nameB u = decide (x.k = 2) := by
  by_cases hk : k = 1
  · subst hk
    change wrdT u a = _ at hx
    unfold wrdT at hx
    split at hx
    · rename_i h1
      injection hx with hx
      subst hx
      cases hu : u with
      | nil => rw [hu] at h1; cases h1
      | cons c r => rw [hu] at h1; simp [nameB, h1]
    · split at hx
      · rename_i h2
        injection hx with hx
        subst hx
        simpa using h2
      · cases hx
  · rw [dig_first h hk]
    have : x.k ≠ 2 := by
      unfold ptok at hx
      split at hx
      · exact absurd rfl hk
      · unfold numT at hx
        split at hx
        · split at hx
          · cases hx
          · injection hx with hx
            subst hx
            simp
        · cases hx
      · unfold sgnT at hx
        split at hx
        · cases hx
        · injection hx with hx
          subst hx
          simp
      · cases hx
    simp [this]
/-- Where a token stands: its piece, blanks, the next token's place. -/
def TokAt (L : List UInt8) (x y : Tk) : Prop := ∃ k u b r, Pce k u ∧ ptok k u x.a = .inr x ∧ L.drop x.a = u ++ (b ++ r) ∧ (∀ c, c ∈ b → blk c.toNat = true) ∧ y.a = x.a + u.length + b.length ∧ y.a ≤ L.length
def Chn (L : List UInt8) : List Tk → Prop
  | [] => True
  | x :: r => (match r with | [] => True | y :: _ => TokAt L x y) ∧ Chn L r
theorem Chn.at {L : List UInt8} {ts : List Tk} (h : Chn L ts) (i : Nat) (hi : i + 1 < ts.length) : TokAt L (ts[i]'(by omega)) ts[i + 1] := by
  induction ts generalizing i with
  | nil => simp at hi
  | cons x r ih =>
    obtain ⟨h1, h2⟩ := h
    cases i with
    | zero =>
      cases r with
      | nil => simp at hi
      | cons y r' => exact h1
    | succ i => exact ih h2 i (by simpa using hi)
theorem first_at (k : Nat) (t : List UInt8) (a p : Nat) (l : List UInt8) (ts : List Tk) (h : lexL k t a p l = .inr ts) : ∃ y r, ts = y :: r ∧ (k ≠ 0 → y.a = a) ∧ (k = 0 → ∃ b s, l = b ++ s ∧ (∀ c, c ∈ b → blk c.toNat = true) ∧ y.a = p + b.length) := by
  induction l generalizing k t a p ts with
  | nil =>
    rcases shut_inr h with ⟨rfl, h1⟩ | ⟨hk, x, us, hp, h1, h2⟩
    · injection h1 with h1
      subst h1
      exact ⟨_, _, rfl, fun h => absurd rfl h, fun _ => ⟨[], [], rfl, (fun c h => by cases h), rfl⟩⟩
    · subst h2
      exact ⟨_, _, rfl, fun _ => (ptok_inr hp).1, fun h => absurd h hk⟩
  | cons c r ih =>
    cases ht : tks k t c.toNat
    · rw [lexL_no ht] at h
      rcases shut_inr h with ⟨rfl, h1⟩ | ⟨hk, x, us, hp, h1, h2⟩
      · obtain ⟨y, r', h3, h4, h5⟩ := ih _ _ _ _ _ h1
        have hc : cls c.toNat ≠ 0 := fun e => by
          have : blk c.toNat = false := ht
          rw [cls_blank.1 e] at this
          cases this
        exact ⟨y, r', h3, fun h => absurd rfl h, fun _ => ⟨[], c :: r, rfl, (fun c h => by cases h), h4 hc⟩⟩
      · subst h2
        exact ⟨_, _, rfl, fun _ => (ptok_inr hp).1, fun h => absurd h hk⟩
    · rw [lexL_yes ht] at h
      obtain ⟨y, r', h3, h4, h5⟩ := ih _ _ _ _ _ h
      refine ⟨y, r', h3, h4, fun hk => ?_⟩
      obtain ⟨b, s, h6, h7, h8⟩ := h5 hk
      subst hk
      refine ⟨c :: b, s, by rw [h6]; rfl, fun d hd => ?_, by rw [h8]; simp; omega⟩
      rcases List.mem_cons.1 hd with rfl | hd
      · exact ht
      · exact h7 d hd
theorem toks_stand (L : List UInt8) (k : Nat) (t : List UInt8) (a p : Nat) (l : List UInt8) (ts : List Tk) (h : lexL k t a p l = .inr ts) (hl : L.drop p = l) (hp : p + l.length = L.length)
    (hk : k ≠ 0 → Pce k t ∧ L.drop a = t ++ l ∧ a + t.length = p) : Chn L ts := by
  induction l generalizing k t a p ts with
  | nil =>
    rcases shut_inr h with ⟨rfl, h1⟩ | ⟨hk0, x, us, hpt, h1, h2⟩
    · injection h1 with h1
      subst h1
      exact ⟨trivial, trivial⟩
    · injection h1 with h1
      subst h1 h2
      obtain ⟨p1, p2, p3⟩ := hk hk0
      have hxa := (ptok_inr hpt).1
      have hpL : p = L.length := by simpa using hp
      refine ⟨⟨k, t, [], [], p1, by rw [hxa]; exact hpt, by rw [hxa, p2]; simp, (fun c h => by cases h), ?_, ?_⟩, trivial, trivial⟩
      · show p = _
        rw [hxa]
        simp
        omega
      · show p ≤ _
        omega
  | cons c r ih =>
    have hl2 : L.drop (p + 1) = r := by
      have := congrArg (List.drop 1) hl
      simpa [List.drop_drop] using this
    have hp2 : p + 1 + r.length = L.length := by simp at hp; omega
    cases ht : tks k t c.toNat
    · rw [lexL_no ht] at h
      have hst : cls c.toNat ≠ 0 → Pce (cls c.toNat) [c] ∧ L.drop p = [c] ++ r ∧ p + [c].length = p + 1 := fun hc => ⟨Pce.one c hc, hl, rfl⟩
      rcases shut_inr h with ⟨rfl, h1⟩ | ⟨hk0, x, us, hpt, h1, h2⟩
      · exact ih _ _ _ _ _ h1 hl2 hp2 hst
      · have hc := ih _ _ _ _ _ h1 hl2 hp2 hst
        subst h2
        obtain ⟨y, r', h3, h4, h5⟩ := first_at _ _ _ _ _ _ h1
        obtain ⟨p1, p2, p3⟩ := hk hk0
        have hxa := (ptok_inr hpt).1
        refine ⟨?_, hc⟩
        subst h3
        show TokAt L x y
        by_cases hcl : cls c.toNat = 0
        · obtain ⟨b, s, h6, h7, h8⟩ := h5 hcl
          refine ⟨k, t, c :: b, s, p1, by rw [hxa]; exact hpt, by rw [hxa, p2, h6]; rfl, fun d hd => ?_, ?_, ?_⟩
          · rcases List.mem_cons.1 hd with rfl | hd
            · exact cls_blank.1 hcl
            · exact h7 d hd
          · rw [hxa, h8]
            simp
            omega
          · rw [h8]
            rw [h6] at hp2
            simp at hp2
            omega
        · have hya := h4 hcl
          refine ⟨k, t, [], c :: r, p1, by rw [hxa]; exact hpt, by rw [hxa, p2]; rfl, fun d hd => (by cases hd), ?_, by omega⟩
          rw [hxa, hya]
          simp
          omega
    · rw [lexL_yes ht] at h
      refine ih _ _ _ _ _ h hl2 hp2 (fun hk0 => ?_)
      obtain ⟨p1, p2, p3⟩ := hk hk0
      exact ⟨p1.more c ht, by rw [p2]; simp, by simp; omega⟩
theorem scan_stands {L : List UInt8} {ts : List Tk} (h : scanA L = .inr ts) : Chn L ts :=
  toks_stand L 0 [] 0 0 L ts (scan_ok h).2.1 rfl (by simp) (fun h => absurd rfl h)
end Go.Proofs.YtlmeonpdjcophaaDoor
namespace Go.Proofs.YtlmeonpdjcophaaDoor
set_option linter.unusedVariables false

/-- A piece is read whole, where what stands behind it does not lengthen it. -/
theorem Pce.reads {k : Nat} {u : List UInt8} (h : Pce k u) (q : Nat) (m : List UInt8) (hm : ∀ c r, m = c :: r → tks k u c.toNat = false) : lexL 0 [] q q (u ++ m) = shutP k u q (lexL 0 [] (q + u.length) (q + u.length) m) := by
  obtain ⟨h0, d, r, rfl, h1, h2⟩ := h
  have hb : blk d.toNat = false := by
    rw [← Bool.not_eq_true, ← cls_blank, h1]
    exact h0
  rw [List.cons_append, lexL_no (k := 0) (by exact hb), h1]
  show lexL k [d] q (q + 1) (r ++ m) = _
  rw [lexL_end k [d] q (q + 1) r m (fun j h => h2 j h) (fun c' r' e => hm c' r' e)]
  have e1 : q + 1 + r.length = q + (d :: r).length := by simp; omega
  rw [e1]
  rfl
/-- Words and numbers go on by their bytes alone. -/
theorem tks_plain {k : Nat} (h : k = 1 ∨ k = 2) (t t' : List UInt8) (c : Nat) : tks k t c = tks k t' c := by
  rcases h with rfl | rfl <;> rfl
theorem tks_sgn (t : List UInt8) (r : Nat) : tks 3 t r = (r == 61 && (t == [33] || t == [60])) := rfl
theorem seg_piece (l : List UInt8) (k at0 e : Nat) (hk : k = 1 ∨ k = 2) (h0 : at0 < e) (h1 : e ≤ l.length) (hc : cls (l[at0]'(by omega)).toNat = k) (hin : ∀ j (h : j < l.length), at0 ≤ j → j < e → tks k [] (l[j]).toNat = true) :
    Pce k ((l.drop at0).take (e - at0)) := by
  have e1 : e - at0 = (e - (at0 + 1)) + 1 := by omega
  refine ⟨by omega, l[at0]'(by omega), (l.drop (at0 + 1)).take (e - (at0 + 1)), ?_, hc, fun j hj => ?_⟩
  · rw [drop_at l at0 (by omega), e1, List.take_succ_cons]
  · rw [tks_plain hk _ []]
    have hj' : j < e - (at0 + 1) := by simp at hj; omega
    rw [List.getElem_take, List.getElem_drop]
    exact hin _ _ (by omega) (by omega)
theorem seg_len (l : List UInt8) (at0 e : Nat) (h0 : at0 < e) (h1 : e ≤ l.length) : ((l.drop at0).take (e - at0)).length = e - at0 := by
  simp
  omega
theorem seg_read (l : List UInt8) (k at0 e : Nat) (hk : k = 1 ∨ k = 2) (h0 : at0 < e) (h1 : e ≤ l.length) (hc : cls (l[at0]'(by omega)).toNat = k) (hin : ∀ j (h : j < l.length), at0 ≤ j → j < e → tks k [] (l[j]).toNat = true)
    (hend : ∀ h : e < l.length, tks k [] (l[e]).toNat = false) : lexL 0 [] at0 at0 (l.drop at0) = shutP k ((l.drop at0).take (e - at0)) at0 (lexL 0 [] e e (l.drop e)) := by
  have hP := seg_piece l k at0 e hk h0 h1 hc hin
  have hs : l.drop at0 = (l.drop at0).take (e - at0) ++ l.drop e := by
    have h2 := (List.take_append_drop (e - at0) (l.drop at0)).symm
    rw [List.drop_drop] at h2
    have e2 : at0 + (e - at0) = e := by omega
    rw [e2] at h2
    exact h2
  have hr := hP.reads at0 (l.drop e) (fun c r hcr => by
    have hlt : e < l.length := by
      by_cases hlt : e < l.length
      · exact hlt
      · rw [List.drop_eq_nil_of_le (by omega)] at hcr
        cases hcr
    rw [drop_at l e hlt] at hcr
    injection hcr with h2 h3
    rw [← h2, tks_plain hk _ []]
    exact hend hlt)
  rw [← hs] at hr
  rw [hr, seg_len l at0 e h0 h1]
  have e3 : at0 + (e - at0) = e := by omega
  rw [e3]
/-- What digits say. -/
def dstep (a : Nat) (c : UInt8) : Nat := a * 10 + (c.toNat - 48)
def dval (acc : Nat) (l : List UInt8) : Nat := l.foldl dstep acc
theorem dval_cons (acc : Nat) (c : UInt8) (r : List UInt8) : dval acc (c :: r) = dval (acc * 10 + (c.toNat - 48)) r := by
  unfold dval
  rw [List.foldl_cons]
  rfl
theorem dval_nil (acc : Nat) : dval acc [] = acc := by
  unfold dval
  rw [List.foldl_nil]
def Digs (l : List UInt8) : Prop := ∀ c, c ∈ l → 48 ≤ c.toNat ∧ c.toNat ≤ 57
theorem dval_ge (acc : Nat) (l : List UInt8) : acc * 10 ^ l.length ≤ dval acc l := by
  induction l generalizing acc with
  | nil =>
    rw [List.length_nil, Nat.pow_zero, Nat.mul_one, dval_nil]
    exact Nat.le_refl _
  | cons c r ih =>
    rw [dval_cons, List.length_cons]
    refine Nat.le_trans ?_ (ih _)
    rw [Nat.pow_succ, Nat.mul_comm (10 ^ r.length) 10, ← Nat.mul_assoc]
    exact Nat.mul_le_mul_right _ (by omega)
theorem dval_mono (acc : Nat) (l : List UInt8) : acc ≤ dval acc l := by
  induction l generalizing acc with
  | nil =>
    rw [dval_nil]
    exact Nat.le_refl _
  | cons c r ih =>
    rw [dval_cons]
    exact Nat.le_trans (by omega) (ih _)
theorem dval_append (acc : Nat) (l m : List UInt8) : dval acc (l ++ m) = dval (dval acc l) m := by
  unfold dval
  rw [List.foldl_append]
theorem parse_ok (acc : Nat) (l : List UInt8) (hl : Digs l) (h : dval acc l < 18446744073709551616) : Lib.parseUint10 acc l = .ok (dval acc l) := by
  induction l generalizing acc with
  | nil =>
    rw [dval_nil]
    rfl
  | cons c r ih =>
    have hc := hl c (by simp)
    rw [dval_cons] at h ⊢
    have hm := dval_mono (acc * 10 + (c.toNat - 48)) r
    simp only [Lib.parseUint10]
    rw [if_pos hc, if_neg (by omega), if_neg (by omega)]
    exact ih _ (fun d hd => hl d (by simp [hd])) h
theorem parse_val (acc : Nat) (l : List UInt8) (hl : Digs l) (u : Nat) (h : Lib.parseUint10 acc l = .ok u) : u = dval acc l := by
  induction l generalizing acc with
  | nil =>
    simp only [Lib.parseUint10] at h
    injection h with h
    rw [dval_nil]
    exact h.symm
  | cons c r ih =>
    have hc := hl c (by simp)
    rw [dval_cons]
    simp only [Lib.parseUint10] at h
    rw [if_pos hc] at h
    split at h
    · cases h
    · split at h
      · cases h
      · exact ih _ (fun d hd => hl d (by simp [hd])) h
theorem atoi_digs {l : List UInt8} (hl : Digs l) (h0 : l ≠ []) : (dval 0 l < 9223372036854775808 → Lib.atoiAll l = .ok (dval 0 l : Nat)) ∧ (9223372036854775808 ≤ dval 0 l → ∀ v, Lib.atoiAll l ≠ .ok v) := by
  cases l with
  | nil => exact absurd rfl h0
  | cons c r =>
    have hc := hl c (by simp)
    have hne : ¬ (c.toNat = 43 ∨ c.toNat = 45) := by omega
    have hm : Lib.parseMag (c :: r) = Lib.parseUint10 0 (c :: r) := by
      unfold Lib.parseMag
      rw [if_neg (by simp)]
    constructor
    · intro h
      have hp := parse_ok 0 (c :: r) hl (by omega)
      unfold Lib.atoiAll
      simp only
      rw [if_neg hne, hm, hp]
      simp only
      rw [if_neg (by omega), if_neg (by omega), if_neg (by omega)]
    · intro h v hv
      unfold Lib.atoiAll at hv
      simp only at hv
      rw [if_neg hne, hm] at hv
      cases hp : Lib.parseUint10 0 (c :: r) with
      | ok u =>
        rw [hp] at hv
        simp only at hv
        have hu := parse_val 0 (c :: r) hl u hp
        rw [if_pos (by omega)] at hv
        cases hv
      | _ => rw [hp] at hv; cases hv
theorem numT_no {l : List UInt8} (h : ∀ v, Lib.atoiAll l ≠ .ok v) (a : Nat) : numT l a = .inl 111 := by
  unfold numT
  split
  · rename_i v hv
    exact absurd hv (h v)
  · rfl
theorem numT_lead {l : List UInt8} (h1 : l.head? = some 48) (h2 : 1 < l.length) (a : Nat) : numT l a = .inl 111 := by
  unfold numT
  have hne : l ≠ [48] := fun e => by rw [e] at h2; simp at h2
  split
  · rw [if_pos ⟨h1, hne⟩]
  · rfl
theorem numT_yes {l : List UInt8} (hl : Digs l) (h0 : l ≠ []) (h1 : l.head? ≠ some 48 ∨ l.length ≤ 1) (h2 : dval 0 l < 9223372036854775808) (a : Nat) : numT l a = .inr ⟨1, (dval 0 l : Nat), [], a⟩ := by
  unfold numT
  rw [(atoi_digs hl h0).1 h2]
  simp only
  rw [if_neg]
  rintro ⟨h3, h4⟩
  rcases h1 with h1 | h1
  · exact h1 h3
  · apply h4
    cases l with
    | nil => exact absurd rfl h0
    | cons c r =>
      simp at h1 h3
      rw [h1, h3]
theorem numT_long {l : List UInt8} (hl : Digs l) (h : 19 < l.length) (a : Nat) : numT l a = .inl 111 := by
  cases l with
  | nil => simp at h
  | cons c r =>
    by_cases hc : c = 48
    · exact numT_lead (by rw [hc]; rfl) (by omega) a
    · refine numT_no ((atoi_digs hl (by simp)).2 ?_) a
      have h1 := hl c (by simp)
      have h2 : 1 ≤ c.toNat - 48 := by
        by_cases e : c.toNat = 48
        · exact absurd (UInt8.toNat.inj e) hc
        · omega
      have h3 := dval_ge (0 * 10 + (c.toNat - 48)) r
      rw [dval_cons]
      have h4 : 10 ^ 19 ≤ 10 ^ r.length := Nat.pow_le_pow_right (by omega) (by simp at h; omega)
      have h5 : 1 * 10 ^ r.length ≤ (0 * 10 + (c.toNat - 48)) * 10 ^ r.length := Nat.mul_le_mul_right _ (by omega)
      have h6 : (10 : Nat) ^ 19 = 10000000000000000000 := by decide
      omega
end Go.Proofs.YtlmeonpdjcophaaDoor

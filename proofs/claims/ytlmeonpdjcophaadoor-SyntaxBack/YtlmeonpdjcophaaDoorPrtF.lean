/- What is printed of a tree is read as it: all trees. No program. -/
import Derived.Test.YtlmeonpdjcophaaDoorPrtB
import Derived.Test.YtlmeonpdjcophaaDoorSameA
namespace Go.Proofs.YtlmeonpdjcophaaDoor
set_option linter.unusedVariables false
set_option linter.unusedSimpArgs false

/-- What F lays is read as e at all rows up to ef; s1: where nothing goes on behind it. -/
def Rdb (e : Ex) (F : St → St) (ef : Nat) (s1 : Bool) : Prop :=
  ∃ U D Q us h t, Wt U D Q F ∧ Lx U us ∧ us = h :: t ∧ (h.t = [110, 111, 116] → ef ≤ 3) ∧ (h.t = [45] → ef ≤ 7) ∧ h.t ≠ [125] ∧
    (∀ p o q rest row, o + D ≤ 64 → q + Q ≤ 4 → 1 ≤ row → row ≤ ef → Sp (if s1 then 1 else row) rest → ∃ x, EvP row o q (us.map (mvT p) ++ rest) x rest ∧ sameE x e = true) ∧
    ((ef = 1 ∨ ef = 2 ∨ ef = 5 ∨ ef = 6) → ∀ p o q rest, o + D ≤ 64 → q + Q ≤ 4 → Sp (ef + 1) rest → ∃ x, sameE x e = true ∧ ∀ res, EvC ef o q x rest res → EvL ef o q (us.map (mvT p) ++ rest) res)
theorem rd_atom {e : Ex} {F : St → St} {s1 : Bool} {U : List UInt8} {D Q : Nat} {us t : List Tk} {h : Tk} (hw : Wt U D Q F) (hl : Lx U us) (hu : us = h :: t) (h1 : h.t ≠ [110, 111, 116]) (h2 : h.t ≠ [45]) (h3 : h.t ≠ [125])
    (hr : ∀ p o q rest, o + D ≤ 64 → q + Q ≤ 4 → (s1 = true → Sp 1 rest) → ∃ x, EvP 8 o q (us.map (mvT p) ++ rest) x rest ∧ sameE x e = true) : Rdb e F 8 s1 := by
  refine ⟨U, D, Q, us, h, t, hw, hl, hu, fun e => absurd e h1, fun e => absurd e h2, h3, fun p o q rest row ho hq r1 r8 hs => ?_, fun he => by omega⟩
  have hs1 : s1 = true → Sp 1 rest := fun e => by rw [e] at hs; exact hs
  have hsr : Sp row rest := by
    cases s1 with
    | true => exact Sp.up hs r1
    | false => exact hs
  obtain ⟨x, hx, hsm⟩ := hr p o q rest ho hq hs1
  refine ⟨x, ?_, hsm⟩
  subst hu
  have e1 : (h :: t).map (mvT p) ++ rest = mvT p h :: (t.map (mvT p) ++ rest) := rfl
  rw [e1] at hx ⊢
  exact ev_up_to (by omega) hx (fun _ => h1) (fun _ => h2) (8 - row) row (by omega) hsr
/-- In parentheses. -/
theorem rd_par {e : Ex} {F : St → St} {ef : Nat} {s1 : Bool} (h1 : 1 ≤ ef) (h : Rdb e F ef s1) : Rdb e (fun s => ((F (s.ent.lay [40])).lay [41]).lea) 8 false := by
  obtain ⟨U, D, Q, us, h0, t, hw, hl, hu, _, _, _, hr, _⟩ := h
  have w1 : Wt ([40] ++ U ++ [41]) (max (max 0 D) 0 + 1) (max (max 0 Q) 0) (fun s => ((F (s.ent.lay [40])).lay [41]).lea) := (((wt_lay [40]).comp hw).comp (wt_lay [41])).wrap
  have l1 : La ([40] ++ U ++ [41]) _ := ((la_sign 40 (by decide) (by decide) (by decide)).then hl).app (la_sign 41 (by decide) (by decide) (by decide)) ⟨41, [], rfl, by simp [sf]⟩
  refine rd_atom w1 l1.lx rfl (by decide) (by decide) (by decide) fun p o q rest ho hq _ => ?_
  have hd : max (max 0 D) 0 = D := by omega
  have hq' : max (max 0 Q) 0 = Q := by omega
  rw [hd] at ho
  rw [hq'] at hq
  have hsp : Sp 1 (mvT p (mvT ([40] ++ U).length ⟨4, 0, [41], 0⟩) :: rest) := ⟨_, _, rfl, fun k _ => by simp [mvT, opAt, opsL]⟩
  obtain ⟨x, hx, hsm⟩ := hr (p + 1) (o + 1) q _ 1 (by omega) hq (by omega) h1 (by cases s1 <;> exact hsp)
  refine ⟨x, ?_, hsm⟩
  have := ev_par (h := mvT p ⟨4, 0, [40], 0⟩) hx rfl rfl (by simp [mvT]) (by omega)
  have e1 : List.map (mvT p) ([⟨4, 0, [40], 0⟩] ++ us.map (mvT ([40] : List UInt8).length) ++ [(⟨4, 0, [41], 0⟩ : Tk)].map (mvT ([40] ++ U).length)) ++ rest = mvT p ⟨4, 0, [40], 0⟩ :: (us.map (mvT (p + 1)) ++ mvT p (mvT ([40] ++ U).length ⟨4, 0, [41], 0⟩) :: rest) := by
    rw [List.map_append, List.map_append, mvT_mvT]
    show _ ++ us.map (mvT (1 + p)) ++ _ ++ rest = _
    rw [Nat.add_comm 1 p]
    simp
  rw [e1]
  exact this
theorem num_zero {k n : Int} (h : numB k n = true) (h1 : k ≠ 1) (h2 : k ≠ 2) (h3 : k ≠ 3) (h20 : k ≠ 20) (h21 : k ≠ 21) : n = 0 := by
  simpa [numB, h1, h2, h3, h20, h21] using h
theorem nam_nil {k : Int} {nm : List UInt8} (h : namB k nm = true) (h4 : k ≠ 4) (h23 : k ≠ 23) (h21 : k ≠ 21) : nm = [] := by
  simpa [namB, h4, h23, h21] using h
theorem len_zero {f : Fs} (h : f.len = 0) : f = .nil := by
  cases f using Fs.on with
  | nil => rfl
  | cons k n nm a ks r => cases h
/-- The first of some kids. -/
theorem len_succ {f : Fs} {m : Nat} (h : f.len = m + 1) : ∃ (e : Ex) (r : Fs), f = (one e).app r ∧ r.len = m ∧ f.size = e.kids.size + r.size + 1 ∧ f = .cons e.k e.n e.nm e.a e.kids r := by
  cases f using Fs.on with
  | nil => cases h
  | cons k n nm a ks r => exact ⟨⟨k, n, nm, a, ks⟩, r, rfl, by simpa [Fs.len] using h, rfl, rfl⟩
theorem rd_int {e : Ex} (hk : e.k = 1) (h : okP e.k e.n e.nm e.kids.len) : Rdb e (fun s => s.lay (Go.Lib.itoa e.n)) 8 false := by
  obtain ⟨h1, h2, h3, _, n1, n2⟩ := h
  rw [hk] at h1 h2 h3
  have hn : 0 ≤ e.n := by simpa [numB] using h1
  have hm : e.nm = [] := nam_nil h2 (by decide) (by decide) (by decide)
  have hz : e.kids = .nil := len_zero (by simpa [kidB] using h3)
  refine rd_atom (wt_lay _) (lx_num hn n2) rfl (by simp) (by simp) (by simp) fun p o q rest _ _ _ => ⟨_, ev_num o q _ rest rfl, ?_⟩
  simp [sameE, hk, hm, hz, mvT, sameF]
theorem rd_bool {e : Ex} (hk : e.k = 2) (h : okP e.k e.n e.nm e.kids.len) : Rdb e (fun s => s.lay (Go.Lib.formatBool (e.n == 1))) 8 false := by
  obtain ⟨h1, h2, h3, _, n1, n2⟩ := h
  rw [hk] at h1 h2 h3
  have hn : e.n = 0 ∨ e.n = 1 := by simpa [numB] using h1
  have hm : e.nm = [] := nam_nil h2 (by decide) (by decide) (by decide)
  have hz : e.kids = .nil := len_zero (by simpa [kidB] using h3)
  rcases hn with hn | hn
  · have ef : Go.Lib.formatBool (e.n == 1) = [102, 97, 108, 115, 101] := by rw [hn]; rfl
    rw [ef]
    refine rd_atom (wt_lay _) (lx_word (by decide)) rfl (by decide) (by decide) (by decide) fun p o q rest _ _ _ => ⟨_, ev_false o q _ rest rfl rfl, ?_⟩
    simp [sameE, hk, hm, hz, hn, sameF]
  · have ef : Go.Lib.formatBool (e.n == 1) = [116, 114, 117, 101] := by rw [hn]; rfl
    rw [ef]
    refine rd_atom (wt_lay _) (lx_word (by decide)) rfl (by decide) (by decide) (by decide) fun p o q rest _ _ _ => ⟨_, ev_true o q _ rest rfl rfl, ?_⟩
    simp [sameE, hk, hm, hz, hn, sameF]
theorem rd_vertex {e : Ex} (hk : e.k = 3) (h : okP e.k e.n e.nm e.kids.len) : Rdb e (fun s => (s.lay [64]).lay (Go.Lib.itoa e.n)) 8 false := by
  obtain ⟨h1, h2, h3, _, n1, n2⟩ := h
  rw [hk] at h1 h2 h3
  have hn : 0 ≤ e.n := by simpa [numB] using h1
  have hm : e.nm = [] := nam_nil h2 (by decide) (by decide) (by decide)
  have hz : e.kids = .nil := len_zero (by simpa [kidB] using h3)
  refine rd_atom ((wt_lay [64]).comp (wt_lay _)) ((la_sign 64 (by decide) (by decide) (by decide)).then (lx_num hn n2)) rfl (by decide) (by decide) (by decide) fun p o q rest _ _ _ => ⟨_, ev_vertex o q _ _ rest rfl rfl rfl, ?_⟩
  simp [sameE, hk, hm, hz, mvT, sameF]
theorem name_ne {t : List UInt8} (h : nameB t = true) : t ≠ [110, 111, 116] ∧ t ≠ [45] ∧ t ≠ [125] := by
  refine ⟨fun e => ?_, fun e => ?_, fun e => ?_⟩ <;> (subst e; revert h; decide)
theorem rd_name {e : Ex} (hk : e.k = 4) (h : okP e.k e.n e.nm e.kids.len) : Rdb e (fun s => s.lay e.nm) 8 false := by
  obtain ⟨h1, h2, h3, _, n1, n2⟩ := h
  rw [hk] at h1 h2 h3
  have hn : e.n = 0 := num_zero h1 (by decide) (by decide) (by decide) (by decide) (by decide)
  have hm : nameB e.nm = true := by simpa [namB] using h2
  have hz : e.kids = .nil := len_zero (by simpa [kidB] using h3)
  have hne := name_ne hm
  refine rd_atom (wt_lay _) (lx_name hm) rfl hne.1 hne.2.1 hne.2.2 fun p o q rest _ _ _ => ⟨_, ev_name o q _ rest rfl, ?_⟩
  simp [sameE, hk, hn, hz, mvT, sameF]
theorem same_one {x y : Ex} (h : sameE x y = true) (r r' : Fs) (hr : sameF r r' = true) : sameF ((one x).app r) ((one y).app r') = true := by
  show (x.k == y.k && x.n == y.n && x.nm == y.nm && sameF x.kids y.kids && sameF r r') = true
  unfold sameE at h
  rw [h, hr]
  rfl
/-- 'not'. -/
theorem rd_not {e kid : Ex} {ef : Nat} (hk : e.k = 7) (h : okP e.k e.n e.nm e.kids.len) (hkid : e.kids = one kid) (h3 : 3 ≤ ef) (R : Rdb kid (wEx kid 3) ef false) : Rdb e (fun s => (wEx kid 3 (s.ent.lay [110, 111, 116, 32])).lea) 3 false := by
  obtain ⟨h1, h2, _, _, n1, n2⟩ := h
  rw [hk] at h1 h2
  have hn : e.n = 0 := num_zero h1 (by decide) (by decide) (by decide) (by decide) (by decide)
  have hm : e.nm = [] := nam_nil h2 (by decide) (by decide) (by decide)
  obtain ⟨U, D, Q, us, h0, t, hw, hl, hu, _, _, _, hr, _⟩ := R
  have w1 : Wt ([110, 111, 116, 32] ++ U) (max 0 D + 1) (max 0 Q) (fun s => (wEx kid 3 (s.ent.lay [110, 111, 116, 32])).lea) := ((wt_lay _).comp hw).wrap
  have l0 : La ([110, 111, 116] ++ [32]) _ := (lx_word (u := [110, 111, 116]) (by decide)).app la_blank ⟨32, [], rfl, by simp [sf]⟩
  have l1 : Lx ([110, 111, 116] ++ [32] ++ U) _ := l0.then hl
  refine ⟨_, _, _, _, ⟨3, 0, [110, 111, 116], 0⟩, us.map (mvT 4), w1, l1, rfl, fun _ => by omega, fun e => by simp at e, by decide, fun p o q rest row ho hq r1 r3 hs => ?_, fun he => by omega⟩
  have hd : max 0 D = D := by omega
  have hq' : max 0 Q = Q := by omega
  rw [hd] at ho
  rw [hq'] at hq
  have hs : Sp row rest := hs
  obtain ⟨x, hx, hsm⟩ := hr (p + 4) (o + 1) q rest 3 (by omega) hq (by omega) h3 (hs.up r3)
  have hx2 := ev_not (h := mvT p ⟨3, 0, [110, 111, 116], 0⟩) hx rfl (by omega)
  refine ⟨⟨7, 0, [], (mvT p ⟨3, 0, [110, 111, 116], 0⟩).a, one x⟩, ?_, ?_⟩
  · have e1 : List.map (mvT p) ([⟨3, 0, [110, 111, 116], 0⟩] ++ ([] : List Tk).map (mvT ([110, 111, 116] : List UInt8).length) ++ us.map (mvT ([110, 111, 116] ++ [32] : List UInt8).length)) ++ rest = mvT p ⟨3, 0, [110, 111, 116], 0⟩ :: (us.map (mvT (p + 4)) ++ rest) := by
      rw [List.map_append, mvT_mvT]
      show _ ++ us.map (mvT (4 + p)) ++ rest = _
      rw [Nat.add_comm 4 p]
      simp
    rw [e1]
    exact ev_up_to (by omega) hx2 (fun h => by omega) (fun h => by omega) (3 - row) row (by omega) hs
  · simp only [sameE, hk, hn, hm, hkid]
    have := same_one hsm .nil .nil rfl
    show (true && true && true && sameF (one x) (one kid)) = true
    exact this
/-- '-' of one kid. -/
theorem rd_neg {e kid : Ex} {ef : Nat} (hk : e.k = 6) (h : okP e.k e.n e.nm e.kids.len) (hkid : e.kids = one kid) (h3 : 7 ≤ ef) (R : Rdb kid (wEx kid 7) ef false) : Rdb e (fun s => (wEx kid 7 (s.ent.lay [45])).lea) 7 false := by
  obtain ⟨h1, h2, _, _, n1, n2⟩ := h
  rw [hk] at h1 h2
  have hn : e.n = 0 := num_zero h1 (by decide) (by decide) (by decide) (by decide) (by decide)
  have hm : e.nm = [] := nam_nil h2 (by decide) (by decide) (by decide)
  obtain ⟨U, D, Q, us, h0, t, hw, hl, hu, _, _, _, hr, _⟩ := R
  have w1 : Wt ([45] ++ U) (max 0 D + 1) (max 0 Q) (fun s => (wEx kid 7 (s.ent.lay [45])).lea) := ((wt_lay _).comp hw).wrap
  have l1 : Lx ([45] ++ U) _ := (la_sign 45 (by decide) (by decide) (by decide)).then hl
  refine ⟨_, _, _, _, ⟨4, 0, [45], 0⟩, us.map (mvT 1), w1, l1, rfl, fun e => by simp at e, fun _ => by omega, by decide, fun p o q rest row ho hq r1 r3 hs => ?_, fun he => by omega⟩
  have hd : max 0 D = D := by omega
  have hq' : max 0 Q = Q := by omega
  rw [hd] at ho
  rw [hq'] at hq
  have hs : Sp row rest := hs
  obtain ⟨x, hx, hsm⟩ := hr (p + 1) (o + 1) q rest 7 (by omega) hq (by omega) h3 (hs.up r3)
  have hx2 := ev_neg (h := mvT p ⟨4, 0, [45], 0⟩) hx rfl (by omega)
  refine ⟨⟨6, 0, [], (mvT p ⟨4, 0, [45], 0⟩).a, one x⟩, ?_, ?_⟩
  · have e1 : List.map (mvT p) ([⟨4, 0, [45], 0⟩] ++ us.map (mvT ([45] : List UInt8).length)) ++ rest = mvT p ⟨4, 0, [45], 0⟩ :: (us.map (mvT (p + 1)) ++ rest) := by
      rw [List.map_append, mvT_mvT]
      show _ ++ us.map (mvT (1 + p)) ++ rest = _
      rw [Nat.add_comm 1 p]
      simp
    rw [e1]
    exact ev_up_to (by omega) hx2 (fun h e => by simp [mvT] at e) (fun h => by omega) (7 - row) row (by omega) hs
  · simp only [sameE, hk, hn, hm, hkid]
    have := same_one hsm .nil .nil rfl
    show (true && true && true && sameF (one x) (one kid)) = true
    exact this
end Go.Proofs.YtlmeonpdjcophaaDoor
namespace Go.Proofs.YtlmeonpdjcophaaDoor
set_option linter.unusedVariables false
set_option linter.unusedSimpArgs false

theorem op_all (z : List UInt8 × Nat × Nat × Nat × Nat) (hz : z ∈ opsL) : opAt z.1 z.2.2.1 = some z ∧ (∀ row, z.2.2.1 + 1 ≤ row → opAt z.1 row = none) ∧ z.2.2.2.2 = z.2.2.1 + 1 ∧ (z.2.2.1 = 4 ∧ z.2.2.2.1 = 5 ∨ (z.2.2.1 = 1 ∨ z.2.2.1 = 2 ∨ z.2.2.1 = 5 ∨ z.2.2.1 = 6) ∧ z.2.2.2.1 = z.2.2.1) := by
  have none7 : ∀ (t : List UInt8) (r : Nat), (opsL.all fun o => !(o.1 == t) || decide (o.2.2.1 ≤ r)) = true → ∀ row, r + 1 ≤ row → opAt t row = none := by
    intro t r h row h1
    unfold opAt
    rw [List.find?_eq_none]
    intro o ho hp
    have := List.all_eq_true.1 h o ho
    simp only [Bool.and_eq_true, beq_iff_eq] at hp
    simp [hp.1] at this
    omega
  simp only [opsL, List.mem_cons, List.not_mem_nil, or_false] at hz
  rcases hz with rfl | rfl | rfl | rfl | rfl | rfl | rfl | rfl | rfl | rfl | rfl
  all_goals exact ⟨rfl, none7 _ _ (by decide), rfl, by decide⟩
/-- A sign between two blanks. -/
theorem la_op (z : List UInt8 × Nat × Nat × Nat × Nat) (hz : z ∈ opsL) : ∃ kk, La ([32] ++ z.1 ++ [32]) [⟨kk, 0, z.1, 1⟩] := by
  have sign : ∀ c : UInt8, blk c.toNat = false → cls c.toNat = 3 → (c ≠ 33 ∧ c ≠ 60) → La ([32] ++ [c] ++ [32]) [⟨4, 0, [c], 1⟩] := fun c h0 h3 hn => (la_blank.app (la_sign c h0 h3 hn)).app la_blank
  have word : ∀ u : List UInt8, wordB u = true → La ([32] ++ u ++ [32]) [⟨3, 0, u, 1⟩] := fun u h => (la_blank.then (lx_word h)).app la_blank ⟨32, [], rfl, by simp [sf]⟩
  have two : ∀ (c : UInt8), (c = 33 ∨ c = 60) → La ([c, 61] ++ [32]) [⟨4, 0, [c, 61], 0⟩] := by
    intro c hc q m
    have h0 : blk c.toNat = false := by rcases hc with rfl | rfl <;> rfl
    have h3 : cls c.toNat = 3 := by rcases hc with rfl | rfl <;> rfl
    show lexL 0 [] q q (c :: 61 :: 32 :: m) = _
    rw [lexL_no (k := 0) (by exact h0), h3]
    show lexL 3 [c] q (q + 1) (61 :: 32 :: m) = _
    rw [lexL_yes (k := 3) (by rcases hc with rfl | rfl <;> rfl), lexL_shut (sf_tks (by simp [sf]) 3 _ (by decide))]
    have hb : lexL 0 [] (q + 1 + 1) (q + 1 + 1) (32 :: m) = lexL 0 [] (q + 3) (q + 3) m := by
      rw [lexL_yes (k := 0) (by rfl)]
      exact lexL_blank _ _ _ _ _ _
    rw [hb]
    show shutP 3 [c, 61] q _ = _
    simp [shutP, ptok, sgnT, preR, mvT]
  have less : La ([60] ++ [32]) [⟨4, 0, [60], 0⟩] := by
    intro q m
    show lexL 0 [] q q (60 :: 32 :: m) = _
    rw [lexL_no (k := 0) (by rfl), show cls (60 : UInt8).toNat = 3 from rfl]
    show lexL 3 [60] q (q + 1) (32 :: m) = _
    rw [lexL_shut (sf_tks (by simp [sf]) 3 _ (by decide))]
    have hb : lexL 0 [] (q + 1) (q + 1) (32 :: m) = lexL 0 [] (q + 2) (q + 2) m := by
      rw [lexL_yes (k := 0) (by rfl)]
      exact lexL_blank _ _ _ _ _ _
    rw [hb]
    show shutP 3 [60] q _ = _
    simp [shutP, ptok, sgnT, preR, mvT]
  simp only [opsL, List.mem_cons, List.not_mem_nil, or_false] at hz
  rcases hz with rfl | rfl | rfl | rfl | rfl | rfl | rfl | rfl | rfl | rfl | rfl
  · exact ⟨3, word _ (by decide)⟩
  · exact ⟨3, word _ (by decide)⟩
  · exact ⟨4, sign 61 (by decide) (by decide) (by decide)⟩
  · exact ⟨4, la_blank.app (two 33 (.inl rfl))⟩
  · exact ⟨4, la_blank.app less⟩
  · exact ⟨4, la_blank.app (two 60 (.inr rfl))⟩
  · exact ⟨4, sign 43 (by decide) (by decide) (by decide)⟩
  · exact ⟨4, sign 45 (by decide) (by decide) (by decide)⟩
  · exact ⟨4, sign 42 (by decide) (by decide) (by decide)⟩
  · exact ⟨4, sign 47 (by decide) (by decide) (by decide)⟩
  · exact ⟨4, sign 37 (by decide) (by decide) (by decide)⟩
theorem rd_op {e l r : Ex} {efl efr : Nat} (z : List UInt8 × Nat × Nat × Nat × Nat) (hz : z ∈ opsL) (hk : e.k = (z.2.1 : Nat)) (hn : e.n = 0) (hm : e.nm = []) (hkid : e.kids = (one l).app (one r)) (hl : z.2.2.2.1 ≤ efl) (hr : z.2.2.2.2 ≤ efr)
    (RL : Rdb l (wEx l z.2.2.2.1) efl false) (RR : Rdb r (wEx r z.2.2.2.2) efr false) : Rdb e (fun s => wEx r z.2.2.2.2 ((wEx l z.2.2.2.1 s).lay ([32] ++ z.1 ++ [32]))) z.2.2.1 false := by
  obtain ⟨o1, o2, o3, o4⟩ := op_all z hz
  obtain ⟨kk, lo⟩ := la_op z hz
  obtain ⟨tx, k, R, lf, rg⟩ := z
  simp only at *
  subst o3
  obtain ⟨Ul, Dl, Ql, ul, hl0, tl, wl, xl, hul, c1, c2, c3, rl, cl⟩ := RL
  obtain ⟨Ur, Dr, Qr, ur, hr0, tr, wr, xr, hur, _, _, _, rr, _⟩ := RR
  have hRe : R ≤ efl := by rcases o4 with ⟨_, h⟩ | ⟨_, h⟩ <;> omega
  have w1 : Wt (Ul ++ ([32] ++ tx ++ [32]) ++ Ur) (max (max Dl 0) Dr) (max (max Ql 0) Qr) (fun s => wEx r (R + 1) ((wEx l lf s).lay ([32] ++ tx ++ [32]))) := (wl.comp (wt_lay _)).comp wr
  have l1 := (xl.app lo ⟨32, tx ++ [32], by simp, by simp [sf]⟩).then xr
  have hD : max (max Dl 0) Dr = max Dl Dr := by omega
  have hQ : max (max Ql 0) Qr = max Ql Qr := by omega
  rw [hD, hQ] at w1
  -- the tokens, moved
  have et : ∀ p rest, List.map (mvT p) (ul ++ [(⟨kk, 0, tx, 1⟩ : Tk)].map (mvT Ul.length) ++ ur.map (mvT (Ul ++ ([32] ++ tx ++ [32])).length)) ++ rest = ul.map (mvT p) ++ (mvT p (mvT Ul.length ⟨kk, 0, tx, 1⟩) :: (ur.map (mvT (p + (Ul ++ ([32] ++ tx ++ [32])).length)) ++ rest)) := by
    intro p rest
    have e3 : (ur.map (mvT (Ul ++ ([32] ++ tx ++ [32])).length)).map (mvT p) = ur.map (mvT (p + (Ul ++ ([32] ++ tx ++ [32])).length)) := by rw [mvT_mvT, Nat.add_comm]
    rw [List.map_append, List.map_append, e3]
    simp
  have hsm : ∀ (xl' xr' : Ex) (aa : Int), sameE xl' l = true → sameE xr' r = true → sameE ⟨(k : Nat), 0, [], aa, (one xl').snoc xr'⟩ e = true := by
    intro xl' xr' aa s1 s2
    have h2 := same_one s1 (one xr') (one r) (same_one s2 .nil .nil rfl)
    simp only [sameE, hk, hn, hm, hkid]
    show (((k : Nat) : Int) == ((k : Nat) : Int) && true && true && sameF ((one xl').app (one xr')) ((one l).app (one r))) = true
    rw [h2]
    simp
  -- the left part, in a chain
  have left : (R = 1 ∨ R = 2 ∨ R = 5 ∨ R = 6 ∨ R = 4) → ∀ p o q rest, o + max Dl Dr ≤ 64 → q + max Ql Qr ≤ 4 → ∃ x, sameE x l = true ∧ ∀ res, EvC R o q x (mvT p (mvT Ul.length ⟨kk, 0, tx, 1⟩) :: rest) res → EvL R o q (ul.map (mvT p) ++ (mvT p (mvT Ul.length ⟨kk, 0, tx, 1⟩) :: rest)) res := by
    intro hR p o q rest ho hq
    have sp : Sp (R + 1) (mvT p (mvT Ul.length ⟨kk, 0, tx, 1⟩) :: rest) := ⟨_, _, rfl, fun k hk => o2 k hk⟩
    by_cases he : efl = R
    · subst he
      rcases o4 with ⟨h4, h5⟩ | ⟨h4, h5⟩
      · omega
      · exact cl h4 p o q _ (by omega) (by omega) sp
    · obtain ⟨x, hx, hs⟩ := rl p o q _ (R + 1) (by omega) (by omega) (by omega) (by omega) sp
      exact ⟨x, hs, fun res hc => evL_of hx hc⟩
  have hR' : R = 1 ∨ R = 2 ∨ R = 5 ∨ R = 6 ∨ R = 4 := by rcases o4 with ⟨h, _⟩ | ⟨h, _⟩ <;> omega
  refine ⟨_, _, _, _, hl0, tl ++ [(⟨kk, 0, tx, 1⟩ : Tk)].map (mvT Ul.length) ++ ur.map (mvT (Ul ++ ([32] ++ tx ++ [32])).length), w1, l1, by rw [hul]; rfl, fun h => by have := c1 h; omega, fun h => by omega, c3, fun p o q rest row ho hq r1 rR hs => ?_, fun hR p o q rest ho hq hs => ?_⟩
  · have hs : Sp row rest := hs
    rw [et]
    obtain ⟨xr', hxr, hsr⟩ := rr (p + (Ul ++ ([32] ++ tx ++ [32])).length) o q rest (R + 1) (by omega) (by omega) (by omega) hr (show Sp (R + 1) rest from hs.up (by omega))
    obtain ⟨xl', hsl, hxl⟩ := left hR' p o q (ur.map (mvT (p + (Ul ++ ([32] ++ tx ++ [32])).length)) ++ rest) ho hq
    refine ⟨⟨(k : Nat), 0, [], ((mvT p (mvT Ul.length ⟨kk, 0, tx, 1⟩)).a : Nat), (one xl').snoc xr'⟩, ?_, hsm _ _ _ hsl hsr⟩
    have hC : EvC R o q xl' (mvT p (mvT Ul.length ⟨kk, 0, tx, 1⟩) :: (ur.map (mvT (p + (Ul ++ ([32] ++ tx ++ [32])).length)) ++ rest)) (.ok ⟨(k : Nat), 0, [], ((mvT p (mvT Ul.length ⟨kk, 0, tx, 1⟩)).a : Nat), (one xl').snoc xr'⟩ rest) := by
      rcases o4 with ⟨h4, h5⟩ | ⟨h4, h5⟩
      · exact ev_cmp (x := mvT p (mvT Ul.length ⟨kk, 0, tx, 1⟩)) o1 hxr (by omega)
      · exact ev_op (x := mvT p (mvT Ul.length ⟨kk, 0, tx, 1⟩)) o1 hxr (by omega) (ev_stop (hs.up (by omega)))
    have hP := evP_of_L (hxl _ hC) (by omega) (by omega) (by omega)
    rw [hul] at hP ⊢
    exact ev_up_to (by omega) hP (fun h3 h => by have := c1 h; omega) (fun h => by omega) (R - row) row (by omega) hs
  · rw [et]
    obtain ⟨xr', hxr, hsr⟩ := rr (p + (Ul ++ ([32] ++ tx ++ [32])).length) o q rest (R + 1) (by omega) (by omega) (by omega) hr hs
    obtain ⟨xl', hsl, hxl⟩ := left hR' p o q (ur.map (mvT (p + (Ul ++ ([32] ++ tx ++ [32])).length)) ++ rest) ho hq
    refine ⟨⟨(k : Nat), 0, [], ((mvT p (mvT Ul.length ⟨kk, 0, tx, 1⟩)).a : Nat), (one xl').snoc xr'⟩, hsm _ _ _ hsl hsr, fun res hC => hxl res ?_⟩
    rcases o4 with ⟨h4, h5⟩ | ⟨h4, h5⟩
    · omega
    · exact ev_op (x := mvT p (mvT Ul.length ⟨kk, 0, tx, 1⟩)) o1 hxr (by omega) hC
/-- More parts of a list, each behind a comma. -/
def Rdl (r : Fs) : Prop := ∃ U D Q us, (∀ i, 1 ≤ i → Wt U D Q (fun s => wFs r comS i s)) ∧ Lx U us ∧ (U = [] ∨ ∃ c t, U = c :: t ∧ sf c) ∧ (us = [] ∨ ∃ t, us = ⟨4, 0, [44], 0⟩ :: t) ∧
  ∀ p o q acc g t, o + D ≤ 64 → q + Q ≤ 4 → Sp 1 (g :: t) → g.t ≠ [44] → ∃ X, sameF X r = true ∧ EvA r.len o q acc (us.map (mvT p) ++ g :: t) (acc.app X) (g :: t) ∧ EvM o q acc (us.map (mvT p) ++ g :: t) (acc.app X) (g :: t)
theorem app_nil2 : ∀ (x : Fs), x.app .nil = x
  | ⟨none⟩ => rfl
  | ⟨some ⟨k, n, nm, a, ks, r⟩⟩ => by
    have := app_nil2 r
    show Fs.cons k n nm a ks (r.app .nil) = _
    rw [this]
theorem rdl_nil : Rdl .nil := by
  refine ⟨[], 0, 0, [], fun i _ => wt_id, la_nil.lx, .inl rfl, .inl rfl, fun p o q acc g t _ _ _ hg => ⟨.nil, rfl, ?_, ?_⟩⟩
  · rw [app_nil2]; exact evA_nil _ _ _ _
  · rw [app_nil2]; exact evM_nil hg
theorem rdl_cons {e : Ex} {r : Fs} {ef : Nat} {s1 : Bool} (h1 : 1 ≤ ef) (R : Rdb e (wEx e 0) ef s1) (L : Rdl r) : Rdl (.cons e.k e.n e.nm e.a e.kids r) := by
  obtain ⟨Ue, De, Qe, ue, he0, te, we, xe, hue, _, _, _, re, _⟩ := R
  obtain ⟨Ur, Dr, Qr, ur, wr, xr, fr, gr, rr⟩ := L
  have lc : La ([44] ++ [32]) [⟨4, 0, [44], 0⟩] := (la_sign 44 (by decide) (by decide) (by decide)).app la_blank
  refine ⟨[44] ++ [32] ++ Ue ++ Ur, max (max 0 De) Dr, max (max 0 Qe) Qr, _, fun i hi => ?_, (lc.then xe).more xr fr, .inr ⟨44, [32] ++ Ue ++ Ur, rfl, by simp [sf]⟩, .inr ⟨_, rfl⟩, ?_⟩
  · have hf : (fun s => wFs (.cons e.k e.n e.nm e.a e.kids r) comS i s) = fun s => wFs r comS (i + 1) (wEx e 0 (s.lay ([44] ++ [32]))) := by
      funext s
      show wFs r comS (i + 1) (wE e.k e.n e.nm (comS i).2 _ (s.lay (comS i).1)) = _
      have h0 : i ≠ 0 := by omega
      simp only [comS, h0, if_false]
      rfl
    rw [hf]
    exact ((wt_lay _).comp we).comp (wr (i + 1) (by omega))
  · intro p o q acc g t ho hq hs hg
    have et : List.map (mvT p) ([(⟨4, 0, [44], 0⟩ : Tk)] ++ ue.map (mvT ([44] ++ [32] : List UInt8).length) ++ ur.map (mvT ([44] ++ [32] ++ Ue).length)) ++ g :: t = mvT p ⟨4, 0, [44], 0⟩ :: (ue.map (mvT (p + 2)) ++ (ur.map (mvT (p + ([44] ++ [32] ++ Ue).length)) ++ g :: t)) := by
      rw [List.map_append, List.map_append, mvT_mvT, mvT_mvT, Nat.add_comm _ p]
      show _ ++ _ ++ ur.map (mvT (([44] ++ [32] ++ Ue).length + p)) ++ _ = _
      rw [Nat.add_comm _ p]
      simp
    rw [et]
    have sp : Sp 1 (ur.map (mvT (p + ([44] ++ [32] ++ Ue).length)) ++ g :: t) := by
      rcases gr with rfl | ⟨t', rfl⟩
      · exact hs
      · exact ⟨_, _, rfl, fun k _ => by simp [mvT, opAt, opsL]⟩
    obtain ⟨x, hx, hsx⟩ := re (p + 2) o q _ 1 (by omega) (by omega) (by omega) h1 (by cases s1 <;> exact sp)
    obtain ⟨X, hX, hA, hM⟩ := rr (p + ([44] ++ [32] ++ Ue).length) o q (acc.snoc x) g t (by omega) (by omega) hs hg
    have ea : (acc.snoc x).app X = acc.app ((one x).app X) := by unfold Fs.snoc; rw [Fs.app_assoc]
    rw [ea] at hA hM
    exact ⟨(one x).app X, same_one hsx X r hX, evA_cons hx hA rfl, evM_cons hx hM rfl⟩
/-- The parts of a list. -/
def Rdf (f : Fs) : Prop := ∃ U D Q us h t, Wt U D Q (fun s => wFs f comS 0 s) ∧ Lx U us ∧ us = h :: t ∧ h.t ≠ [125] ∧
  ∀ p o q g t', o + D ≤ 64 → q + Q ≤ 4 → Sp 1 (g :: t') → g.t ≠ [44] → ∃ x X r1, sameF ((one x).app X) f = true ∧ EvP 1 o q (us.map (mvT p) ++ g :: t') x r1 ∧ EvA (f.len - 1) o q (one x) r1 ((one x).app X) (g :: t') ∧ EvM o q (one x) r1 ((one x).app X) (g :: t')
theorem rdf_of {e : Ex} {r : Fs} {ef : Nat} {s1 : Bool} (h1 : 1 ≤ ef) (R : Rdb e (wEx e 0) ef s1) (L : Rdl r) : Rdf (.cons e.k e.n e.nm e.a e.kids r) := by
  obtain ⟨Ue, De, Qe, ue, he0, te, we, xe, hue, _, _, h125, re, _⟩ := R
  obtain ⟨Ur, Dr, Qr, ur, wr, xr, fr, gr, rr⟩ := L
  refine ⟨Ue ++ Ur, max De Dr, max Qe Qr, _, he0, te ++ ur.map (mvT Ue.length), ?_, xe.more xr fr, by rw [hue]; rfl, h125, ?_⟩
  · have hf : (fun s => wFs (.cons e.k e.n e.nm e.a e.kids r) comS 0 s) = fun s => wFs r comS 1 (wEx e 0 s) := by
      funext s
      show wFs r comS 1 (wE e.k e.n e.nm (comS 0).2 _ (s.lay (comS 0).1)) = _
      have h2 : s.lay (comS 0).1 = s := by simp [comS, St.lay]
      rw [h2]
      rfl
    rw [hf]
    exact we.comp (wr 1 (by omega))
  · intro p o q g t' ho hq hs hg
    have et : List.map (mvT p) (ue ++ ur.map (mvT Ue.length)) ++ g :: t' = ue.map (mvT p) ++ (ur.map (mvT (p + Ue.length)) ++ g :: t') := by
      rw [List.map_append, mvT_mvT, Nat.add_comm _ p, List.append_assoc]
    rw [et]
    have sp : Sp 1 (ur.map (mvT (p + Ue.length)) ++ g :: t') := by
      rcases gr with rfl | ⟨t2, rfl⟩
      · exact hs
      · exact ⟨_, _, rfl, fun k _ => by simp [mvT, opAt, opsL]⟩
    obtain ⟨x, hx, hsx⟩ := re p o q _ 1 (by omega) (by omega) (by omega) h1 (by cases s1 <;> exact sp)
    obtain ⟨X, hX, hA, hM⟩ := rr (p + Ue.length) o q (one x) g t' (by omega) (by omega) hs hg
    exact ⟨x, X, _, same_one hsx X r hX, hx, by simpa [Fs.len] using hA, hM⟩
end Go.Proofs.YtlmeonpdjcophaaDoor
namespace Go.Proofs.YtlmeonpdjcophaaDoor
set_option linter.unusedVariables false
set_option linter.unusedSimpArgs false

theorem word_tok {u : List UInt8} (h : wordB u = true) : u ≠ [] := by
  intro e
  subst e
  revert h
  decide
/-- A list between two brackets. -/
theorem rd_args {f : Fs} (R : Rdf f) : ∃ U D Q us, Wt U (D + 1) Q (fun s => wList [40] [41] (fun g s => wFs f g 0 s) s) ∧ La U us ∧ (∃ t, us = ⟨4, 0, [40], 0⟩ :: t ∧ ∃ r, U = 40 :: r) ∧
    ∀ p o q rest, o + (D + 1) ≤ 64 → q + Q ≤ 4 → ∃ ks, sameF ks f = true ∧ ∃ N, ∀ n, N ≤ n → argsR (partF n) (f.len - 1 + 1) o q (us.map (mvT p) ++ rest) = .ok ks rest := by
  obtain ⟨U, D, Q, us, h0, t, hw, hl, hu, _, hr⟩ := R
  have w1 : Wt ([40] ++ U ++ [41]) (max (max 0 D) 0 + 1) (max (max 0 Q) 0) (fun s => wList [40] [41] (fun g s => wFs f g 0 s) s) := (((wt_lay [40]).comp hw).comp (wt_lay [41])).wrap
  have l1 : La ([40] ++ U ++ [41]) _ := ((la_sign 40 (by decide) (by decide) (by decide)).then hl).app (la_sign 41 (by decide) (by decide) (by decide)) ⟨41, [], rfl, by simp [sf]⟩
  have hd : max (max 0 D) 0 = D := by omega
  have hq' : max (max 0 Q) 0 = Q := by omega
  rw [hd, hq'] at w1
  refine ⟨_, D, Q, _, w1, l1, ⟨_, rfl, _, rfl⟩, fun p o q rest ho hq => ?_⟩
  have hsp : Sp 1 (mvT p (mvT ([40] ++ U).length ⟨4, 0, [41], 0⟩) :: rest) := ⟨_, _, rfl, fun k _ => by simp [mvT, opAt, opsL]⟩
  obtain ⟨x, X, r1, hs, hx, hA, _⟩ := hr (p + 1) (o + 1) q _ rest (by omega) hq hsp (by simp [mvT])
  refine ⟨_, hs, ?_⟩
  have e1 : List.map (mvT p) ([⟨4, 0, [40], 0⟩] ++ us.map (mvT ([40] : List UInt8).length) ++ [(⟨4, 0, [41], 0⟩ : Tk)].map (mvT ([40] ++ U).length)) ++ rest = mvT p ⟨4, 0, [40], 0⟩ :: (us.map (mvT (p + 1)) ++ mvT p (mvT ([40] ++ U).length ⟨4, 0, [41], 0⟩) :: rest) := by
    rw [List.map_append, List.map_append, mvT_mvT]
    show _ ++ us.map (mvT (1 + p)) ++ _ ++ rest = _
    rw [Nat.add_comm 1 p]
    simp
  rw [e1]
  exact ev_args (by omega) hx (by simpa using hA) rfl (by simp [mvT]) (by omega)
theorem call_all : ∀ z ∈ callsL, callAt z.1 = some z ∧ wordB z.1 = true ∧ 1 ≤ z.2.2 ∧ z.1 ≠ [110, 111, 116] ∧ z.1 ≠ [45] ∧ z.1 ≠ [125] := by decide
theorem quant_all : ∀ z ∈ quantsL, quantAt z.1 = some z ∧ wordB z.1 = true ∧ z.1 ≠ [110, 111, 116] ∧ z.1 ≠ [45] ∧ z.1 ≠ [125] := by decide
theorem rd_call {e : Ex} (hk : e.k = 20) (hm : e.nm = []) (z : List UInt8 × Nat × Nat) (hz : z ∈ callsL) (hn : e.n = (z.2.1 : Nat)) (hlen : e.kids.len = z.2.2) (R : Rdf e.kids) : Rdb e (fun s => wList [40] [41] (fun g s => wFs e.kids g 0 s) (s.lay z.1)) 8 false := by
  obtain ⟨z1, z2, z3, z4, z5, z6⟩ := call_all z hz
  obtain ⟨U, D, Q, us, hw, hl, ⟨t, hu, r, hU⟩, hr⟩ := rd_args R
  have w1 : Wt (z.1 ++ U) (max 0 (D + 1)) (max 0 Q) (fun s => wList [40] [41] (fun g s => wFs e.kids g 0 s) (s.lay z.1)) := (wt_lay z.1).comp hw
  have l1 : La (z.1 ++ U) _ := (lx_word z2).app hl ⟨40, r, hU, by simp [sf]⟩
  have hd : max 0 (D + 1) = D + 1 := by omega
  have hq' : max 0 Q = Q := by omega
  rw [hd, hq'] at w1
  refine rd_atom w1 l1.lx rfl z4 z5 z6 fun p o q rest ho hq _ => ?_
  obtain ⟨ks, hs, hN⟩ := hr (p + z.1.length) o q rest ho hq
  refine ⟨⟨20, (z.2.1 : Nat), [], (mvT p ⟨3, 0, z.1, 0⟩).a, ks⟩, ?_, ?_⟩
  · have e1 : List.map (mvT p) ([⟨3, 0, z.1, 0⟩] ++ us.map (mvT z.1.length)) ++ rest = mvT p ⟨3, 0, z.1, 0⟩ :: (us.map (mvT (p + z.1.length)) ++ rest) := by
      rw [List.map_append, mvT_mvT, Nat.add_comm _ p]
      simp
    rw [e1]
    refine ev_call (s0 := z.1) (many := z.2.2) ?_ rfl z1
    have h2 : e.kids.len - 1 + 1 = z.2.2 := by omega
    rw [h2] at hN
    exact hN
  · simp [sameE, hk, hm, hn, hs]
theorem la_mid {u : List UInt8} (h : wordB u = true) : La ([32] ++ u ++ [32]) [⟨3, 0, u, 1⟩] := (la_blank.then (lx_word h)).app la_blank ⟨32, [], rfl, by simp [sf]⟩
/-- 'if'. -/
theorem rd_if {e a b c : Ex} {ea eb ec : Nat} {sa sb sc : Bool} (hk : e.k = 19) (hn : e.n = 0) (hm : e.nm = []) (hkid : e.kids = (one a).app ((one b).app (one c))) (h1 : 1 ≤ ea) (h2 : 1 ≤ eb) (h3 : 1 ≤ ec) (RA : Rdb a (wEx a 0) ea sa) (RB : Rdb b (wEx b 0) eb sb) (RC : Rdb c (wEx c 0) ec sc) :
    Rdb e (fun s => (wEx c 0 ((wEx b 0 ((wEx a 0 (s.ent.lay [105, 102, 32])).lay [32, 116, 104, 101, 110, 32])).lay [32, 101, 108, 115, 101, 32])).lea) 8 true := by
  obtain ⟨Ua, Da, Qa, ua, ha, ta, wa, xa, hua, _, _, _, ra, _⟩ := RA
  obtain ⟨Ub, Db, Qb, ub, hb, tb, wb, xb, hub, _, _, _, rb, _⟩ := RB
  obtain ⟨Uc, Dc, Qc, uc, hc, tc, wc, xc, huc, _, _, _, rc, _⟩ := RC
  have w1 := (((((wt_lay [105, 102, 32]).comp wa).comp (wt_lay [32, 116, 104, 101, 110, 32])).comp wb).comp (wt_lay [32, 101, 108, 115, 101, 32])).comp wc |>.wrap
  have lif : La ([105, 102] ++ [32]) _ := (lx_word (u := [105, 102]) (by decide)).app la_blank ⟨32, [], rfl, by simp [sf]⟩
  have l1 := ((lif.then xa).app (la_mid (u := [116, 104, 101, 110]) (by decide)) ⟨32, _, rfl, by simp [sf]⟩).then xb
  have l2 := (l1.app (la_mid (u := [101, 108, 115, 101]) (by decide)) ⟨32, _, rfl, by simp [sf]⟩).then xc
  refine rd_atom w1 l2 rfl (by decide) (by decide) (by decide) fun p o q rest ho hq hs1 => ?_
  have hs1 := hs1 rfl
  -- places
  generalize hd1 : ([105, 102] ++ [32] ++ Ua : List UInt8).length = d1 at *
  generalize hd2 : ([105, 102] ++ [32] ++ Ua ++ ([32] ++ [116, 104, 101, 110] ++ [32]) : List UInt8).length = d2 at *
  generalize hd3 : ([105, 102] ++ [32] ++ Ua ++ ([32] ++ [116, 104, 101, 110] ++ [32]) ++ Ub : List UInt8).length = d3 at *
  generalize hd4 : ([105, 102] ++ [32] ++ Ua ++ ([32] ++ [116, 104, 101, 110] ++ [32]) ++ Ub ++ ([32] ++ [101, 108, 115, 101] ++ [32]) : List UInt8).length = d4 at *
  have sp1 : ∀ r, Sp 1 (mvT p (mvT d1 ⟨3, 0, [116, 104, 101, 110], 1⟩) :: r) := fun r => ⟨_, _, rfl, fun k _ => by simp [mvT, opAt, opsL]⟩
  have sp2 : ∀ r, Sp 1 (mvT p (mvT d3 ⟨3, 0, [101, 108, 115, 101], 1⟩) :: r) := fun r => ⟨_, _, rfl, fun k _ => by simp [mvT, opAt, opsL]⟩
  obtain ⟨z, hz, sz⟩ := rc (p + d4) (o + 1) q rest 1 (by omega) (by omega) (by omega) h3 (by cases sc <;> exact hs1)
  obtain ⟨y, hy, sy⟩ := rb (p + d2) (o + 1) q (mvT p (mvT d3 ⟨3, 0, [101, 108, 115, 101], 1⟩) :: (uc.map (mvT (p + d4)) ++ rest)) 1 (by omega) (by omega) (by omega) h2 (by cases sb <;> exact sp2 _)
  obtain ⟨x, hx, sx⟩ := ra (p + 3) (o + 1) q (mvT p (mvT d1 ⟨3, 0, [116, 104, 101, 110], 1⟩) :: (ub.map (mvT (p + d2)) ++ mvT p (mvT d3 ⟨3, 0, [101, 108, 115, 101], 1⟩) :: (uc.map (mvT (p + d4)) ++ rest))) 1 (by omega) (by omega) (by omega) h1 (by cases sa <;> exact sp1 _)
  refine ⟨⟨19, 0, [], (mvT p ⟨3, 0, [105, 102], 0⟩).a, ((one x).snoc y).snoc z⟩, ?_, ?_⟩
  · have e2 : ∀ (d : Nat) (us : List Tk), (us.map (mvT d)).map (mvT p) = us.map (mvT (p + d)) := fun d us => by rw [mvT_mvT, Nat.add_comm]
    have e1 : List.map (mvT p) ([⟨3, 0, [105, 102], 0⟩] ++ ([] : List Tk).map (mvT ([105, 102] : List UInt8).length) ++ ua.map (mvT ([105, 102] ++ [32] : List UInt8).length) ++ [(⟨3, 0, [116, 104, 101, 110], 1⟩ : Tk)].map (mvT d1) ++ ub.map (mvT d2) ++ [(⟨3, 0, [101, 108, 115, 101], 1⟩ : Tk)].map (mvT d3) ++ uc.map (mvT d4)) ++ rest = mvT p ⟨3, 0, [105, 102], 0⟩ :: (ua.map (mvT (p + 3)) ++ mvT p (mvT d1 ⟨3, 0, [116, 104, 101, 110], 1⟩) :: (ub.map (mvT (p + d2)) ++ mvT p (mvT d3 ⟨3, 0, [101, 108, 115, 101], 1⟩) :: (uc.map (mvT (p + d4)) ++ rest))) := by
      simp only [List.map_append, e2]
      simp [mvT]
      omega
    rw [e1]
    exact ev_if (h := mvT p ⟨3, 0, [105, 102], 0⟩) hx hy hz rfl rfl (by simp [mvT]) (by simp [mvT]) (by omega)
  · have hss := same_one sx _ _ (same_one sy _ _ (same_one sz .nil .nil rfl))
    have e3 : ((one x).snoc y).snoc z = (one x).app ((one y).app ((one z).app .nil)) := rfl
    have e4 : e.kids = (one a).app ((one b).app ((one c).app .nil)) := by rw [hkid]; rfl
    simp only [sameE, hk, hn, hm, e3, e4, hss]
    rfl
/-- A set. -/
def Rds (e : Ex) (F : St → St) : Prop := ∃ U D Q us, Wt U D Q F ∧ Lx U us ∧ ∀ p o q rest, o + D ≤ 64 → q + Q ≤ 4 → ∃ x, EvS o q (us.map (mvT p) ++ rest) x rest ∧ sameE x e = true
theorem rs_all {e : Ex} (hk : e.k = 22) (hn : e.n = 0) (hm : e.nm = []) (hz : e.kids = .nil) : Rds e (fun s => s.lay [118, 101, 114, 116, 105, 99, 101, 115]) :=
  ⟨_, _, _, _, wt_lay _, lx_word (by decide), fun p o q rest _ _ => ⟨_, evS_all o q _ rest rfl rfl, by simp [sameE, hk, hn, hm, hz, sameF]⟩⟩
theorem rs_name {e : Ex} (hk : e.k = 23) (hn : e.n = 0) (hm : nameB e.nm = true) (hz : e.kids = .nil) : Rds e (fun s => s.lay e.nm) :=
  ⟨_, _, _, _, wt_lay _, lx_name hm, fun p o q rest _ _ => ⟨_, evS_name o q _ rest rfl, by simp [sameE, hk, hn, hz, sameF, mvT]⟩⟩
theorem rs_around {e : Ex} (hk : e.k = 24) (hn : e.n = 0) (hm : e.nm = []) (hlen : e.kids.len = 1) (R : Rdf e.kids) : Rds e (fun s => wList [40] [41] (fun g s => wFs e.kids g 0 s) (s.lay [97, 114, 111, 117, 110, 100])) := by
  obtain ⟨U, D, Q, us, hw, hl, ⟨t, hu, r, hU⟩, hr⟩ := rd_args R
  have w1 := (wt_lay [97, 114, 111, 117, 110, 100]).comp hw
  have l1 := (lx_word (u := [97, 114, 111, 117, 110, 100]) (by decide)).app hl ⟨40, r, hU, by simp [sf]⟩
  refine ⟨_, _, _, _, w1, l1.lx, fun p o q rest ho hq => ?_⟩
  obtain ⟨ks, hs, hN⟩ := hr (p + 6) o q rest (by omega) (by omega)
  refine ⟨⟨24, 0, [], (mvT p ⟨3, 0, [97, 114, 111, 117, 110, 100], 0⟩).a, ks⟩, ?_, by simp [sameE, hk, hm, hn, hs]⟩
  have e1 : List.map (mvT p) ([⟨3, 0, [97, 114, 111, 117, 110, 100], 0⟩] ++ us.map (mvT ([97, 114, 111, 117, 110, 100] : List UInt8).length)) ++ rest = mvT p ⟨3, 0, [97, 114, 111, 117, 110, 100], 0⟩ :: (us.map (mvT (p + 6)) ++ rest) := by
    rw [List.map_append, mvT_mvT]
    show _ ++ us.map (mvT (6 + p)) ++ rest = _
    rw [Nat.add_comm 6 p]
    simp
  rw [e1]
  have h2 : e.kids.len - 1 + 1 = 1 := by omega
  rw [h2] at hN
  exact evS_around hN rfl rfl
theorem rs_list {e : Ex} (hk : e.k = 25) (hn : e.n = 0) (hm : e.nm = []) (R : e.kids = .nil ∨ Rdf e.kids) : Rds e (fun s => wList [123] [125] (fun g s => wFs e.kids g 0 s) s) := by
  rcases R with hz | R
  · have w1 : Wt ([123] ++ [125]) (max 0 0 + 1) (max 0 0) (fun s => wList [123] [125] (fun g s => wFs e.kids g 0 s) s) := by
      rw [hz]
      exact ((wt_lay [123]).comp (wt_lay [125])).wrap
    have l1 := (la_sign 123 (by decide) (by decide) (by decide)).app (la_sign 125 (by decide) (by decide) (by decide))
    refine ⟨_, _, _, _, w1, l1.lx, fun p o q rest ho hq => ⟨_, evS_list (h := mvT p ⟨4, 0, [123], 0⟩) (g := mvT p (mvT 1 ⟨4, 0, [125], 0⟩)) (t := rest) (evR_nil _ _ _ _ (by simp [mvT])) rfl rfl (by simp [mvT]) (by omega), by simp [sameE, hk, hn, hm, hz, sameF]⟩⟩
  · obtain ⟨U, D, Q, us, h0, t, hw, hl, hu, h125, hr⟩ := R
    have w1 : Wt ([123] ++ U ++ [125]) (max (max 0 D) 0 + 1) (max (max 0 Q) 0) (fun s => wList [123] [125] (fun g s => wFs e.kids g 0 s) s) := (((wt_lay [123]).comp hw).comp (wt_lay [125])).wrap
    have l1 : La ([123] ++ U ++ [125]) _ := ((la_sign 123 (by decide) (by decide) (by decide)).then hl).app (la_sign 125 (by decide) (by decide) (by decide)) ⟨125, [], rfl, by simp [sf]⟩
    refine ⟨_, _, _, _, w1, l1.lx, fun p o q rest ho hq => ?_⟩
    have hsp : Sp 1 (mvT p (mvT ([123] ++ U).length ⟨4, 0, [125], 0⟩) :: rest) := ⟨_, _, rfl, fun k _ => by simp [mvT, opAt, opsL]⟩
    obtain ⟨x, X, r1, hs, hx, _, hM⟩ := hr (p + 1) (o + 1) q _ rest (by omega) (by omega) hsp (by simp [mvT])
    refine ⟨⟨25, 0, [], (mvT p ⟨4, 0, [123], 0⟩).a, (one x).app X⟩, ?_, by simp [sameE, hk, hn, hm, hs]⟩
    have e1 : List.map (mvT p) ([⟨4, 0, [123], 0⟩] ++ us.map (mvT ([123] : List UInt8).length) ++ [(⟨4, 0, [125], 0⟩ : Tk)].map (mvT ([123] ++ U).length)) ++ rest = mvT p ⟨4, 0, [123], 0⟩ :: (us.map (mvT (p + 1)) ++ mvT p (mvT ([123] ++ U).length ⟨4, 0, [125], 0⟩) :: rest) := by
      rw [List.map_append, List.map_append, mvT_mvT]
      show _ ++ us.map (mvT (1 + p)) ++ _ ++ rest = _
      rw [Nat.add_comm 1 p]
      simp
    rw [e1]
    rw [hu] at hx ⊢
    exact evS_list (evR_cons hx hM h125) rfl rfl (by simp [mvT]) (by omega)
/-- A quantifier. -/
theorem rd_quant {e st b : Ex} {eb : Nat} {sb : Bool} (hk : e.k = 21) (hm : nameB e.nm = true) (z : List UInt8 × Nat) (hz : z ∈ quantsL) (hn : e.n = (z.2 : Nat)) (hkid : e.kids = (one st).app (one b)) (h1 : 1 ≤ eb) (RS : Rds st (wEx st 0)) (RB : Rdb b (wEx b 0) eb sb) :
    Rdb e (fun s => (((wEx b 0 ((wEx st 0 (s.ent.qent.lay (z.1 ++ [32] ++ e.nm ++ [32, 105, 110, 32]))).lay [58, 32])).qlea).lea)) 8 true := by
  obtain ⟨z1, z2, z3, z4, z5⟩ := quant_all z hz
  obtain ⟨Us, Ds, Qs, us, ws, xs, rs⟩ := RS
  obtain ⟨Ub, Db, Qb, ub, hb, tb, wb, xb, hub, _, _, _, rb, _⟩ := RB
  have w1 := ((((wt_lay (z.1 ++ [32] ++ e.nm ++ [32, 105, 110, 32])).comp ws).comp (wt_lay [58, 32])).comp wb).qwrap.wrap
  have l0 : La (z.1 ++ [32]) _ := (lx_word z2).app la_blank ⟨32, [], rfl, by simp [sf]⟩
  have l1 := (l0.then (lx_name hm)).app (la_mid (u := [105, 110]) (by decide)) ⟨32, _, rfl, by simp [sf]⟩
  have lc : La ([58] ++ [32]) [⟨4, 0, [58], 0⟩] := (la_sign 58 (by decide) (by decide) (by decide)).app la_blank
  have l2 := ((l1.then xs).app lc ⟨58, _, rfl, by simp [sf]⟩).then xb
  refine rd_atom w1 l2 rfl z3 z4 z5 fun p o q rest ho hq hs1 => ?_
  have hs1 := hs1 rfl
  generalize hd1 : (z.1 ++ [32] : List UInt8).length = d1 at *
  generalize hd2 : (z.1 ++ [32] ++ e.nm : List UInt8).length = d2 at *
  generalize hd3 : (z.1 ++ [32] ++ e.nm ++ ([32] ++ [105, 110] ++ [32]) : List UInt8).length = d3 at *
  generalize hd4 : (z.1 ++ [32] ++ e.nm ++ ([32] ++ [105, 110] ++ [32]) ++ Us : List UInt8).length = d4 at *
  generalize hd5 : (z.1 ++ [32] ++ e.nm ++ ([32] ++ [105, 110] ++ [32]) ++ Us ++ ([58] ++ [32]) : List UInt8).length = d5 at *
  obtain ⟨y, hy, sy⟩ := rb (p + d5) (o + 1) (q + 1) rest 1 (by omega) (by omega) (by omega) h1 (by cases sb <;> exact hs1)
  obtain ⟨x, hx, sx⟩ := rs (p + d3) (o + 1) (q + 1) (mvT p (mvT d4 ⟨4, 0, [58], 0⟩) :: (ub.map (mvT (p + d5)) ++ rest)) (by omega) (by omega)
  refine ⟨⟨21, (z.2 : Nat), e.nm, (mvT p ⟨3, 0, z.1, 0⟩).a, (one x).snoc y⟩, ?_, ?_⟩
  · have e2 : ∀ (d : Nat) (us : List Tk), (us.map (mvT d)).map (mvT p) = us.map (mvT (p + d)) := fun d us => by rw [mvT_mvT, Nat.add_comm]
    have e1 : List.map (mvT p) ([⟨3, 0, z.1, 0⟩] ++ ([] : List Tk).map (mvT z.1.length) ++ [(⟨2, 0, e.nm, 0⟩ : Tk)].map (mvT d1) ++ [(⟨3, 0, [105, 110], 1⟩ : Tk)].map (mvT d2) ++ us.map (mvT d3) ++ [(⟨4, 0, [58], 0⟩ : Tk)].map (mvT d4) ++ ub.map (mvT d5)) ++ rest = mvT p ⟨3, 0, z.1, 0⟩ :: mvT p (mvT d1 ⟨2, 0, e.nm, 0⟩) :: mvT p (mvT d2 ⟨3, 0, [105, 110], 1⟩) :: (us.map (mvT (p + d3)) ++ mvT p (mvT d4 ⟨4, 0, [58], 0⟩) :: (ub.map (mvT (p + d5)) ++ rest)) := by
      simp only [List.map_append, e2]
      simp [mvT]
      omega
    rw [e1]
    exact ev_quant (h := mvT p ⟨3, 0, z.1, 0⟩) (v := mvT p (mvT d1 ⟨2, 0, e.nm, 0⟩)) hx hy rfl (s0 := z.1) z1 rfl (by simp [mvT]) (by simp [mvT]) (by omega) (by omega)
  · have hss := same_one sx _ _ (same_one sy .nil .nil rfl)
    have e3 : (one x).snoc y = (one x).app ((one y).app .nil) := rfl
    have e4 : e.kids = (one st).app ((one b).app .nil) := by rw [hkid]; rfl
    simp only [sameE, hk, hn, e3, e4, hss]
    simp
end Go.Proofs.YtlmeonpdjcophaaDoor
namespace Go.Proofs.YtlmeonpdjcophaaDoor
set_option linter.unusedVariables false
set_option linter.unusedSimpArgs false

/-- Sets stand where they may. -/
def Fs.frm : Fs → Bool → Prop
  | ⟨none⟩, _ => True
  | ⟨some ⟨k, _, _, _, ks, r⟩⟩, first => isSetK k = first ∧ ks.frm (k == 21) ∧ r.frm false
theorem hFs_frm : ∀ (f : Fs) (b : Bool) (c c' : Nat), hFs f b c = some c' → f.frm b
  | ⟨none⟩, b, c, c', h => trivial
  | ⟨some ⟨k, n, nm, a, ks, r⟩⟩, b, c, c', h => by
    unfold hFs at h
    split at h
    · cases h
    · rename_i hs
      split at h
      · cases h
      · split at h
        · split at h
          · cases h
          · rename_i c2 h2
            exact ⟨by simpa using hs, hFs_frm ks _ _ _ h2, hFs_frm r _ _ _ h⟩
        · cases h
theorem hE_frm {e : Ex} {c c' : Nat} (h : hE e c = some c') : e.kids.frm (e.k == 21) := by
  unfold hE at h
  split at h
  · cases h
  · split at h
    · exact hFs_frm _ _ _ _ h
    · cases h
def efE (e : Ex) (A : Nat) : Nat := if rowOf e.k < A then 8 else if rowOf e.k = 0 then 8 else rowOf e.k
theorem rowOf_le (k : Int) : rowOf k ≤ 8 := by
  unfold rowOf
  split
  · omega
  · split
    · omega
    · split
      · omega
      · split
        · rename_i x h
          have hm := List.mem_of_find?_eq_some h
          have : ∀ x ∈ opsL, x.2.2.1 ≤ 8 := by decide
          exact this x hm
        · omega
theorem efE_ge (e : Ex) {A : Nat} (h : A ≤ 8) : A ≤ efE e A ∧ 1 ≤ efE e A := by
  have := rowOf_le e.k
  unfold efE
  split
  · omega
  · split <;> omega
/-- What is shown of all trees that are smaller. -/
def Smaller (N : Nat) : Prop := ∀ e : Ex, e.kids.size < N → e.okA → e.kids.frm (e.k == 21) → (isSetK e.k = false → ∀ A, A ≤ 8 → Rdb e (wEx e A) (efE e A) (decide (rowOf e.k = 0 ∧ A = 0))) ∧ (isSetK e.k = true → Rds e (wEx e 0))
theorem rdl_all {N : Nat} (IH : Smaller N) : ∀ (f : Fs), f.size ≤ N → f.okA → f.frm false → Rdl f
  | ⟨none⟩, hs, ho, hf => rdl_nil
  | ⟨some ⟨k, n, nm, a, ks, r⟩⟩, hs, ho, hf => by
    have hs : ks.size + r.size + 1 ≤ N := hs
    exact rdl_cons (e := ⟨k, n, nm, a, ks⟩) (efE_ge _ (by omega)).2 ((IH ⟨k, n, nm, a, ks⟩ (by show ks.size < N; omega) ⟨ho.1, ho.2.1⟩ hf.2.1).1 hf.1 0 (by omega)) (rdl_all IH r (by omega) ho.2.2 hf.2.2)
theorem rdf_all {N : Nat} (IH : Smaller N) (f : Fs) (hs : f.size ≤ N) (ho : f.okA) (hf : f.frm false) (h0 : f ≠ .nil) : Rdf f := by
  cases f using Fs.on with
  | nil => exact absurd rfl h0
  | cons k n nm a ks r =>
    have hs : ks.size + r.size + 1 ≤ N := hs
    exact rdf_of (e := ⟨k, n, nm, a, ks⟩) (efE_ge _ (by omega)).2 ((IH ⟨k, n, nm, a, ks⟩ (by show ks.size < N; omega) ⟨ho.1, ho.2.1⟩ hf.2.1).1 hf.1 0 (by omega)) (rdl_all IH r (by omega) ho.2.2 hf.2.2)
theorem len_of {n m : Nat} (h : ((n : Int) == ((m : Nat) : Int)) = true) : n = m := by
  have : (n : Int) = (m : Int) := by simpa using h
  omega
abbrev KW (e : Ex) : Sep → St → St := fun g s => wFs e.kids g 0 s
theorem lay_nil2 (s : St) : s.lay [] = s := by simp [St.lay]
/-- One kid. -/
theorem kid1 {e : Ex} {N : Nat} (IH : Smaller N) (hs : e.kids.size ≤ N) (ho : e.kids.okA) (hf : e.kids.frm false) (hl : e.kids.len = 1) : ∃ kid : Ex, e.kids = one kid ∧ (∀ A, A ≤ 8 → Rdb kid (wEx kid A) (efE kid A) (decide (rowOf kid.k = 0 ∧ A = 0))) := by
  obtain ⟨kid, r, e1, l1, s1, e2⟩ := len_succ hl
  have hr := len_zero l1
  subst hr
  rw [e2] at ho hf
  exact ⟨kid, by rw [e2]; rfl, (IH kid (by omega) ⟨ho.1, ho.2.1⟩ hf.2.1).1 hf.1⟩
theorem node_all {N : Nat} (IH : Smaller N) (e : Ex) (hsz : e.kids.size ≤ N) (ho : e.okA) (hf : e.kids.frm (e.k == 21)) (hset : isSetK e.k = false) :
    Rdb e (wNode e.k e.n e.nm (KW e)) (if rowOf e.k = 0 then 8 else rowOf e.k) (decide (rowOf e.k = 0)) := by
  obtain ⟨hp, hok⟩ := ho
  have hp' := hp
  obtain ⟨hnum, hnam, hkid, hlen, n1, n2⟩ := hp'
  by_cases k1 : e.k = 1
  · have hw : wNode e.k e.n e.nm (KW e) = fun s => s.lay (Go.Lib.itoa e.n) := by funext s; rw [k1]; rfl
    rw [hw, show rowOf e.k = 8 by rw [k1]; rfl]
    exact rd_int k1 hp
  by_cases k2 : e.k = 2
  · have hw : wNode e.k e.n e.nm (KW e) = fun s => s.lay (Go.Lib.formatBool (e.n == 1)) := by funext s; rw [k2]; rfl
    rw [hw, show rowOf e.k = 8 by rw [k2]; rfl]
    exact rd_bool k2 hp
  by_cases k3 : e.k = 3
  · have hw : wNode e.k e.n e.nm (KW e) = fun s => (s.lay [64]).lay (Go.Lib.itoa e.n) := by funext s; rw [k3]; rfl
    rw [hw, show rowOf e.k = 8 by rw [k3]; rfl]
    exact rd_vertex k3 hp
  by_cases k4 : e.k = 4
  · have hw : wNode e.k e.n e.nm (KW e) = fun s => s.lay e.nm := by funext s; rw [k4]; rfl
    rw [hw, show rowOf e.k = 8 by rw [k4]; rfl]
    exact rd_name k4 hp
  by_cases k6 : e.k = 6
  · rw [k6] at hkid hf
    obtain ⟨kid, hk, hR⟩ := kid1 IH hsz hok hf (len_of (m := 1) (by simpa [kidB] using hkid))
    have hw : wNode e.k e.n e.nm (KW e) = fun s => (wEx kid 7 (s.ent.lay [45])).lea := by funext s; rw [k6]; unfold KW; rw [hk]; rfl
    rw [hw, show rowOf e.k = 7 by rw [k6]; rfl]
    have := hR 7 (by omega)
    rw [show decide (rowOf kid.k = 0 ∧ 7 = 0) = false by simp] at this
    exact rd_neg k6 hp hk (efE_ge kid (by omega)).1 this
  by_cases k7 : e.k = 7
  · rw [k7] at hkid hf
    obtain ⟨kid, hk, hR⟩ := kid1 IH hsz hok hf (len_of (m := 1) (by simpa [kidB] using hkid))
    have hw : wNode e.k e.n e.nm (KW e) = fun s => (wEx kid 3 (s.ent.lay [110, 111, 116, 32])).lea := by funext s; rw [k7]; unfold KW; rw [hk]; rfl
    rw [hw, show rowOf e.k = 3 by rw [k7]; rfl]
    have := hR 3 (by omega)
    rw [show decide (rowOf kid.k = 0 ∧ 3 = 0) = false by simp] at this
    exact rd_not k7 hp hk (efE_ge kid (by omega)).1 this
  by_cases k19 : e.k = 19
  · rw [k19] at hkid hf hnum hnam
    have h3 : e.kids.len = 3 := by
      have : (e.kids.len : Int) = 3 := by simpa [kidB] using hkid
      omega
    obtain ⟨a, r1, _, l1, s1, e1⟩ := len_succ h3
    obtain ⟨b, r2, _, l2, s2, e2⟩ := len_succ l1
    obtain ⟨c, r3, _, l3, s3, e3⟩ := len_succ l2
    have hr := len_zero l3
    subst hr e3 e2
    rw [e1] at hok hf
    have RA := (IH a (by omega) ⟨hok.1, hok.2.1⟩ hf.2.1).1 hf.1 0 (by omega)
    have RB := (IH b (by omega) ⟨hok.2.2.1, hok.2.2.2.1⟩ hf.2.2.2.1).1 hf.2.2.1 0 (by omega)
    have RC := (IH c (by omega) ⟨hok.2.2.2.2.1, hok.2.2.2.2.2.1⟩ hf.2.2.2.2.2.1).1 hf.2.2.2.2.1 0 (by omega)
    have hw : wNode e.k e.n e.nm (KW e) = fun s => (wEx c 0 ((wEx b 0 ((wEx a 0 (s.ent.lay [105, 102, 32])).lay [32, 116, 104, 101, 110, 32])).lay [32, 101, 108, 115, 101, 32])).lea := by funext s; rw [k19]; unfold KW; rw [e1]; rfl
    rw [hw, show rowOf e.k = 0 by rw [k19]; rfl]
    exact rd_if k19 (num_zero hnum (by decide) (by decide) (by decide) (by decide) (by decide)) (nam_nil hnam (by decide) (by decide) (by decide)) (by rw [e1]; rfl) (efE_ge a (by omega)).2 (efE_ge b (by omega)).2 (efE_ge c (by omega)).2 RA RB RC
  by_cases k20 : e.k = 20
  · rw [k20] at hkid hf hnum hnam
    have hc : (callOf e.n).isSome = true := by simpa [numB] using hnum
    obtain ⟨z, hz⟩ := Option.isSome_iff_exists.1 hc
    have hzm := List.mem_of_find?_eq_some hz
    have hzn := List.find?_some hz
    have hzn : ((z.2.1 : Nat) : Int) = e.n := by simpa using hzn
    have hlen2 : e.kids.len = z.2.2 := by
      have : ((e.kids.len : Int) == (z.2.2 : Nat)) = true := by simpa [kidB, hz] using hkid
      have : (e.kids.len : Int) = ((z.2.2 : Nat) : Int) := by simpa using this
      omega
    have h1 := (call_all z hzm).2.2.1
    have hw : wNode e.k e.n e.nm (KW e) = fun s => wList [40] [41] (fun g s => wFs e.kids g 0 s) (s.lay z.1) := by
      funext s
      rw [k20]
      show wList [40] [41] (KW e) (s.lay (cword e.n)) = _
      have : cword e.n = z.1 := by unfold cword; rw [hz]
      rw [this]
    rw [hw, show rowOf e.k = 8 by rw [k20]; rfl]
    exact rd_call k20 (nam_nil hnam (by decide) (by decide) (by decide)) z hzm hzn.symm hlen2 (rdf_all IH e.kids hsz hok hf (fun e0 => by rw [e0] at hlen2; simp only [Fs.len] at hlen2; omega))
  by_cases k21 : e.k = 21
  · rw [k21] at hkid hf hnum hnam
    have hc : (quantOf e.n).isSome = true := by simpa [numB] using hnum
    obtain ⟨z, hz⟩ := Option.isSome_iff_exists.1 hc
    have hzm := List.mem_of_find?_eq_some hz
    have hzn := List.find?_some hz
    have hzn : ((z.2 : Nat) : Int) = e.n := by simpa using hzn
    have hnm : nameB e.nm = true := by simpa [namB] using hnam
    have h2 : e.kids.len = 2 := by
      have : (e.kids.len : Int) = 2 := by simpa [kidB] using hkid
      omega
    obtain ⟨st, r1, _, l1, s1, e1⟩ := len_succ h2
    obtain ⟨b, r2, _, l2, s2, e2⟩ := len_succ l1
    have hr := len_zero l2
    subst hr e2
    rw [e1] at hok hf
    have RS := (IH st (by omega) ⟨hok.1, hok.2.1⟩ hf.2.1).2 hf.1
    have RB := (IH b (by omega) ⟨hok.2.2.1, hok.2.2.2.1⟩ hf.2.2.2.1).1 hf.2.2.1 0 (by omega)
    have hw : wNode e.k e.n e.nm (KW e) = fun s => (((wEx b 0 ((wEx st 0 (s.ent.qent.lay (z.1 ++ [32] ++ e.nm ++ [32, 105, 110, 32]))).lay [58, 32])).qlea).lea) := by
      funext s
      rw [k21]
      unfold KW
      rw [e1]
      have : qword e.n = z.1 := by unfold qword; rw [hz]
      rw [← this]
      rfl
    rw [hw, show rowOf e.k = 0 by rw [k21]; rfl]
    exact rd_quant k21 hnm z hzm hzn.symm (by rw [e1]; rfl) (efE_ge b (by omega)).2 RS RB
  have hs22 : e.k ≠ 22 ∧ e.k ≠ 23 ∧ e.k ≠ 24 ∧ e.k ≠ 25 := by
    simp only [isSetK, Bool.or_eq_false_iff, beq_eq_false_iff_ne] at hset
    exact ⟨hset.1.1.1, hset.1.1.2, hset.1.2, hset.2⟩
  have hko : (opOf e.k).isSome = true ∧ e.kids.len = 2 := by
    have : ((opOf e.k).isSome && (e.kids.len : Int) == 2) = true := by simpa [kidB, k1, k2, k3, k4, k6, k7, k19, k20, k21, hs22.1, hs22.2.1, hs22.2.2.1, hs22.2.2.2] using hkid
    simp only [Bool.and_eq_true, beq_iff_eq] at this
    exact ⟨this.1, by omega⟩
  obtain ⟨z, hz⟩ := Option.isSome_iff_exists.1 hko.1
  have hzm := List.mem_of_find?_eq_some hz
  have hzn := List.find?_some hz
  have hzk : e.k = ((z.2.1 : Nat) : Int) := by
    have : ((z.2.1 : Nat) : Int) = e.k := by simpa using hzn
    exact this.symm
  obtain ⟨l, r1, _, l1, s1, e1⟩ := len_succ hko.2
  obtain ⟨r, r2, _, l2, s2, e2⟩ := len_succ l1
  have hr := len_zero l2
  subst hr e2
  have hf0 : e.kids.frm false := by
    have : (e.k == 21) = false := by simpa using k21
    rw [this] at hf
    exact hf
  rw [e1] at hok hf0
  have hrow : rowOf e.k = z.2.2.1 := by unfold rowOf; simp [k19, k21, k7, k6, hz]
  obtain ⟨_, _, o3, o4⟩ := op_all z hzm
  have hlf8 : z.2.2.2.1 ≤ 8 := by rcases o4 with ⟨_, h⟩ | ⟨_, h⟩ <;> omega
  have hrg8 : z.2.2.2.2 ≤ 8 := by rcases o4 with ⟨h, _⟩ | ⟨h, _⟩ <;> omega
  have RL := (IH l (by omega) ⟨hok.1, hok.2.1⟩ hf0.2.1).1 hf0.1 z.2.2.2.1 hlf8
  have RR := (IH r (by omega) ⟨hok.2.2.1, hok.2.2.2.1⟩ hf0.2.2.2.1).1 hf0.2.2.1 z.2.2.2.2 hrg8
  have hlf0 : z.2.2.2.1 ≠ 0 := by rcases o4 with ⟨_, h⟩ | ⟨_, h⟩ <;> omega
  have hrg0 : z.2.2.2.2 ≠ 0 := by omega
  rw [show decide (rowOf l.k = 0 ∧ z.2.2.2.1 = 0) = false by simp [hlf0]] at RL
  rw [show decide (rowOf r.k = 0 ∧ z.2.2.2.2 = 0) = false by simp [hrg0]] at RR
  have hw : wNode e.k e.n e.nm (KW e) = fun s => wEx r z.2.2.2.2 ((wEx l z.2.2.2.1 s).lay ([32] ++ z.1 ++ [32])) := by
    funext s
    have h1 : wNode e.k e.n e.nm (KW e) s = KW e (opS e.k) s := by simp [wNode, wPlain, k1, k2, k3, k4, k6, k7, k19, k20, k21, hs22.1, hs22.2.1, hs22.2.2.1, hs22.2.2.2]
    rw [h1]
    unfold KW
    rw [e1]
    have ho0 : opS e.k 0 = ([], z.2.2.2.1) := by simp [opS, hz]
    have ho1 : opS e.k 1 = ([32] ++ z.1 ++ [32], z.2.2.2.2) := by simp [opS, hz]
    show wE r.k r.n r.nm (opS e.k 1).2 _ ((wE l.k l.n l.nm (opS e.k 0).2 _ (s.lay (opS e.k 0).1)).lay (opS e.k 1).1) = _
    rw [ho0, ho1, lay_nil2]
    rfl
  rw [hw, hrow]
  have hr0 : z.2.2.1 ≠ 0 := by rcases o4 with ⟨h, _⟩ | ⟨h, _⟩ <;> omega
  rw [if_neg hr0, show decide (z.2.2.1 = 0) = false by simp [hr0]]
  exact rd_op z hzm hzk (num_zero hnum k1 k2 k3 k20 k21) (nam_nil hnam k4 hs22.2.1 k21) (by rw [e1]; rfl) (efE_ge l hlf8).1 (efE_ge r hrg8).1 RL RR
theorem set_all {N : Nat} (IH : Smaller N) (e : Ex) (hsz : e.kids.size ≤ N) (ho : e.okA) (hf : e.kids.frm (e.k == 21)) (hset : isSetK e.k = true) : Rds e (wEx e 0) := by
  obtain ⟨hp, hok⟩ := ho
  obtain ⟨hnum, hnam, hkid, hlen, n1, n2⟩ := hp
  have hw0 : ∀ s, wEx e 0 s = wNode e.k e.n e.nm (KW e) s := fun s => by unfold wEx wE; rw [if_neg (by omega)]
  have hk : e.k = 22 ∨ e.k = 23 ∨ e.k = 24 ∨ e.k = 25 := by
    simp only [isSetK, Bool.or_eq_true, beq_iff_eq] at hset
    omega
  have h21 : (e.k == 21) = false := by simp; omega
  rw [h21] at hf
  rcases hk with hk | hk | hk | hk
  · rw [hk] at hkid hnum hnam
    have hw : wEx e 0 = fun s => s.lay [118, 101, 114, 116, 105, 99, 101, 115] := by funext s; rw [hw0, hk]; rfl
    rw [hw]
    exact rs_all hk (num_zero hnum (by decide) (by decide) (by decide) (by decide) (by decide)) (nam_nil hnam (by decide) (by decide) (by decide)) (len_zero (len_of (m := 0) (by simpa [kidB] using hkid)))
  · rw [hk] at hkid hnum hnam
    have hw : wEx e 0 = fun s => s.lay e.nm := by funext s; rw [hw0, hk]; rfl
    rw [hw]
    exact rs_name hk (num_zero hnum (by decide) (by decide) (by decide) (by decide) (by decide)) (by simpa [namB] using hnam) (len_zero (len_of (m := 0) (by simpa [kidB] using hkid)))
  · rw [hk] at hkid hnum hnam
    have hw : wEx e 0 = fun s => wList [40] [41] (fun g s => wFs e.kids g 0 s) (s.lay [97, 114, 111, 117, 110, 100]) := by funext s; rw [hw0, hk]; rfl
    rw [hw]
    have h1 : e.kids.len = 1 := by
      have : (e.kids.len : Int) = 1 := by simpa [kidB] using hkid
      omega
    exact rs_around hk (num_zero hnum (by decide) (by decide) (by decide) (by decide) (by decide)) (nam_nil hnam (by decide) (by decide) (by decide)) h1 (rdf_all IH e.kids hsz hok hf (fun e0 => by rw [e0] at h1; cases h1))
  · rw [hk] at hkid hnum hnam
    have hw : wEx e 0 = fun s => wList [123] [125] (fun g s => wFs e.kids g 0 s) s := by funext s; rw [hw0, hk]; rfl
    rw [hw]
    refine rs_list hk (num_zero hnum (by decide) (by decide) (by decide) (by decide) (by decide)) (nam_nil hnam (by decide) (by decide) (by decide)) ?_
    by_cases h0 : e.kids = .nil
    · exact .inl h0
    · exact .inr (rdf_all IH e.kids hsz hok hf h0)
theorem all_read : ∀ N, Smaller N
  | 0 => fun e h => absurd h (Nat.not_lt_zero _)
  | N + 1 => fun e hsz ho hf => by
    have IH := all_read N
    refine ⟨fun hset A hA => ?_, fun hset => set_all IH e (by omega) ho hf hset⟩
    have hn := node_all IH e (by omega) ho hf hset
    by_cases hr : rowOf e.k < A
    · have hw : wEx e A = fun s => ((wNode e.k e.n e.nm (KW e) (s.ent.lay [40])).lay [41]).lea := by funext s; unfold wEx wE; rw [if_pos hr]
      have he : efE e A = 8 := by unfold efE; rw [if_pos hr]
      rw [hw, he, show decide (rowOf e.k = 0 ∧ A = 0) = false by simp; omega]
      exact rd_par (by split <;> omega) hn
    · have hw : wEx e A = wNode e.k e.n e.nm (KW e) := by funext s; unfold wEx wE; rw [if_neg hr]
      have he : efE e A = if rowOf e.k = 0 then 8 else rowOf e.k := by unfold efE; rw [if_neg hr]
      rw [hw, he, show decide (rowOf e.k = 0 ∧ A = 0) = decide (rowOf e.k = 0) by
        by_cases h0 : rowOf e.k = 0
        · have : A = 0 := by omega
          simp [h0, this]
        · simp [h0]]
      exact hn
/-- What is printed of a tree is read as that tree. -/
theorem print_parse {e : Ex} {t : List UInt8} (hf : e.fit) (h : writA e = some t) : t.length ≤ 2000 ∧ ∃ x tt, parseA t = .ok x tt ∧ sameE x e = true := by
  unfold writA at h
  split at h
  · cases h
  · rename_i hset
    have hset : isSetK e.k = false := by simpa using hset
    cases hE0 : hE e 0 with
    | none => rw [hE0] at h; cases h
    | some c =>
      rw [hE0] at h
      simp only at h
      split at h
      · rename_i hroom
        injection h with h
        obtain ⟨hok, _, _⟩ := hE_ok hf hE0
        obtain ⟨U, D, Q, us, h0, t0, hw, hl, hu, _, _, _, hr, _⟩ := (all_read (e.kids.size + 1) e (by omega) hok (hE_frm hE0)).1 hset 0 (by omega)
        have hs := hw s0 (Nat.le_refl _) (Nat.le_refl _)
        rw [hs] at h hroom
        have hU : U = t := by simpa [s0] using h
        subst hU
        have hb : ¬ 2000 < U.length ∧ ¬ 64 < max 0 (0 + D) ∧ ¬ 4 < max 0 (0 + Q) := by
          have h2 : roomB ⟨[] ++ U, 0, max 0 (0 + D), 0, max 0 (0 + Q)⟩ = true := hroom
          unfold roomB at h2
          simp only [List.nil_append, Bool.not_eq_true', Bool.or_eq_false_iff, decide_eq_false_iff_not] at h2
          exact ⟨h2.1.1, h2.1.2, h2.2⟩
        have hlen : U.length ≤ 2000 := by omega
        refine ⟨hlen, ?_⟩
        have hsp : Sp 1 [(⟨0, 0, [], 0 + U.length⟩ : Tk)] := ⟨_, _, rfl, fun k _ => by simp [opAt, opsL]⟩
        obtain ⟨x, ⟨N, hx⟩, hsm⟩ := hr 0 0 0 [⟨0, 0, [], 0 + U.length⟩] 1 (by omega) (by omega) (by omega) (efE_ge e (by omega)).2 (by
          cases decide (rowOf e.k = 0 ∧ 0 = 0) <;> exact hsp)
        have hlex : lexA U = .inr (us ++ [⟨0, 0, [], 0 + U.length⟩]) := by
          have := hl 0 [] (.inl rfl)
          rw [List.append_nil] at this
          show lexL 0 [] 0 0 U = _
          rw [this, show lexL 0 [] (0 + U.length) (0 + U.length) [] = .inr [⟨0, 0, [], 0 + U.length⟩] from rfl, preR_inr, mvT_zero]
        have hscan : scanA U = .inr (us ++ [⟨0, 0, [], 0 + U.length⟩]) := by rw [scan_short hlen]; exact hlex
        have hcnt := (scan_ok hscan).2.2.1
        rw [mvT_zero] at hx
        have h3 : partF 30000 1 0 0 (us ++ [⟨0, 0, [], 0 + U.length⟩]) = .ok x [⟨0, 0, [], 0 + U.length⟩] := by
          have f1 := fine_part 30000 1 0 0 _ (by omega) (wft_end us (0 + U.length)) (by omega)
          rcases Nat.le_total N 30000 with hn | hn
          · exact hx 30000 hn
          · have hxN := hx N (Nat.le_refl _)
            rcases und_part 30000 N 1 0 0 (us ++ [⟨0, 0, [], 0 + U.length⟩]) hn with e1 | e1
            · rw [e1] at f1; exact f1.elim
            · rw [← e1]; exact hxN
        refine ⟨x, [⟨0, 0, [], 0 + U.length⟩], ?_, hsm⟩
        unfold parseA
        rw [hscan]
        show readF 30000 _ = _
        unfold readF
        rw [h3]
        rfl
      · cases h
end Go.Proofs.YtlmeonpdjcophaaDoor

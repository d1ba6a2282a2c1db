/- A number is taken out of all sets of a family. -/
import Derived.Test.YtmpkhbblakfglaaDoorNamesC
namespace Go.Proofs.YtmpkhbblakfglaaDoor
open Go.ChangeShapes Go.WideShapes Go.ChangeAt Go.RowKit Go.Maps
set_option linter.unusedVariables false

theorem purge_no (w : World) (p : Option Addr) (n : Int) (h : n < 0 ∨ 63 < n) :
    Calls Tryd.prog 23 #[.pointer p, .int .i64 n] w fun e w' => e = .returned (.int .i64 1) ∧ w' = w := by
  go_enter Tryd.func23, Tryd.ntmps23
  go_wp2_with fail
  refine (right_no n _ h).mono ?_
  rintro e w1 ⟨rfl, rfl⟩
  go_wp2
  go_ret
  exact ⟨rfl, rfl⟩

/-- The sets behind k rounds. -/
def purF (F : ByteArray → Option Nat) (NL : List ByteArray) (n : Nat) : Nat → ByteArray → Option Nat
  | 0 => F
  | k + 1 => match NL[k]? with
    | some s => updN (purF F NL n k) s ((F s).map (fun x => mns x (bt n)))
    | none => purF F NL n k
def purged (F : ByteArray → Option Nat) (n : Nat) : ByteArray → Option Nat := fun s => (F s).map (fun x => mns x (bt n))
theorem purF_in (F : ByteArray → Option Nat) (NL : List ByteArray) (n : Nat) (s : ByteArray) : ∀ k, (∃ j, j < k ∧ NL[j]? = some s) → purF F NL n k s = purged F n s
  | 0, h => by obtain ⟨j, hj, _⟩ := h; omega
  | k + 1, h => by
    unfold purF
    cases hk : NL[k]? with
    | none =>
      obtain ⟨j, hj, e⟩ := h
      exact purF_in F NL n s k ⟨j, by have : j ≠ k := fun q => by rw [q, hk] at e; cases e
                                      omega, e⟩
    | some t =>
      show updN _ t _ s = _
      unfold updN
      by_cases q : s = t
      · subst q; rw [if_pos rfl]; rfl
      · rw [if_neg q]
        obtain ⟨j, hj, e⟩ := h
        exact purF_in F NL n s k ⟨j, by have : j ≠ k := fun q' => by rw [q', hk] at e; cases e; exact q rfl
                                        omega, e⟩
theorem purF_out (F : ByteArray → Option Nat) (NL : List ByteArray) (n : Nat) (s : ByteArray) : ∀ k, (∀ j, j < k → NL[j]? ≠ some s) → purF F NL n k s = F s
  | 0, _ => rfl
  | k + 1, h => by
    unfold purF
    cases hk : NL[k]? with
    | none => exact purF_out F NL n s k (fun j hj => h j (by omega))
    | some t =>
      show updN _ t _ s = _
      unfold updN
      rw [if_neg (fun q => h k (by omega) (by rw [hk, q]))]
      exact purF_out F NL n s k (fun j hj => h j (by omega))
theorem purF_done {F : ByteArray → Option Nat} {NL : List ByteArray} (h : NamesOf F NL) (n : Nat) : purF F NL n NL.length = purged F n := by
  funext s
  cases hf : F s with
  | none =>
    rw [purF_out F NL n s NL.length (fun j hj e => by
      have := (h.1 s).1 (List.mem_of_getElem? e)
      rw [hf] at this
      cases this)]
    unfold purged
    rw [hf]
    rfl
  | some x =>
    obtain ⟨j, hj, e⟩ := List.getElem_of_mem ((h.1 s).2 (by rw [hf]; rfl))
    exact purF_in F NL n s NL.length ⟨j, hj, by rw [List.getElem?_eq_getElem hj, e]⟩
theorem purF_zero (F : ByteArray → Option Nat) (NL : List ByteArray) (n : Nat) : purF F NL n 0 = F := rfl
theorem purF_at {F : ByteArray → Option Nat} {NL : List ByteArray} (h : NamesOf F NL) (n k : Nat) (hk : k < NL.length) : purF F NL n k NL[k] = F NL[k] :=
  purF_out F NL n _ k fun j hj e => by
    rw [List.getElem?_eq_getElem (by omega)] at e
    exact (List.pairwise_iff_getElem.1 h.nodup) j k (by omega) hk hj (Option.some.inj e)
theorem purF_next {F : ByteArray → Option Nat} {NL : List ByteArray} (h : NamesOf F NL) (n k x : Nat) (hk : k < NL.length) (hx : F NL[k] = some x) : updN (purF F NL n k) NL[k] (some (mns x (bt n))) = purF F NL n (k + 1) := by
  show _ = (match NL[k]? with | some s => updN (purF F NL n k) s ((F s).map (fun x => mns x (bt n))) | none => purF F NL n k)
  rw [List.getElem?_eq_getElem hk]
  show _ = updN (purF F NL n k) NL[k] ((F NL[k]).map (fun x => mns x (bt n)))
  rw [hx]
  rfl
/-- A text of a row, where it lies. -/
theorem Row.str9 {w : World} {o : Nat → Nat} {i : Nat} {v : Value} {m : Nat} {l : List ByteArray} (h : Row w o i 9 1 v m (strsL l)) (hl : l.length = m) (j : Nat) (hj : j < l.length) : ∃ g cap, v = .slice (some ⟨g, 0, none⟩) m cap ∧ w.cell? ⟨g, j, none⟩ = some (.string l[j]) ∧ g < w.heap.size ∧ o g = i := by
  obtain ⟨g, cap, rfl, hg, hc, hm, hlt, hcell, hfr⟩ := h.pos (by omega)
  refine ⟨g, cap, rfl, ?_, hlt, hg⟩
  rw [hcell j (by omega)]
  simp [strsL, hj]

set_option maxHeartbeats 4000000 in
set_option maxRecDepth 100000 in
theorem purge_ok (w : World) (o : Nat → Nat) (L p m n : Nat) (F : ByteArray → Option Nat) (h : Fam w o L p m F) (hm : m ≤ 100000) (hn : n < 64) (hF : ∀ s x, F s = some x → x < top64 ∧ s.size ≤ maxLen) :
    Calls Tryd.prog 23 #[.pointer (some ⟨p, 0, none⟩), .int .i64 (n : Nat)] w fun e w' => ∃ o', e = .returned (.int .i64 0) ∧ Fam w' o' L p m (purged F n) ∧ Step (fun k => k = L + 1 ∨ k = L + 2) w o w' o' := by
  go_enter Tryd.func23, Tryd.ntmps23
  go_wp2_with fail
  refine (right_yes (n : Nat) _ (by omega) (by omega)).mono ?_
  rintro e w1 ⟨rfl, rfl⟩
  go_wp2_with fail
  refine (names_c w1 o L p m (L + 2) F h hm).mono ?_
  rintro e w2 ⟨v, NL, o2, rfl, hN, hNl, R2, s2⟩
  have F2 := h.step s2 id id
  have S2 : Step (fun k => k = L + 1 ∨ k = L + 2) w1 o w2 o2 := s2.mono fun _ h => h.elim
  obtain ⟨ao, ca, rfl⟩ := R2.form
  clear h s2
  go_wp2_with fail
  go_loopw [13] (fun v13 wr => ∃ (k : Nat) (o' : Nat → Nat), k ≤ m ∧ v13 = .int .i64 (k : Nat) ∧ Fam wr o' L p m (purF F NL n k) ∧ Row wr o' (L + 2) 9 1 (.slice ao m ca) m (strsL NL) ∧ Step (fun k => k = L + 1 ∨ k = L + 2) w1 o wr o') (fun v13 _ => m - (intOf v13).toNat)
  case atStart => exact ⟨0, o2, by omega, by go_num, by rw [purF_zero]; exact F2, R2, S2⟩
  case round =>
    obtain ⟨k, o', hk, rfl, hFm, hR, hS⟩ := hrel
    clear F2 R2 S2
    by_cases hlt : k < m
    · have hkI : (k : Int) < (m : Int) := by omega
      obtain ⟨g, cap, hv, hc, hgl, hgo⟩ := hR.str9 hNl k (by omega)
      simp only [Value.slice.injEq] at hv
      obtain ⟨rfl, hq, rfl⟩ := hv
      clear hq
      have hsm := (hN.1 (NL[k]'(by omega))).1 (List.getElem_mem _)
      obtain ⟨x, hx⟩ := Option.isSome_iff_exists.1 hsm
      obtain ⟨hxl, hsl⟩ := hF _ _ hx
      have hpa := purF_at hN n k (by omega)
      have hnx := purF_next hN n k x (by omega) hx
      have HNX : Hid (updN (purF F NL n k) (NL[k]'(by omega)) (some (mns x (bt n))) = purF F NL n (k + 1)) := hnx
      rw [hx] at hpa
      clear hnx hsm hx
      generalize (NL[k]'(by omega)) = nm at hc hpa HNX hsl
      obtain ⟨bm, hB, hM⟩ := hFm
      have sd : Step (fun _ => False) wr o' wr.drew o' := (Step.refl _ _ _).drew
      have hlk := (hM.step sd id).look hsl hpa
      have c0 := hB.cell1.1
      have hsg := fun w => single_c n w hn
      have hmi := fun w => minus_c x (bt n) w hxl (bt_lt hn)
      generalize hz : mns x (bt n) = z at hmi HNX
      have hpS : (purF F NL n k nm).isSome = true := by rw [hpa]; rfl
      have HPA : Hid (purF F NL n k nm = some x) := hpa
      clear hpa hz
      have kz : wr.drew.cell? ⟨p, 0, none⟩ = some (.map (some bm)) := c0
      have ka := kz
      go_wp2_with fail
      go_region_held (fun wx => wx.cell? ⟨p, 0, none⟩ = some (.map (some bm))) (first | (with_reducible exact c0) | (with_reducible exact ka) | (with_reducible exact kz)) (first | (go_at_call 33; refine (hsg _).mono ?_; rintro e w3 ⟨rfl, g3⟩; have s3 : Step (fun _ => False) wr o' w3 o' := sd.trans (Step.ofBelow o' g3); have kz := (hB.step s3 id).cell1.1; have hlk3 := (hM.step s3 id).look hsl (Hid.out HPA)) | (go_at_call 36; refine (hmi _).mono ?_; rintro e w4 ⟨rfl, g4⟩; have s4 : Step (fun _ => False) wr o' w4 o' := s3.trans (Step.ofBelow o' g4); obtain ⟨w5, hput, M5, s5⟩ := (hM.step s4 id).put hsl z hm; have B5 := (hB.step s4 id).step s5 (by omega); have ka := (hB.step s4 id).cell1.1; have kz := B5.cell1.1))
      all_goals
        have RR : Fam w5 o' L p m (purF F NL n (k + 1)) ∧ Row w5 o' (L + 2) 9 1 (.slice (some ⟨g, 0, none⟩) m ca) m (strsL NL) ∧ Step (fun k => k = L + 1 ∨ k = L + 2) w1 o w5 o' := by
          rw [hpS] at M5
          simp only [if_true] at M5
          rw [HNX.out] at M5
          exact ⟨⟨bm, B5, M5⟩, (hR.step s4 id).step s5 (by omega), (hS.trans (s4.mono fun _ h => h.elim)).trans (s5.mono fun _ h => .inl h)⟩
        clear HNX M5 s5 s4 s3 B5 ka kz hR hS hM hB sd hc hsg hmi HPA hpS hput
        go_wp2
        go_roundw
        case rel => (try ((repeat apply Exists.intro); refine ⟨?_, rfl⟩)); exact ⟨k + 1, o', by omega, by go_num, RR⟩
        case measure => simp [intOf]; omega
    · obtain rfl : k = m := by omega
      have hd := purF_done hN n
      rw [hNl] at hd
      rw [hd] at hFm
      clear hd hF
      go_wp2
      go_ret
      exact ⟨o', rfl, hFm, hS⟩
end Go.Proofs.YtmpkhbblakfglaaDoor

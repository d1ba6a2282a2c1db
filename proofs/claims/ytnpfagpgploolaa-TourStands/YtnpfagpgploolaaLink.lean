/- Tours: two trees are linked: the walk. -/
import Derived.Test.YtnpfagpgploolaaReroot
namespace Go.Proofs.Ytnpfagpgploolaa
open Go.ChangeShapes Go.WideShapes Go.ChangeAt Go.RowKit Go.Maps
set_option linter.unusedVariables false

/-- The cells of tours' struct and of a vertex' node, in whatever world. -/
theorem Tm.open {w : World} {o : Nat → Nat} {L p n N : Nat} {free : List Nat} {it : Nat → It} {S : Nat → List Nat} {g : Nat → Nat × Nat} {f : Nat → Nat → Nat} {ms : Nat} (T : Tm w o L p n N free it S g f ms (stsOf n)) (hn : 0 < n) :
    ∃ pf bs cap, (n ≤ cap ∧ cap ≤ 9223372036854775807) ∧ Fo w o L pf (n + 2 * (n - 1)) N free it S ∧ (∀ wx ox, Step (FL L) w o wx ox → (wx.cell? ⟨p, 0, none⟩ = some (.pointer (some ⟨pf, 0, none⟩)) ∧ wx.cell? ⟨p, 1, none⟩ = some (.slice (some ⟨bs, 0, none⟩) n cap)) ∧ ∀ v, v < n → wx.cell? ⟨bs, v, none⟩ = some (.int .i64 (v + 1 : Nat))) ∧
      (∀ wx ox it' S', Step (FL L) w o wx ox → Fo wx ox L pf (n + 2 * (n - 1)) N free it' S' → Tm wx ox L p n N free it' S' g f ms (stsOf n)) := by
  obtain ⟨pf, bs, cap, bm, bg, h1, h2, h3, h4, h5⟩ := T
  obtain ⟨g', cap', hv', _, hcap, hmx, _, _, _⟩ := h3.pos (by omega)
  simp only [Value.slice.injEq, Option.some.injEq, Addr.mk.injEq, and_true, true_and] at hv'
  obtain ⟨rfl, rfl⟩ := hv'
  unfold maxLen at hmx
  exact ⟨pf, bs, cap, ⟨hcap, hmx⟩, h2, Tm.cellsF h1 h3, fun wx ox it' S' s F => Tm.fo h1 h3 h4 h5 s F⟩

/-- The tour of two that are linked. -/
def linkZ (A B C D : List Nat) (a b x y : Nat) : List Nat := A ++ [a] ++ [x] ++ (b :: D ++ C) ++ [y] ++ B

set_option maxRecDepth 100000 in
set_option maxHeartbeats 4000000 in
theorem link_in (n N : Nat) (free : List Nat) (it : Nat → It) (S : Nat → List Nat) (u v : Nat) (A B C D : List Nat) (wf : WF (n + 2 * (n - 1)) N free) (sq : Sq N free S) (hroom : N - free.length + 2 ≤ n + 2 * (n - 1)) (hn : n ≤ 64) (hu : u < n) (hv : v < n) (huv : u ≠ v) (lu : Live N free (u + 1)) (lv : Live N free (v + 1)) (hne : S (u + 1) ≠ S (v + 1)) (hA : S (u + 1) = A ++ (u + 1) :: B) (hC : S (v + 1) = C ++ (v + 1) :: D) :
    ∃ x y N2 free2, (¬ Live N free x) ∧ (¬ Live N free y) ∧ x ≠ y ∧ (1 ≤ x ∧ 1 ≤ y) ∧ (∀ j, Live N2 free2 j ↔ Live N free j ∨ j = x ∨ j = y) ∧ N2 - free2.length = N - free.length + 2 ∧
      ∀ w o L p g f ms, f u v = 0 → f v u = 0 → ms ≤ 900 → Tm w o L p n N free it S g f ms (stsOf n) → Calls Try.prog 14 #[.pointer (some ⟨p, 0, none⟩), .int .i64 u, .int .i64 v] w fun e w' => e = .returned (.int .i64 0) ∧
        ∃ o', Tm w' o' L p n N2 free2 (upd (upd it x ⟨0, false, 0⟩) y ⟨0, false, 0⟩) (setS S (linkZ A B C D (u + 1) (v + 1) x y)) (fun j => if j = y then (v, u) else if j = x then (u, v) else g j) (upd2 (upd2 f u v x) v u y) (ms + 2) (stsOf n) ∧ Step (TL L) w o w' o' := by
  -- the lists
  have nA := sq.nodup _ lu
  rw [hA] at nA
  have mA : ∀ k, k ∈ A ++ (u + 1) :: B → Live N free k := fun k hk => (sq.mem _ lu k (by rw [hA]; exact hk)).1
  have mV : ∀ k, k ∈ (v + 1) :: D ++ C → k ∈ S (v + 1) := fun k hk => by rw [hC]; simp at hk ⊢; rcases hk with h | h | h <;> simp [h]
  have lV : ∀ k, k ∈ (v + 1) :: D ++ C → Live N free k := fun k hk => (sq.mem _ lv k (mV k hk)).1
  have dV : ∀ k, k ∈ A ++ (u + 1) :: B → k ∉ (v + 1) :: D ++ C := fun k hk hk2 => sq.apart lu lv hne (by rw [hA]; exact hk) (mV k hk2)
  have vA : v + 1 ∉ A ++ (u + 1) :: B := fun h => dV _ h (by simp)
  have uA : u + 1 ∉ A := fun h => (List.nodup_append.1 nA).2.2 _ h (u + 1) (by simp) rfl
  have uB : u + 1 ∉ B := (List.nodup_cons.1 (List.nodup_append.1 nA).2.1).1
  have AB : ∀ k ∈ B, k ∉ A := fun k hk h => (List.nodup_append.1 nA).2.2 _ h k (by simp [hk]) rfl
  obtain ⟨V, hV⟩ : ∃ V, V = (v + 1) :: D ++ C := ⟨_, rfl⟩
  have vV : v + 1 ∈ V := by rw [hV]; simp
  rw [← hV] at lV dV
  -- the sequences, one by one
  have e1 : setS S V (u + 1) = A ++ (u + 1) :: B := by rw [setS_out (dV _ (by simp)), hA]
  obtain ⟨x, N1, free1, px1, px2, px3, px4, px5, px6, px7, px8, hx⟩ := take_any n N free it (cut2 (setS S V) (A ++ [u + 1]) B) u v wf (by omega) hn (by omega) (by omega)
  obtain ⟨y, N2, free2, py1, py2, py3, py4, py5, py6, py7, py8, hy⟩ := take_any n N1 free1 (upd it x ⟨0, false, 0⟩) (setS (cut2 (setS S V) (A ++ [u + 1]) B) [x]) v u px7 (by omega) hn (by omega) (by omega)
  have nxy : x ≠ y := fun e => py1 ((px5 y).2 (.inr e.symm))
  have nly : ¬ Live N free y := fun h => py1 ((px5 y).2 (.inl h))
  have live2 : ∀ j, Live N2 free2 j ↔ Live N free j ∨ j = x ∨ j = y := fun j => by rw [py5, px5]; exact ⟨fun h => h.elim (fun h => h.elim .inl (fun e => .inr (.inl e))) (fun e => .inr (.inr e)), fun h => h.elim (fun h => .inl (.inl h)) (fun h => h.elim (fun e => .inl (.inr e)) .inr)⟩
  have oxA : ∀ k, Live N free k → k ≠ x ∧ k ≠ y := fun k hk => ⟨fun e => px1 (e ▸ hk), fun e => nly (e ▸ hk)⟩
  have xV : x ∉ V := fun h => px1 (lV _ h)
  have yV : y ∉ V := fun h => nly (lV _ h)
  have xA : x ∉ A ++ (u + 1) :: B := fun h => px1 (mA _ h)
  have yA : y ∉ A ++ (u + 1) :: B := fun h => nly (mA _ h)
  obtain ⟨S2, hS2⟩ : ∃ S2, S2 = cut2 (setS S V) (A ++ [u + 1]) B := ⟨_, rfl⟩
  have q2u : S2 (u + 1) = A ++ [u + 1] := by rw [hS2]; exact cut2_X (by simp)
  have q2v : S2 (v + 1) = V := by rw [hS2, cut2_out (fun h => vA (by simp [h])) (fun h => vA (by simp at h ⊢; rcases h with h | h <;> simp [h])), setS_in vV]
  have q2b : ∀ k ∈ B, S2 k = B := fun k hk => by rw [hS2]; exact cut2_Y hk (fun h => by simp at h; rcases h with h | h; exact AB k hk h; exact uB (h ▸ hk))
  have o2 : ∀ Z, (∀ k ∈ A ++ [u + 1], k ∈ Z) → (∀ k ∈ B, k ∈ Z) → (∀ k ∈ V, k ∈ Z) → setS S2 Z = setS S Z := fun Z h1 h2 h3 => by rw [hS2, cut2_over h1 h2, setS_over h3]
  rw [← hS2] at hx hy
  obtain ⟨S4, hS4⟩ : ∃ S4, S4 = setS (setS S2 [x]) [y] := ⟨_, rfl⟩
  have q4 : ∀ k, k ≠ x → k ≠ y → S4 k = S2 k := fun k h1 h2 => by rw [hS4, setS_out (by simpa using h2), setS_out (by simpa using h1)]
  have q4x : S4 x = [x] := by rw [hS4, setS_out (by simpa using nxy), setS_in (by simp)]
  have q4y : S4 y = [y] := by rw [hS4, setS_in (by simp)]
  have q4u : S4 (u + 1) = A ++ [u + 1] := by rw [q4 _ (oxA _ lu).1 (oxA _ lu).2, q2u]
  have q4v : S4 (v + 1) = V := by rw [q4 _ (oxA _ lv).1 (oxA _ lv).2, q2v]
  have q4b : ∀ k ∈ B, S4 k = B := fun k hk => by have h := oxA k (mA k (by simp [hk])); rw [q4 k h.1 h.2, q2b k hk]
  have o4 : ∀ Z, x ∈ Z → y ∈ Z → setS S4 Z = setS S2 Z := fun Z h1 h2 => by rw [hS4, setS_over (by simpa using h2), setS_over (by simpa using h1)]
  rw [← hS4] at hy
  have HS2 : Hid (S2 = cut2 (setS S V) (A ++ [u + 1]) B) := hS2
  clear hS2 hS4
  have lu2 : Live N2 free2 (u + 1) := (live2 _).2 (.inl lu)
  have lv2 : Live N2 free2 (v + 1) := (live2 _).2 (.inl lv)
  have lx2 : Live N2 free2 x := (live2 _).2 (.inr (.inl rfl))
  have ly2 : Live N2 free2 y := (live2 _).2 (.inr (.inr rfl))
  obtain ⟨it2, hit2⟩ : ∃ it2, it2 = upd (upd it x ⟨0, false, 0⟩) y ⟨0, false, 0⟩ := ⟨_, rfl⟩
  rw [← hit2] at hy
  have mem3 : ∀ k, k ∈ A ++ [u + 1] ++ [x] → k ∈ A ∨ k = u + 1 ∨ k = x := fun k hk => by simp at hk; exact hk
  obtain ⟨r5, hj5⟩ := joinT N2 free2 it2 S4 (u + 1) x (A ++ [u + 1]) [x] (.inr ⟨lu2, q4u⟩) (.inr ⟨lx2, q4x⟩) (.inl (by rw [q4u, q4x]; exact fun e => (oxA _ lu).1 (by simpa using (e ▸ (by simp : u + 1 ∈ A ++ [u + 1]) : u + 1 ∈ [x]))))
  obtain ⟨S5, hS5⟩ : ∃ S5, S5 = setS S4 (A ++ [u + 1] ++ [x]) := ⟨_, rfl⟩
  rw [← hS5] at hj5
  have q5x : S5 x = A ++ [u + 1] ++ [x] := by rw [hS5]; exact setS_in (by simp)
  have out5 : ∀ k, k ∉ A → k ≠ u + 1 → k ≠ x → S5 k = S4 k := fun k h1 h2 h3 => by rw [hS5]; exact setS_out (fun h => (mem3 k h).elim h1 (fun h => h.elim h2 h3))
  have q5v : S5 (v + 1) = V := by rw [out5 _ (fun h => vA (by simp [h])) (by omega) (oxA _ lv).1, q4v]
  have q5y : S5 y = [y] := by rw [out5 _ (fun h => yA (by simp [h])) (oxA _ lu).2.symm nxy.symm, q4y]
  have q5b : ∀ k ∈ B, S5 k = B := fun k hk => by rw [out5 k (AB k hk) (fun e => uB (e ▸ hk)) (oxA k (mA k (by simp [hk]))).1, q4b k hk]
  obtain ⟨r6, hj6⟩ := joinT N2 free2 it2 S5 x (v + 1) (A ++ [u + 1] ++ [x]) V (.inr ⟨lx2, q5x⟩) (.inr ⟨lv2, q5v⟩) (.inl (by rw [q5x, q5v]; exact fun e => xV (e ▸ (by simp : x ∈ A ++ [u + 1] ++ [x]))))
  obtain ⟨S6, hS6⟩ : ∃ S6, S6 = setS S5 (A ++ [u + 1] ++ [x] ++ V) := ⟨_, rfl⟩
  rw [← hS6] at hj6
  have q6x : S6 x = A ++ [u + 1] ++ [x] ++ V := by rw [hS6]; exact setS_in (by simp)
  have out6 : ∀ k, k ∉ A → k ≠ u + 1 → k ≠ x → k ∉ V → S6 k = S5 k := fun k h1 h2 h3 h4 => by rw [hS6]; exact setS_out (fun h => (List.mem_append.1 h).elim (fun h => (mem3 k h).elim h1 (fun h => h.elim h2 h3)) h4)
  have q6y : S6 y = [y] := by rw [out6 _ (fun h => yA (by simp [h])) (oxA _ lu).2.symm nxy.symm yV, q5y]
  have q6b : ∀ k ∈ B, S6 k = B := fun k hk => by rw [out6 k (AB k hk) (fun e => uB (e ▸ hk)) (oxA k (mA k (by simp [hk]))).1 (dV k (by simp [hk])), q5b k hk]
  obtain ⟨r7, hj7⟩ := joinT N2 free2 it2 S6 x y (A ++ [u + 1] ++ [x] ++ V) [y] (.inr ⟨lx2, q6x⟩) (.inr ⟨ly2, q6y⟩) (.inl (by rw [q6x, q6y]; exact fun e => nxy (by simpa using (e ▸ (by simp : x ∈ A ++ [u + 1] ++ [x] ++ V) : x ∈ [y]))))
  obtain ⟨S7, hS7⟩ : ∃ S7, S7 = setS S6 (A ++ [u + 1] ++ [x] ++ V ++ [y]) := ⟨_, rfl⟩
  rw [← hS7] at hj7
  have q7y : S7 y = A ++ [u + 1] ++ [x] ++ V ++ [y] := by rw [hS7]; exact setS_in (by simp)
  have q7b : ∀ k ∈ B, S7 k = B := fun k hk => by
    rw [hS7, setS_out (fun h => by
      rcases List.mem_append.1 h with h | h
      · rcases List.mem_append.1 h with h | h
        · rcases mem3 k h with h | h | h
          · exact AB k hk h
          · exact uB (h ▸ hk)
          · exact (oxA k (mA k (by simp [hk]))).1 h
        · exact dV k (by simp [hk]) h
      · exact (oxA k (mA k (by simp [hk]))).2 (by simpa using h)), q6b k hk]
  obtain ⟨r8, hj8⟩ := joinT N2 free2 it2 S7 y (B.headD 0) (A ++ [u + 1] ++ [x] ++ V ++ [y]) B (.inr ⟨ly2, q7y⟩) (by
      cases B with
      | nil => exact .inl ⟨rfl, rfl⟩
      | cons b B => exact .inr ⟨(live2 _).2 (.inl (mA b (by simp))), q7b b (by simp)⟩) (by
      cases B with
      | nil => exact .inr (.inr rfl)
      | cons b B =>
        refine .inl ?_
        rw [q7y, show S7 ((b :: B).headD 0) = b :: B from q7b b (by simp)]
        exact fun e => yA (by have h : y ∈ b :: B := e ▸ (by simp : y ∈ A ++ [u + 1] ++ [x] ++ V ++ [y]); simp at h ⊢; rcases h with h | h <;> simp [h]))
  have eZ : setS S7 (A ++ [u + 1] ++ [x] ++ V ++ [y] ++ B) = setS S (linkZ A B C D (u + 1) (v + 1) x y) := by
    unfold linkZ
    rw [← hV, hS7, setS_over (fun k hk => by simp at hk ⊢; rcases hk with h | h | h | h | h <;> simp [h]), hS6, setS_over (fun k hk => by simp at hk ⊢; rcases hk with h | h | h | h <;> simp [h]), hS5, setS_over (fun k hk => by simp at hk ⊢; rcases hk with h | h | h <;> simp [h]), o4 _ (by simp) (by simp), o2 _ (fun k hk => by simp at hk ⊢; rcases hk with h | h <;> simp [h]) (fun k hk => by simp [hk]) (fun k hk => by simp [hk])]
  rw [eZ] at hj8
  refine ⟨x, y, N2, free2, px1, nly, nxy, ⟨px2, py2⟩, live2, by omega, fun w o L p g f ms hf1 hf2 hms T => ?_⟩
  rw [← hit2]
  have HX : Hid _ := hx
  have HY : Hid _ := hy
  have HJ5 : Hid _ := hj5
  have HJ6 : Hid _ := hj6
  have HJ7 : Hid _ := hj7
  have HJ8 : Hid _ := hj8
  have HS1 : Hid (S (v + 1) = C ++ (v + 1) :: D) := hC
  have HE1 : Hid (setS S V (u + 1) = A ++ (u + 1) :: B) := e1
  have HV : Hid (V = (v + 1) :: D ++ C) := hV
  have hsm := same_in w o L p n N free it S g f ms u v T hu hv lu lv
  rw [decide_eq_false hne] at hsm
  have hn0 : 0 < n := by omega
  obtain ⟨rest, hrest⟩ : ∃ r, r = B.headD 0 := ⟨_, rfl⟩
  rw [← hrest] at HJ8
  have HR : Hid (rest = B.headD 0) := hrest
  clear hx hy hj5 hj6 hj7 hj8 hS5 hS6 hS7 q5x out5 q5v q5y q5b q6x out6 q6y q6b q7y q7b q4 q4x q4y q4u q4v q4b o4 o2 q2u q2v q2b hC hA hV e1 hrest eZ xV yV xA yA nA mA mV lV dV vA uA uB AB vV mem3 T hit2
  have hun : (u : Int) < (n : Int) := by omega
  have hvn : (v : Int) < (n : Int) := by omega
  go_enter Try.func14, Try.ntmps14
  go_wp2_with fail
  refine hsm.mono ?_
  rintro e w1 ⟨rfl, o1, T1, s1⟩
  have hrr := reroot_in w1 o1 L p n N free it S g f ms v C D T1 hv lv HS1.out
  rw [← HV.out] at hrr
  clear hsm T1
  go_wp2_with fail
  refine hrr.mono ?_
  rintro e w2 ⟨rfl, o2, T2, s2⟩
  have t2 := s1.trans s2
  have hcb := cutBehind_any w2 o2 L p n N free it _ g f ms _ (u + 1) A B T2 lu HE1.out
  rw [← HR.out, ← HS2.out] at hcb
  obtain ⟨pf, bs, cap, ⟨hcp1, hcp2⟩, F2, HC, HT⟩ := T2.open hn0
  obtain ⟨⟨c0, c1⟩, cv⟩ := HC _ _ (Step.refl _ _ _)
  have cu := cv u hu
  clear hrr s1 s2 T2 F2 HC HT cv
  go_wp2_with fail
  refine hcb.mono ?_
  rintro e w3 ⟨rfl, o3, T3, s3⟩
  have t3 := (t2.trans s3).tl
  have htx := HX.out w3 o3 L p g f ms _ hf1 (by omega) T3
  clear hcb T3 c0 c1 cu
  go_wp2_with fail
  refine htx.mono ?_
  rintro e w4 ⟨rfl, o4, T4, s4⟩
  have t4 := t3.trans s4
  have hf2' : upd2 f u v x v u = 0 := by unfold upd2; rw [if_neg (fun h => huv h.2)]; exact hf2
  have hty := HY.out w4 o4 L p _ _ (ms + 1) _ hf2' (by omega) T4
  clear htx T4 HX s3 t3 t2 s4
  go_wp2_with fail
  refine hty.mono ?_
  rintro e w5 ⟨rfl, o5, T5, s5⟩
  have t5 := t4.trans s5
  obtain ⟨pf, bs, cap, ⟨hcp1, hcp2⟩, F5, HC5, HT5⟩ := T5.open hn0
  have HC : Hid _ := HC5
  have HT : Hid _ := HT5
  have sd : Step (FL L) w5 o5 w5.drew o5 := (Step.refl _ _ _).drew
  obtain ⟨⟨c0, c1⟩, cv⟩ := HC.out _ _ sd
  have cu := cv u hu
  have cv := cv v hv
  have F5d := F5.quiet ((Step.refl (fun _ => False) w5 o5).drew)
  clear hty HY T5 HC5 HT5 F5 t4 s5
  go_wp2_with fail
  go_region_held (fun wx => wx.cell? ⟨p, 0, none⟩ = some (.pointer (some ⟨pf, 0, none⟩)) ∧ wx.cell? ⟨p, 1, none⟩ = some (.slice (some ⟨bs, 0, none⟩) n cap) ∧ wx.cell? ⟨bs, u, none⟩ = some (.int .i64 (u + 1 : Nat))) (first | (with_reducible exact ⟨c0, c1, cu⟩) | (with_reducible exact K2)) ((go_at_call 44; refine (HJ5.out _ _ _ _ _ F5d).mono ?_; rintro e w6 ⟨rfl, o6, F6, s6'⟩; have s6 := sd.trans s6'; have K1 := HC.out _ _ s6; have K2 := (⟨K1.1.1, K1.1.2, K1.2 u hu⟩ : _ ∧ _ ∧ _)))
  all_goals
    have s6d := s6.drew
    have F6d := F6.quiet ((Step.refl (fun _ => False) w6 o6).drew)
    obtain ⟨⟨d0, d1⟩, dv⟩ := HC.out _ _ s6d
    have dv := dv v hv
    clear c0 c1 cu cv K1 K2 F5d HJ5 F6 sd
    go_wp2_with fail
    go_region_held (fun wx => wx.cell? ⟨p, 0, none⟩ = some (.pointer (some ⟨pf, 0, none⟩)) ∧ wx.cell? ⟨p, 1, none⟩ = some (.slice (some ⟨bs, 0, none⟩) n cap) ∧ wx.cell? ⟨bs, v, none⟩ = some (.int .i64 (v + 1 : Nat))) (first | (with_reducible exact ⟨d0, d1, dv⟩) | (with_reducible exact K2)) ((go_at_call 44; refine (HJ6.out _ _ _ _ _ F6d).mono ?_; rintro e w7 ⟨rfl, o7, F7, s7'⟩; have s7 := s6d.trans s7'; have K1 := HC.out _ _ s7; have K2 := (⟨K1.1.1, K1.1.2, K1.2 v hv⟩ : _ ∧ _ ∧ _)))
    all_goals
      obtain ⟨⟨e0, e1⟩, ev⟩ := HC.out _ _ s7
      have hj := HJ7.out _ _ _ _ _ F7
      clear d0 d1 dv K1 K2 F6d HJ6 F7 s6 s6d ev
      go_wp2_with fail
      refine hj.mono ?_
      rintro e w8 ⟨rfl, o8, F8, s8'⟩
      have s8 := s7.trans s8'
      obtain ⟨⟨f0, f1⟩, fv⟩ := HC.out _ _ s8
      have hj := HJ8.out _ _ _ _ _ F8
      clear e0 e1 HJ7 F8 s7 s8' fv
      go_wp2_with fail
      refine hj.mono ?_
      rintro e w9 ⟨rfl, o9, F9, s9'⟩
      have s9 := s8.trans s9'
      have R := HT.out _ _ _ _ s9 F9
      have RS := t5.trans s9.tl
      clear f0 f1 HJ8 F9 s8 s9' HC HT hj
      go_wp2
      go_ret
      exact ⟨rfl, o9, R, RS⟩

end Go.Proofs.Ytnpfagpgploolaa

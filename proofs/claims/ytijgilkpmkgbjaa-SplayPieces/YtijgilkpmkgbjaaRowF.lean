/- A forest with so many nodes in one sequence. -/
import Derived.Test.YtijgilkpmkgbjaaItems
import Derived.Test.YtijgilkpmkgbjaaOneSeq
namespace Go.Proofs.Ytijgilkpmkgbjaa
open Go.ChangeShapes Go.WideShapes Go.ChangeAt Go.RowKit
set_option linter.unusedVariables false

/-- The labels that a row of nodes is made under. -/
def RLab (la : Nat) : Nat → Prop := fun k => FL 1 k ∨ k = la
/-- What row leaves: a forest, its nodes in one sequence, their items. -/
def RowOut (w : World) (o : Nat → Nat) (la : Nat) (its : List It) (e : Ending) (w' : World) : Prop :=
  ∃ p v xs o' it S, e = .returned (.tuple #[.pointer (some ⟨p, 0, none⟩), v]) ∧ Fo w' o' 1 p 1024 its.length [] it S ∧ One its.length S xs ∧ (∀ j (hj : j < its.length), it (j + 1) = its[j]) ∧ Row w' o' la 3 1 v xs.length (intsL xs) ∧ Step (RLab la) w o w' o'
/-- The state of row's loop. -/
def RowS (w : World) (o : Nat → Nat) (la p : Nat) (its : List It) (k : Nat) (v : Value) (wr : World) : Prop :=
  ∃ xs o' it S, Fo wr o' 1 p 1024 k [] it S ∧ One k S xs ∧ (∀ j (hj : j < its.length), j < k → it (j + 1) = its[j]) ∧ Row wr o' la 3 1 v xs.length (intsL xs) ∧ Step (RLab la) w o wr o'
theorem RowS.grown {it : Nat → It} {its : List It} {k : Nat} (h : ∀ j (hj : j < its.length), j < k → it (j + 1) = its[j]) (hk : k < its.length) : ∀ j (hj : j < its.length), j < k + 1 → upd it (k + 1) its[k] (j + 1) = its[j] := fun j hj hjk => by
  by_cases e : j = k
  · subst e; exact upd_same ..
  · rw [upd_other _ _ (by omega)]; exact h j hj (by omega)

set_option maxRecDepth 100000 in
set_option maxHeartbeats 4000000 in
theorem row_any (w : World) (o : Nat → Nat) (la li : Nat) (vl : Value) (its : List It) (ah : Option Addr) (lenh caph : Nat) (z : Nat → Int) (hr : Row w o li 36 3 vl its.length (itsL its)) (hm : ∀ x ∈ its, It.may x) (hlen : its.length ≤ 1024) (ha : Arg0 w o ah lenh z) (hlh : lenh ≤ 9223372036854775807)
    (hla : ¬ FL 1 la) (hla0 : la ≠ 0) (hli : li ≠ la) (hli2 : ¬ FL 1 li) :
    Calls Try.prog 13 #[vl, .slice ah lenh caph] w fun e w' => RowOut w o la its e w' := by
  obtain ⟨ii, hii, hzi0, hzi1, hzi2⟩ := info_parts infoInt
  have n0 : ¬ RLab la 0 := fun h => by rcases h with h | h; exact absurd h.1 (by omega); exact hla0 h.symm
  have nli : ¬ RLab la li := fun h => by rcases h with h | h; exact hli2 h; exact hli h
  have fm := hr.form
  obtain ⟨al, cl, rfl⟩ := fm
  go_enter Try.func13, Try.ntmps13
  go_wp2_with fail
  refine (newF w o 1 1024 (fun _ => ⟨0, false, 0⟩) (fun _ => []) (by omega)).mono ?_
  rintro e w1 ⟨p, rfl, o1, F1, S1⟩
  have START : RowS w o la p its 0 (.slice none 0 0) w1 := ⟨[], o1, _, _, F1, One.empty _, fun j hj h => by omega, Row.nil _ _ _ _ _, S1.mono fun _ h => h.elim⟩
  clear F1 S1
  go_wp2
  go_loopw [8, 9] (fun v u wr => ∃ k : Nat, k ≤ its.length ∧ u = .int .i64 (k : Nat) ∧ RowS w o la p its k v wr) (fun _ u _ => its.length - (intOf u).toNat)
  case atStart => exact ⟨0, by omega, by go_num, START⟩
  case round =>
    clear START
    obtain ⟨k, hk, rfl, xs, o3, it, S, F3, O3, I3, r3, s3⟩ := hrel
    by_cases hlt : k < its.length
    · have hr3 := hr.step s3 nli
      obtain ⟨gl, cl', hv, hgl, hcl, hml, hltl, hcelll, hfrl⟩ := hr3.pos (by omega)
      simp only [Value.slice.injEq] at hv
      obtain ⟨rfl, _, rfl⟩ := hv
      obtain ⟨i0, i1, i2⟩ := itsL_get its k hlt
      have m0 := (hcelll (k * 3) (by omega)).trans i0
      have m1 := (hcelll (k * 3 + 1) (by omega)).trans i1
      have m2 := (hcelll (k * 3 + 2) (by omega)).trans i2
      have hmk := hm its[k] (List.getElem_mem _)
      have I4 := RowS.grown I3 hlt
      obtain ⟨x, hx⟩ : ∃ x, x = its[k] := ⟨_, rfl⟩
      rw [← hx] at m0 m1 m2 hmk I4
      have hc1 := makePushF wr o3 1 p 1024 k it S x F3 hmk (by omega)
      unfold itemV at hc1
      unfold maxLen at hml
      have H3 := ha.step s3 n0
      have hlx := O3.len
      clear hcelll i0 i1 i2 hr3 hx
      by_cases k0 : k = 0
      · subst k0
        obtain rfl : xs = [] := List.length_eq_zero_iff.1 hlx
        have fm := r3.form
        obtain ⟨ar, cr, rfl⟩ := fm
        have b1 : 0 + 1 ≤ maxLen := by unfold maxLen; omega
        go_wp2_with fail
        refine hc1.mono ?_
        rintro e w4 ⟨rfl, o4, F4, S4⟩
        have r4 := r3.step S4 hla
        clear hc1 m0 m1 m2 H3
        go_wp2_with (first | (at_builtin; refine wpList_append_lab rfl (.tmp 42) (.tmp 44) 42 rfl 3 ii (.int .i64 0) 1 8 Try.underlying42 hii hzi0 hzi1 hzi2 rfl (by decide) o4 la _ 0 (intsL []) rfl (r4.step (allocStep (fun _ => False) _ o4 _) (by simp)) ⟨w4.heap.size, 0, none⟩ 1 1 [.int .i64 1] rfl rfl (new_one_at (by simp) _ _) (by intro u hu; simp at hu; subst hu; rfl) (by decide) b1 (by omega) ?_) | go_in)
        intro g5 c5 w5 o5 r5 s5
        have t5 := (allocStep (fun k => k = la) w4 o4 _).trans s5
        have F5 := F4.step t5 (fun k hk e => hla (e ▸ hk))
        have S5 := (s3.trans (S4.mono fun k hk => Or.inl hk)).trans (t5.mono (J := RLab la) fun k hk => Or.inr hk)
        have G : RowS w o la p its 1 (.slice (some ⟨g5, 0, none⟩) 1 c5) w5 := ⟨[1], o5, _, _, F5, One.first, I4, r5, S5⟩
        clear F4 F5 r4 r5 s5 t5 S5 S4 r3 F3 s3
        go_wp2
        go_roundw
        case rel => (try ((repeat apply Exists.intro); refine ⟨?_, rfl⟩)); exact ⟨1, by omega, by go_num, G⟩
        case measure => simp [intOf]; omega
      · have k1 : ((k : Int) == 0) = false := by simp only [beq_eq_false_iff_ne, ne_eq]; omega
        obtain ⟨m, rfl⟩ : ∃ m, k = m + 1 := ⟨k - 1, by omega⟩
        obtain ⟨gx, cx, rfl, hgx, hcx, hmx, hltx, hcellx, hfrx⟩ := r3.pos (by omega)
        have ne0 := O3.ne
        rw [hlx] at r3 hcx ⊢
        have HX : Hid (xs.length = m + 1) := hlx
        unfold maxLen at hmx
        by_cases hfront : m + 1 < lenh ∧ z (m + 1) < 0
        · obtain ⟨h1, h2⟩ := hfront
          obtain ⟨bh, offh, rfl, hbh, hob, hch, _⟩ := H3 (m + 1) h1
          have hmem : xs[m]'(by omega) ∈ xs := List.getElem_mem _
          have HCL : Hid (∀ wx ox, Step (FL 1) wr o3 wx ox → wx.cell? ⟨gx, m, none⟩ = some (.int .i64 (xs[m]'(by omega) : Nat)) ∧ wx.cell? ⟨bh, offh + (m + 1), none⟩ = some (.int .i64 (z (m + 1)))) := fun wx ox s => by
            refine ⟨?_, ?_⟩
            · rw [s.cell hltx (by rw [hgx]; exact hla), hcellx m (by omega)]; exact intsL_get xs m (by omega)
            · rw [s.cell hbh (by rw [hob]; exact fun h => absurd h.1 (by omega))]; exact hch
          obtain ⟨b, hb⟩ : ∃ b, b = xs[m]'(by omega) := ⟨_, rfl⟩
          rw [← hb] at hmem HCL
          have hjn : upd S (m + 1 + 1) [m + 1 + 1] (m + 1 + 1) ≠ upd S (m + 1 + 1) [m + 1 + 1] b := by rw [upd_same, O3.made hmem]; exact ne0.symm
          have lb : Live (m + 1 + 1) [] b := ⟨(O3.live hmem).1, by have := (O3.live hmem).2.1; omega, by simp⟩
          have lh : Live (m + 1 + 1) [] (m + 1 + 1) := ⟨by omega, by omega, by simp⟩
          have OF := O3.front hmem
          clear hcellx hb hlx hch H3
          go_wp2_with fail
          refine hc1.mono ?_
          rintro e w4 ⟨rfl, o4, F4, S4⟩
          obtain ⟨y1, y2⟩ := HCL.out _ _ S4
          have hc2 := joinInF w4 o4 1 p 1024 (m + 1 + 1) [] _ _ (m + 1 + 1) b F4 lh lb hjn
          clear hc1 m0 m1 m2
          go_wp2_with fail
          refine hc2.mono ?_
          rintro e w5 ⟨rfl, o5, F5, S5⟩
          have S45 := S4.trans S5
          have r5 := r3.step S45 hla
          have n6 := newStep (fun k => k = la) w5 o5 la (.cells #[.int .i64 ((m : Int) + 1 + 1)] 3)
          have F6 := F5.step n6 (fun k hk e => hla (e ▸ hk))
          have r6 := r5.step (newStep (fun _ => False) w5 o5 la (.cells #[.int .i64 ((m : Int) + 1 + 1)] 3)) id
          have q6 : Row (w5.alloc (.cells #[.int .i64 ((m : Int) + 1 + 1)] 3)) (newLab w5 o5 la) la 3 1 (.slice (some ⟨w5.heap.size, 0, none⟩) 1 1) 1 [.int .i64 ((m : Int) + 1 + 1)] := ⟨World.ownsRow_lit w5 #[.int .i64 ((m : Int) + 1 + 1)] 1 (Nat.zero_le _) (by unfold maxLen; omega) (by simp), fun k hk => by simp [Value.ownBlock] at hk; subst hk; exact newLab_new (Nat.le_refl _)⟩
          have b1 : 1 + (m + 1) ≤ maxLen := by unfold maxLen; omega
          have hnews : ∀ j u, (intsL xs)[j]? = some u → (w5.alloc (.cells #[.int .i64 ((m : Int) + 1 + 1)] 3)).cell? ((⟨gx, 0, none⟩ : Addr).add j) = some u := fun j u hj => by
            have hjl := (List.getElem?_eq_some_iff.1 hj).1
            rw [intsL_length, HX.out] at hjl
            obtain ⟨g', cap', hv', _, _, _, _, hcell', _⟩ := r6.pos (by omega)
            simp only [Value.slice.injEq, Option.some.injEq, Addr.mk.injEq, and_true, true_and] at hv'
            obtain ⟨rfl, _⟩ := hv'
            have := hcell' j (by omega)
            rw [hj] at this
            unfold Addr.add
            by_cases j0 : j = 0
            · subst j0; simpa using this
            · simpa [j0] using this
          have HN : Hid _ := hnews
          have one : ∀ u ∈ intsL xs, u.oneCell' = true := fun u hu => by
            obtain ⟨h', _, rfl⟩ := List.mem_map.1 hu
            rfl
          have HO : Hid _ := one
          have ln : (intsL xs).length = (m + 1) * 1 := by rw [intsL_length, HX.out]; omega
          have HLn : Hid _ := ln
          have S6 := (s3.trans (S45.mono (J := RLab la) fun k hk => Or.inl hk)).trans (n6.mono (J := RLab la) fun k hk => Or.inr hk)
          clear hc2 F4 S4 S5 S45 r5 F5 n6 hnews one ln y1 y2
          go_wp2_with (first | (at_builtin; refine wpList_append_lab rfl (.tmp 69) (.tmp 70) 42 rfl 3 ii (.int .i64 0) 1 8 Try.underlying42 hii hzi0 hzi1 hzi2 rfl (by decide) (newLab w5 o5 la) la _ 1 [.int .i64 ((m : Int) + 1 + 1)] rfl q6 ⟨gx, 0, none⟩ (m + 1) cx (intsL xs) rfl HLn.out HN.out HO.out (by omega) b1 (by omega) ?_) | go_in)
          intro g7 c7 w7 o7 r7 s7
          have F7 := F6.step s7 (fun k hk e => hla (e ▸ hk))
          have S7 := S6.trans (s7.mono (J := RLab la) fun k hk => Or.inr hk)
          have G : RowS w o la p its (m + 1 + 1) (.slice (some ⟨g7, 0, none⟩) (1 + (m + 1)) c7) w7 := by
            refine ⟨(m + 1 + 1) :: xs, o7, _, _, F7, OF, I4, ?_, S7⟩
            have e1 : ((m + 1 + 1) :: xs).length = 1 + (m + 1) := by rw [List.length_cons, HX.out]; omega
            have e2 : [Value.int .i64 ((m : Int) + 1 + 1)] ++ intsL xs = intsL ((m + 1 + 1) :: xs) := by simp [intsL]
            rw [e1, ← e2]; exact r7
          clear F6 F7 r6 q6 r7 s7 S7 S6 HN HO HLn r3 F3 s3
          go_wp2
          go_roundw
          case rel => (try ((repeat apply Exists.intro); refine ⟨?_, rfl⟩)); exact ⟨m + 1 + 1, by omega, by go_num, G⟩
          case measure => simp [intOf]; omega
        · have hmem : xs[0]'(by omega) ∈ xs := List.getElem_mem _
          have HCL : Hid (∀ wx ox, Step (FL 1) wr o3 wx ox → wx.cell? ⟨gx, 0, none⟩ = some (.int .i64 (xs[0]'(by omega) : Nat))) := fun wx ox s => by
            rw [s.cell hltx (by rw [hgx]; exact hla), hcellx 0 (by omega)]; exact intsL_get xs 0 (by omega)
          obtain ⟨b, hb⟩ : ∃ b, b = xs[0]'(by omega) := ⟨_, rfl⟩
          rw [← hb] at hmem HCL
          have hjn : upd S (m + 1 + 1) [m + 1 + 1] b ≠ upd S (m + 1 + 1) [m + 1 + 1] (m + 1 + 1) := by rw [upd_same, O3.made hmem]; exact ne0
          have lb : Live (m + 1 + 1) [] b := ⟨(O3.live hmem).1, by have := (O3.live hmem).2.1; omega, by simp⟩
          have lh : Live (m + 1 + 1) [] (m + 1 + 1) := ⟨by omega, by omega, by simp⟩
          have OF := O3.back hmem
          have b1 : m + 1 + 1 ≤ maxLen := by unfold maxLen; omega
          have fin : ∀ (w4 : World) (o4 : Nat → Nat), Fo w4 o4 1 p 1024 (m + 1 + 1) [] (upd it (m + 1 + 1) x) (upd S (m + 1 + 1) [m + 1 + 1]) → Step (FL 1) wr o3 w4 o4 → Calls Try.prog 19 #[.pointer (some ⟨p, 0, none⟩), .int .i64 b, .int .i64 (m + 1 + 1 : Nat)] w4 fun e w' => e = .returned (.int .i64 0) ∧ ∃ o', Fo w' o' 1 p 1024 (m + 1 + 1) [] (upd it (m + 1 + 1) x) (joinS (upd S (m + 1 + 1) [m + 1 + 1]) b (m + 1 + 1)) ∧ Step (FL 1) wr o3 w' o' := fun w4 o4 F4 S4 => by
            refine (joinInF w4 o4 1 p 1024 (m + 1 + 1) [] _ _ b (m + 1 + 1) F4 lb lh hjn).mono ?_
            rintro e w5 ⟨rfl, o5, F5, S5⟩
            exact ⟨rfl, o5, F5, S4.trans S5⟩
          have FIN : Hid _ := fin
          have LAST : Hid (∀ (w5 : World) (o5 : Nat → Nat), Fo w5 o5 1 p 1024 (m + 1 + 1) [] (upd it (m + 1 + 1) x) (joinS (upd S (m + 1 + 1) [m + 1 + 1]) b (m + 1 + 1)) → Step (FL 1) wr o3 w5 o5 → ∀ g7 c7 w7 o7, Row w7 o7 la 3 1 (.slice (some ⟨g7, 0, none⟩) (m + 1 + 1) c7) (m + 1 + 1) (intsL xs ++ [.int .i64 ((m : Int) + 1 + 1)]) → ∀ ob, Step (fun k => k = la) (w5.alloc ob) o5 w7 o7 → RowS w o la p its (m + 1 + 1) (.slice (some ⟨g7, 0, none⟩) (m + 1 + 1) c7) w7) := fun w5 o5 F5 S5 g7 c7 w7 o7 r7 ob s7 => by
            have t7 := (allocStep (fun k => k = la) w5 o5 ob).trans s7
            refine ⟨xs ++ [m + 1 + 1], o7, _, _, F5.step t7 (fun k hk e => hla (e ▸ hk)), OF, I4, ?_, (s3.trans (S5.mono (J := RLab la) fun k hk => Or.inl hk)).trans (t7.mono (J := RLab la) fun k hk => Or.inr hk)⟩
            have e1 : (xs ++ [m + 1 + 1]).length = m + 1 + 1 := by rw [List.length_append, HX.out]; rfl
            have e2 : intsL xs ++ [Value.int .i64 ((m : Int) + 1 + 1)] = intsL (xs ++ [m + 1 + 1]) := by simp [intsL]
            rw [e1, ← e2]; exact r7
          clear hcellx hb hlx fin OF I4 lb lh hjn
          by_cases h1 : m + 1 < lenh
          · obtain ⟨bh, offh, rfl, hbh, hob, hch, _⟩ := H3 (m + 1) h1
            have h2 : ¬ z (m + 1) < 0 := fun h => hfront ⟨h1, h⟩
            have HCH : Hid (∀ wx ox, Step (FL 1) wr o3 wx ox → wx.cell? ⟨bh, offh + (m + 1), none⟩ = some (.int .i64 (z (m + 1)))) := fun wx ox s => by
              rw [s.cell hbh (by rw [hob]; exact fun h => absurd h.1 (by omega))]; exact hch
            clear hch H3 hfront
            go_wp2_with fail
            refine hc1.mono ?_
            rintro e w4 ⟨rfl, o4, F4, S4⟩
            have y1 := HCL.out _ _ S4
            have y2 := HCH.out _ _ S4
            clear hc1 m0 m1 m2
            go_wp2_with fail
            refine (FIN.out _ _ F4 S4).mono ?_
            rintro e w5 ⟨rfl, o5, F5, S5⟩
            have r5 := r3.step S5 hla
            clear F4 S4 y1 y2
            go_wp2_with (first | (at_builtin; refine wpList_append_lab rfl (.tmp 79) (.tmp 81) 42 rfl 3 ii (.int .i64 0) 1 8 Try.underlying42 hii hzi0 hzi1 hzi2 rfl (by decide) o5 la _ (m + 1) (intsL xs) rfl (r5.step (allocStep (fun _ => False) _ o5 _) (by simp)) ⟨w5.heap.size, 0, none⟩ 1 1 [.int .i64 ((m : Int) + 1 + 1)] rfl rfl (new_one_at (by simp) _ _) (by intro u hu; simp at hu; subst hu; rfl) (by decide) b1 (by omega) ?_) | go_in)
            intro g7 c7 w7 o7 r7 s7
            have G := LAST.out _ _ F5 S5 g7 c7 w7 o7 r7 _ s7
            clear F5 S5 r5 r7 s7 LAST FIN HCL HCH r3 F3 s3
            go_wp2
            go_roundw
            case rel => (try ((repeat apply Exists.intro); refine ⟨?_, rfl⟩)); exact ⟨m + 1 + 1, by omega, by go_num, G⟩
            case measure => simp [intOf]; omega
          · clear H3 hfront
            go_wp2_with fail
            refine hc1.mono ?_
            rintro e w4 ⟨rfl, o4, F4, S4⟩
            have y1 := HCL.out _ _ S4
            clear hc1 m0 m1 m2
            go_wp2_with fail
            refine (FIN.out _ _ F4 S4).mono ?_
            rintro e w5 ⟨rfl, o5, F5, S5⟩
            have r5 := r3.step S5 hla
            clear F4 S4 y1
            go_wp2_with (first | (at_builtin; refine wpList_append_lab rfl (.tmp 79) (.tmp 81) 42 rfl 3 ii (.int .i64 0) 1 8 Try.underlying42 hii hzi0 hzi1 hzi2 rfl (by decide) o5 la _ (m + 1) (intsL xs) rfl (r5.step (allocStep (fun _ => False) _ o5 _) (by simp)) ⟨w5.heap.size, 0, none⟩ 1 1 [.int .i64 ((m : Int) + 1 + 1)] rfl rfl (new_one_at (by simp) _ _) (by intro u hu; simp at hu; subst hu; rfl) (by decide) b1 (by omega) ?_) | go_in)
            intro g7 c7 w7 o7 r7 s7
            have G := LAST.out _ _ F5 S5 g7 c7 w7 o7 r7 _ s7
            clear F5 S5 r5 r7 s7 LAST FIN HCL r3 F3 s3
            go_wp2
            go_roundw
            case rel => (try ((repeat apply Exists.intro); refine ⟨?_, rfl⟩)); exact ⟨m + 1 + 1, by omega, by go_num, G⟩
            case measure => simp [intOf]; omega
    · obtain rfl : k = its.length := by omega
      have R : ∀ v, Row wr o3 la 3 1 v xs.length (intsL xs) → RowOut w o la its (.returned (.tuple #[.pointer (some ⟨p, 0, none⟩), v])) wr := fun v hv => ⟨p, v, xs, o3, it, S, rfl, F3, O3, fun j hj => I3 j hj hj, hv, s3⟩
      have R1 := R _ r3
      clear R F3 O3 I3 r3 s3 ha hr
      go_wp2
      go_ret2
      exact R1

end Go.Proofs.Ytijgilkpmkgbjaa

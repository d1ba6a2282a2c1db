/- The IDs of a path's edges, from above on. -/
import Derived.Test.YtddjaldamfileaaEvert
import Derived.Test.YtddjaldamfileaaArBase
namespace Go.Proofs.Ytddjaldamfileaa
open Go.ChangeShapes Go.WideShapes Go.ChangeAt Go.RowKit
set_option linter.unusedVariables false

theorem infoPN : (Try.prog.info? 73).map (fun i => (i.zero, i.size, i.bytes)) = some (some (.pointer none), 1, 8) := by kernel_rfl
theorem Gw.step {I : Nat → Prop} {w w' : World} {o o' : Nat → Nat} {L : Nat} {live : Nat → Prop} {pt : Nat → Nat} {E : Nat → Ed} {nd : Nat → Ln} {hv : Nat → Nat} {T S : Nat → List Nat} {P : Nat → Nat} (G : Gw w o L live pt E nd hv T S P) (s : Step I w o w' o') (hi : ∀ k, NL L k → ¬ I k) : Gw w' o' L live pt E nd hv T S P := ⟨G.m.step s G.s hi, G.s, G.c, G.v⟩
theorem Fg.step {I : Nat → Prop} {w w' : World} {o o' : Nat → Nat} {L : Nat} {live : Nat → Prop} {pt : Nat → Nat} {E : Nat → Ed} {R : Nat → List Nat} (F : Fg w o L live pt E R) (s : Step I w o w' o') (hi : ∀ k, NL L k → ¬ I k) : Fg w' o' L live pt E R := by
  obtain ⟨nd, hv, T, S, P, G, r⟩ := F
  exact ⟨nd, hv, T, S, P, G.step s hi, r⟩
/-- The IDs of a list's edges. -/
def idl (X : List Nat) : List Nat := (X.filter (fun k => k % 2 == 0)).map (fun k => (k - 2) / 2)
theorem idl_app (X Y : List Nat) : idl (X ++ Y) = idl X ++ idl Y := by simp [idl]
/-- What is left of the nodes that wait. -/
def rem (nd : Nat → Ln) (T : Nat → List Nat) : List Nat → List Nat
  | [] => []
  | h :: W => h :: T (nd h).r ++ rem nd T W
def ptrs (pt : Nat → Nat) (W : List Nat) : List Value := W.map fun h => .pointer (some ⟨pt h, 0, none⟩)
theorem ptrs_len (pt : Nat → Nat) (W : List Nat) : (ptrs pt W).length = W.length := by simp [ptrs]
theorem rem_len (nd : Nat → Ln) (T : Nat → List Nat) (W : List Nat) : W.length ≤ (rem nd T W).length := by
  induction W with
  | nil => simp [rem]
  | cons h W ih => simp [rem]; omega
theorem rem_mem (nd : Nat → Ln) (T : Nat → List Nat) (W : List Nat) {h : Nat} (m : h ∈ W) : h ∈ rem nd T W := by
  induction W with
  | nil => simp at m
  | cons x W ih =>
    rcases List.mem_cons.1 m with e | e
    · subst e; simp [rem]
    · simp [rem, ih e]
theorem rem_congr {nd nd' : Nat → Ln} {T T' : Nat → List Nat} (W : List Nat) (e : ∀ h ∈ W, T' (nd' h).r = T (nd h).r) : rem nd' T' W = rem nd T W := by
  induction W with
  | nil => rfl
  | cons h W ih => simp only [rem, e h (by simp), ih (fun x hx => e x (by simp [hx]))]
theorem small_len {live : Nat → Prop} (hs : Small live) (X : List Nat) (hn : X.Nodup) (hl : ∀ k ∈ X, live k) : X.length ≤ 3000000000000 :=
  len_le_of_nodup _ X hn fun k hk => by have := hs k (hl k hk); omega

set_option maxRecDepth 100000 in
set_option maxHeartbeats 4000000 in
theorem edges_any (w : World) (o : Nat → Nat) (L lb : Nat) (live : Nat → Prop) (pt : Nat → Nat) (E : Nat → Ed) (nd : Nat → Ln) (hv : Nat → Nat) (T S : Nat → List Nat) (P : Nat → Nat) (n : Nat) (G : Gw w o L live pt E nd hv T S P) (nl : live n) (hlb : ¬ NL L lb ∧ lb ≠ L + 4) :
    Calls Try.prog 42 #[.pointer (some ⟨pt n, 0, none⟩)] w fun e w' => ∃ v o', e = .returned v ∧ Row w' o' lb 3 1 v (idl (T n)).length (intsL (idl (T n))) ∧ (∃ nd' T', Gw w' o' L live pt E nd' hv T' S P) ∧ Step (fun k => NL L k ∨ k = L + 4 ∨ k = lb) w o w' o' := by
  have X1 := G.c.nodup n nl
  have X2 := small_len G.s (T n) X1 (fun k hk => (G.c.sub nl hk).1)
  have hn4 : ¬ NL L (L + 4) := fun h => by have := h.1; omega
  generalize hX : T n = X at X1 X2 ⊢
  obtain ⟨i0, hi, hz0, hz1, hz2⟩ := info_parts infoPN
  obtain ⟨ii, hii, hzi0, hzi1, hzi2⟩ := info_parts infoInt
  go_enter Try.func42, Try.ntmps42
  go_wp2_with fail
  go_loopg [3, 4, 5] (2 * X.length) (fun g vi vw va wr => ∃ o' nd' T' a W done, va = .pointer (pq pt a) ∧ (a ≠ 0 → live a) ∧ (∀ h ∈ W, live h) ∧ g + W.length + 2 * done.length = 2 * X.length ∧ Row wr o' (L + 4) 73 1 vw W.length (ptrs pt W.reverse) ∧ Row wr o' lb 3 1 vi (idl done).length (intsL (idl done)) ∧ Gw wr o' L live pt E nd' hv T' S P ∧ X = done ++ T' a ++ rem nd' T' W ∧ Step (fun k => NL L k ∨ k = L + 4 ∨ k = lb) w o wr o')
  case atStart => exact ⟨o, nd, T, n, [], [], by rw [pqn pt (G.s.ne nl)], fun _ => nl, by simp, by simp, Row.nil _ _ _ _ _, Row.nil _ _ _ _ _, G, by simp [rem, hX], Step.refl _ _ _⟩
  case round =>
    obtain ⟨o1, nd1, T1, a, W, done, rfl, la, lW, hg, rw1, ri1, G1, eX, SS1⟩ := hrel
    clear G
    by_cases a0 : a = 0
    · subst a0
      rw [pq0]
      rw [G1.c.t0, List.append_nil] at eX
      cases W with
      | nil =>
        simp only [rem, List.append_nil] at eX
        subst eX
        obtain ⟨aw, cw, rfl⟩ := rw1.form
        clear rw1
        go_wp2
        go_ret
        exact ⟨_, o1, rfl, ri1, ⟨nd1, T1, G1⟩, SS1⟩
      | cons h W =>
        have lh := lW h (by simp)
        obtain ⟨g, cap, rfl, og, hcap, hmax, hlt, hcell, hfz⟩ := rw1.pos (by simp)
        have ch : wr.cell? ⟨g, W.length, none⟩ = some (.pointer (some ⟨pt h, 0, none⟩)) := by
          rw [hcell W.length (by simp)]; simp [ptrs]
        clear hcell
        have rcut := rw1.cut W.length (by simp)
        obtain ⟨ai, ci, rfl⟩ := ri1.form
        have ecut : (ptrs pt (h :: W).reverse).take (W.length * 1) = ptrs pt W.reverse := by simp [ptrs]
        rw [ecut] at rcut
        simp only [List.length_cons] at hcap hmax hg ⊢
        have C := G1.m.node lh
        have ce := C.ed
        have cr := C.r
        have lr := (G1.c.cl h lh).2.2
        have lW1 : ∀ x ∈ W, live x := fun x hx => lW x (by simp [hx])
        have eX2 : X = (done ++ [h]) ++ T1 (nd1 h).r ++ rem nd1 T1 W := by rw [eX, rem]; simp
        have lX : done.length + 1 + W.length ≤ X.length := by
          rw [eX2]; have := rem_len nd1 T1 W; simp; omega
        have lI : ((W.length : Int) + 1 - 1) = W.length := by omega
        by_cases ev : h % 2 = 0
        · have eo : own h = h := by unfold own; rw [if_pos ev]
          rw [eo, pqn pt (G1.s.ne lh)] at ce
          have c7 := (G1.m.edge lh ev).1
          have eI : idl (done ++ [h]) = idl done ++ [(h - 2) / 2] := by rw [idl_app]; simp [idl, ev]
          have lI2 : (idl done).length ≤ done.length := by unfold idl; rw [List.length_map]; exact List.length_filter_le _ _
          generalize ((h - 2) / 2 : Nat) = hid at c7 eI
          clear C rw1 lW eX
          go_wp2_with (first | (at_builtin; refine wpList_append_lab rfl (.tmp 43) (.tmp 52) 52 rfl 3 ii (.int .i64 0) 1 8 Try.underlying52 hii hzi0 hzi1 hzi2 rfl (by decide) o1 lb _ (idl done).length (intsL (idl done)) rfl (ri1.step (allocStep (fun _ => False) _ o1 _) (by simp)) ⟨wr.heap.size, 0, none⟩ 1 1 [.int .i64 hid] rfl rfl ?d1 ?d2 (by decide) ?d3 ?d4 ?_) | go_in)
          case d1 => exact new_one_at (by simp) _ _
          case d2 => intro u hu; simp at hu; subst hu; rfl
          case d3 => unfold maxLen; omega
          case d4 => omega
          intro g4 cap4 w4 o4 hr hs
          have s5 := (allocStep (fun k => k = lb) wr o1 _).trans hs
          have hr5 : Row w4 o4 lb 3 1 (.slice (some ⟨g4, 0, none⟩) ((idl done).length + 1) cap4) (idl (done ++ [h])).length (intsL (idl (done ++ [h]))) := by
            have : intsL (idl (done ++ [h])) = intsL (idl done) ++ [.int .i64 hid] := by rw [eI]; simp [intsL]
            rw [this, eI]; simpa using hr
          have G4 := G1.step s5 (fun k hk x => hlb.1 (x ▸ hk))
          have rw4 := rcut.step s5 (Ne.symm hlb.2)
          have SS4 := SS1.trans (s5.mono fun k hk => .inr (.inr hk))
          have c4 := (G4.m.node lh).r
          clear hr hs G1 SS1 ri1 rcut s5 cr
          go_wp2
          go_roundg (2 * X.length - W.length - 2 * (done.length + 1))
          case measure => omega
          case rel => exact ⟨o4, nd1, T1, (nd1 h).r, W, done ++ [h], rfl, lr, lW1, by simp; omega, rw4, hr5, G4, eX2, SS4⟩
        · have eo : own h = 0 := by unfold own; rw [if_neg ev]
          rw [eo, pq0] at ce
          have eI : idl (done ++ [h]) = idl done := by rw [idl_app]; simp [idl, ev]
          have ri2 : Row wr o1 lb 3 1 (.slice ai (idl done).length ci) (idl (done ++ [h])).length (intsL (idl (done ++ [h]))) := by rw [eI]; exact ri1
          clear C rw1 lW eX
          go_wp2
          go_roundg (2 * X.length - W.length - 2 * (done.length + 1))
          case measure => omega
          case rel => exact ⟨o1, nd1, T1, (nd1 h).r, W, done ++ [h], rfl, lr, lW1, by simp; omega, rcut, ri2, G1, eX2, SS1⟩
    · have la := la a0
      rw [pqn pt a0]
      have hc := settle_any wr o1 L live pt E nd1 hv T1 S P a G1 la
      obtain ⟨aw, cw, rfl⟩ := rw1.form
      go_wp2_with fail
      refine hc.mono ?_
      rintro e w2 ⟨rfl, nd2, T2, G2, O2, SS2⟩
      have rw2 := rw1.step SS2 hn4
      have ri2 := ri1.step SS2 hlb.1
      have SS3 := SS1.trans (SS2.mono fun k hk => .inl hk)
      have ta := G2.c.t a la
      rw [if_neg (by simp [O2.tw])] at ta
      have e2 : T2 a = T1 a := O2.tt a (Ne.symm (G1.c.ne_l la)) (Ne.symm (G1.c.ne_r la))
      have lenW : W.length + 1 ≤ X.length := by
        have := rem_len nd1 T1 W
        rw [eX]; simp only [List.length_append]; rw [← e2, ta]; simp; omega
      have eX2 : X = done ++ T2 (nd2 a).l ++ rem nd2 T2 (a :: W) := by
        have e3 : rem nd2 T2 W = rem nd1 T1 W := rem_congr W fun h hh => by
          have ha : h ≠ a := fun x => by
            rw [eX] at X1
            have := (List.nodup_append.1 X1).2.2 a (List.mem_append_right _ (G1.c.selfT la)) h (rem_mem nd1 T1 W hh)
            exact this x.symm
          have lh := lW h hh
          rw [(O2.lr h ha).2]
          by_cases r0 : (nd1 h).r = 0
          · rw [r0, G1.c.t0, G2.c.t0]
          · refine O2.tt _ (fun x => ?_) (fun x => ?_)
            · exact ha (G1.c.of_r lh la r0 (.inl x.symm)).symm
            · exact ha (G1.c.of_r lh la r0 (.inr x.symm)).symm
        rw [eX, rem, e3, ← e2, ta]; simp
      clear hc SS1 SS2 rw1 ri1
      go_wp2_with (first | (at_builtin; refine wpList_append_lab rfl (.tmp 19) (.tmp 21) 91 rfl 73 i0 (.pointer none) 1 8 Try.underlying91 hi hz0 hz1 hz2 rfl (by decide) o1 (L + 4) _ W.length (ptrs pt W.reverse) rfl (rw2.step (allocStep (fun _ => False) _ o1 _) (by simp)) ⟨w2.heap.size, 0, none⟩ 1 1 [.pointer (some ⟨pt a, 0, none⟩)] rfl rfl ?c1 ?c2 (by decide) ?c3 ?c4 ?_) | go_in)
      case c1 => exact new_one_at (by simp) _ _
      case c2 => intro u hu; simp at hu; subst hu; rfl
      case c3 => unfold maxLen; omega
      case c4 => omega
      intro g4 cap4 w4 o4 hr hs
      have s5 := (allocStep (fun k => k = L + 4) w2 o1 _).trans hs
      have hr5 : Row w4 o4 (L + 4) 73 1 (.slice (some ⟨g4, 0, none⟩) (W.length + 1) cap4) (a :: W).length (ptrs pt (a :: W).reverse) := by
        have : ptrs pt (a :: W).reverse = ptrs pt W.reverse ++ [.pointer (some ⟨pt a, 0, none⟩)] := by simp [ptrs]
        rw [this]; exact hr
      have G4 := G2.step s5 (fun k hk x => hn4 (x ▸ hk))
      have ri4 := ri2.step s5 hlb.2
      have SS4 := SS3.trans (s5.mono fun k hk => .inr (.inl hk))
      have c4 := (G4.m.node la).l
      have lc := (G4.c.cl a la).2.1
      have lW4 : ∀ h ∈ a :: W, live h := fun h hh => (List.mem_cons.1 hh).elim (fun x => x ▸ la) (lW h)
      have lX : done.length + 1 + W.length ≤ X.length := by
        rw [eX2]; have := rem_len nd2 T2 (a :: W); simp at this ⊢; omega
      clear hr hs G1 G2 O2 SS3 ri2 rw2 s5 e2 ta eX
      go_wp2
      go_roundg (2 * X.length - (W.length + 1) - 2 * done.length)
      case measure => omega
      case rel => exact ⟨o4, nd2, T2, (nd2 a).l, a :: W, done, rfl, lc, lW4, by simp; omega, hr5, ri4, G4, eX2, SS4⟩

end Go.Proofs.Ytddjaldamfileaa

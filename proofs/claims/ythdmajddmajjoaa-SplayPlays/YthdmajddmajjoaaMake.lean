/- New, and Make: a node more. -/
import Derived.Test.YthdmajddmajjoaaAsks
import Derived.Test.YthdmajddmajjoaaChg
namespace Go.Proofs.Ythdmajddmajjoaa
open Go.ChangeShapes Go.WideShapes Go.ChangeAt Go.RowKit
set_option linter.unusedVariables false

theorem Tr.empty {live : Nat → Prop} (no : ∀ k, ¬ live k) (N : Nat) (nd : Nat → Nd) (S : Nat → List Nat) : Tr live N nd (fun _ => []) S :=
  ⟨no 0, fun k h => absurd h (no k), rfl, fun k h => absurd h (no k), fun k h => absurd h (no k), fun k h => absurd h (no k), fun k h => absurd h (no k), fun k h => absurd h (no k), fun k h => absurd h (no k), fun k h => absurd h (no k), fun k h => absurd h (no k), fun k h => absurd h (no k), fun k h => absurd h (no k), fun k h => absurd h (no k)⟩
theorem Blk.cells3 {w : World} {o : Nat → Nat} {i b : Nat} {a0 a1 a2 : Value} {t : TypeId} (h : Blk w o i b (.cells #[a0, a1, a2] t (0, 0))) :
    w.cell? ⟨b, 0, none⟩ = some a0 ∧ w.cell? ⟨b, 1, none⟩ = some a1 ∧ w.cell? ⟨b, 2, none⟩ = some a2 ∧ ∀ j, w.frozen? ⟨b, j, none⟩ = false := by
  refine ⟨?_, ?_, ?_, fun j => frozen_of_row w b j _ t h.1⟩ <;> simp [cell_of_row w b _ _ t (0, 0) h.1]
def itemR (v : Int) (c : Bool) (f : Int) : Value := .agg #[.int .i64 v, .bool c, .int .i64 f]
def mayB (v f : Int) : Bool := decide (-1099511627776 ≤ v) && decide (v ≤ 1099511627776) && decide (0 ≤ f) && decide (f ≤ 255)
theorem mayB_it {v f : Int} (c : Bool) (h : mayB v f = true) : ∃ x : It, x.may ∧ x.v = v ∧ x.c = c ∧ (x.f : Int) = f ∧ itemR v c f = itemV x := by
  simp only [mayB, Bool.and_eq_true, decide_eq_true_eq] at h
  obtain ⟨⟨⟨h1, h2⟩, h3⟩, h4⟩ := h
  have e : ((f.toNat : Nat) : Int) = f := by omega
  exact ⟨⟨v, c, f.toNat⟩, ⟨h1, h2, by show f.toNat ≤ 255; omega⟩, rfl, rfl, e, by unfold itemR itemV; rw [e]⟩
theorem mayB_of (x : It) (h : x.may) : mayB x.v x.f = true := by
  obtain ⟨h1, h2, h3⟩ := h
  simp only [mayB, Bool.and_eq_true, decide_eq_true_eq]
  exact ⟨⟨⟨h1, h2⟩, by omega⟩, by omega⟩

theorem mayBe_any (w : World) (o : Nat → Nat) (v : Int) (c : Bool) (f : Int) :
    Calls Try.prog 37 #[itemR v c f] w fun e w' => e = .returned (.bool (mayB v f)) ∧ Step (fun _ => False) w o w' o := by
  unfold itemR
  by_cases h1 : -1099511627776 ≤ v
  · by_cases h2 : v ≤ 1099511627776
    · by_cases h3 : 0 ≤ f
      · by_cases h4 : f ≤ 255
        · have e : mayB v f = true := by simp [mayB, h1, h2, h3, h4]
          rw [e]
          clear e
          go_enter Try.func37, Try.ntmps37
          go_wp2
          go_ret
          exact ⟨rfl, newB _ _ _⟩
        · have e : mayB v f = false := by simp [mayB, h1, h2, h3, h4]
          rw [e]
          clear e
          go_enter Try.func37, Try.ntmps37
          go_wp2
          go_ret
          exact ⟨rfl, newB _ _ _⟩
      · have e : mayB v f = false := by simp [mayB, h1, h2, h3]
        rw [e]
        clear e
        go_enter Try.func37, Try.ntmps37
        go_wp2
        go_ret
        exact ⟨rfl, newB _ _ _⟩
    · have e : mayB v f = false := by simp [mayB, h1, h2]
      rw [e]
      clear e
      go_enter Try.func37, Try.ntmps37
      go_wp2
      go_ret
      exact ⟨rfl, newB _ _ _⟩
  · have e : mayB v f = false := by simp [mayB, h1]
    rw [e]
    clear e
    go_enter Try.func37, Try.ntmps37
    go_wp2
    go_ret
    exact ⟨rfl, newB _ _ _⟩

theorem newBadF (w : World) (x : Int) (hx : x < 0 ∨ 1024 < x) :
    Calls Try.prog 5 #[.int .i64 x] w fun e w' => e = .returned (.tuple #[.pointer none, .int .i64 1]) ∧ w' = w := by
  rcases hx with hx | hx
  · go_enter Try.func5, Try.ntmps5
    go_wp2
    go_ret2
    exact ⟨rfl, rfl⟩
  · have hx0 : ¬ x < 0 := by omega
    go_enter Try.func5, Try.ntmps5
    go_wp2
    go_ret2
    exact ⟨rfl, rfl⟩
theorem newF (w : World) (o : Nat → Nat) (L r : Nat) (it : Nat → It) (S : Nat → List Nat) (hr : r ≤ 1024) :
    Calls Try.prog 5 #[.int .i64 r] w fun e w' => ∃ p, e = .returned (.tuple #[.pointer (some ⟨p, 0, none⟩), .int .i64 0]) ∧ ∃ o', Fo w' o' L p r 0 [] it S ∧ Step (fun _ => False) w o w' o' := by
  have hx0 : ¬ (r : Int) < 0 := by omega
  have hx1 : ¬ (1024 : Int) < (r : Int) := by omega
  have hc := newNod w o (L + 1) r (by omega)
  go_enter Try.func5, Try.ntmps5
  go_wp2_with fail
  refine hc.mono ?_
  rintro e w1 ⟨rfl, o1, A1, S1⟩
  go_wp2
  go_ret2
  refine ⟨_, rfl, newLab w1 o1 L, ⟨fun _ => 0, fun _ => ⟨⟨0, false, 0⟩, 0, 0, 0, 0, Ag.zero⟩, fun _ => [], ⟨w.heap.size, [], ⟨heap_alloc_new w1 _, newLab_new (Nat.le_refl _)⟩, A1.step (newStep (fun _ => False) w1 o1 L _) (fun _ _ => id), hr, fun h hl => absurd hl.2.1 (by have := hl.1; omega)⟩, ?_, fun k hk => absurd hk.2.1 (by have := hk.1; omega)⟩, S1.trans (newStep (fun _ => False) w1 o1 L _)⟩
  exact Tr.empty (fun k hk => absurd hk.2.1 (by have := hk.1; omega)) 0 _ S

/-- The nodes, with one more. -/
theorem Fm.made {w w2 w3 : World} {o o2 o3 : Nat → Nat} {L p room n n' : Nat} {free free' : List Nat} {pt : Nat → Nat} {nd : Nat → Nd} {pa : Nat} {cs cs' : List Value} {h b : Nat} {x : Nd}
    (h0 : Blk w o L p (.cells #[.pointer (some ⟨pa, 0, none⟩)] 55 (0, 0))) (h2 : room ≤ 1024)
    (h3 : ∀ k, Live n free k → cs[k - 1]? = some (.pointer (some ⟨pt k, 0, none⟩)) ∧ Blk w o (L + 5 + k) (pt k) (.cells (nd k).cells 79 (0, 0)))
    (s2 : Step (fun _ => False) w o w2 o2) (hB : Blk w2 o2 (L + 5 + h) b (.cells x.cells 79 (0, 0)))
    (hA : Ar 87 53 1 w3 o3 (L + 1) pa room n' cs' free') (s3 : Step (IL (L + 1)) w2 o2 w3 o3)
    (hlive : ∀ k, Live n' free' k → k ≠ h → Live n free k) (hh1 : 1 ≤ h) (hcs : cs'[h - 1]? = some (.pointer (some ⟨b, 0, none⟩))) (hcs2 : ∀ k, Live n free k → k ≠ h → cs'[k - 1]? = cs[k - 1]?) :
    Fm w3 o3 L p room n' free' (upd pt h b) (upd nd h x) := by
  refine ⟨pa, cs', (h0.step s2 id).step s3 (fun hx => by have := hx.1; omega), hA, h2, fun k hk => ?_⟩
  by_cases e : k = h
  · subst e
    rw [upd_same, upd_same]
    exact ⟨hcs, hB.step s3 (fun hx => by have := hx.2; omega)⟩
  · rw [upd_other _ _ e, upd_other _ _ e, hcs2 k (hlive k hk e) e]
    obtain ⟨g1, g2⟩ := h3 k (hlive k hk e)
    exact ⟨g1, (g2.step s2 id).step s3 (fun hx => by have := hx.2; have := hk.1; omega)⟩
theorem upd_it {n' n : Nat} {free' free : List Nat} {nd : Nat → Nd} {it : Nat → It} {h : Nat} {x : It} {y : Nd} (hy : y.it = x) (e : ∀ k, Live n free k → (nd k).it = it k) (hlive : ∀ k, Live n' free' k → k ≠ h → Live n free k) : ∀ k, Live n' free' k → (upd nd h y k).it = upd it h x k := fun k hk => by
  by_cases e2 : k = h
  · subst e2; rw [upd_same, upd_same]; exact hy
  · rw [upd_other _ _ e2, upd_other _ _ e2]; exact e k (hlive k hk e2)

theorem makeBadF (w : World) (o : Nat → Nat) (L p room n : Nat) (free : List Nat) (it : Nat → It) (S : Nat → List Nat) (v : Int) (c : Bool) (f : Int) (F : Fo w o L p room n free it S) (hb : mayB v f = false) :
    Calls Try.prog 10 #[.pointer (some ⟨p, 0, none⟩), itemR v c f] w fun e w' => e = .returned (.tuple #[.int .i64 0, .int .i64 1]) ∧ Step (fun _ => False) w o w' o := by
  have hc := fun wx => mayBe_any wx o v c f
  rw [hb] at hc
  unfold itemR at hc ⊢
  go_enter Try.func10, Try.ntmps10
  go_wp2_with fail
  refine (hc _).mono ?_
  rintro e w1 ⟨rfl, s1⟩
  have s2 := (newB w o _).trans s1
  clear hc s1
  go_wp2
  go_ret2
  exact ⟨rfl, s2⟩

set_option maxRecDepth 100000 in
theorem makePushF (w : World) (o : Nat → Nat) (L p room n : Nat) (it : Nat → It) (S : Nat → List Nat) (x : It) (F : Fo w o L p room n [] it S) (hx : x.may) (hroom : n < room) :
    Calls Try.prog 10 #[.pointer (some ⟨p, 0, none⟩), itemV x] w fun e w' => e = .returned (.tuple #[.int .i64 (n + 1 : Nat), .int .i64 0]) ∧ ∃ o', Fo w' o' L p room (n + 1) [] (upd it (n + 1) x) (upd S (n + 1) [n + 1]) ∧ Step (FL L) w o w' o' := by
  obtain ⟨pt, nd, T, ⟨pa, cs, h0, h1, h2, h3⟩, H, e⟩ := F
  have hcl : cs.length = n := by obtain ⟨_, _, _, _, hh, _⟩ := h1; rw [hh.len]; omega
  obtain ⟨f, hf⟩ : ∃ f : Int, f = x.f := ⟨_, rfl⟩
  have hmb := mayB_of x hx
  have hc := fun wx => mayBe_any wx (newLab w o (L + 5)) x.v x.c x.f
  rw [hmb] at hc
  have i0 : Step (fun _ => False) w o (w.alloc (.cells #[.int .i64 x.v, .bool x.c, .int .i64 x.f] 36)) (newLab w o (L + 5)) := newStep _ _ _ _ _
  have B0 : Blk (w.alloc (.cells #[.int .i64 x.v, .bool x.c, .int .i64 x.f] 36)) (newLab w o (L + 5)) (L + 5) w.heap.size (.cells #[.int .i64 x.v, .bool x.c, .int .i64 x.f] 36 (0, 0)) := ⟨heap_alloc_new w _, newLab_new (Nat.le_refl _)⟩
  have nL : ¬ IL (L + 1) L := fun h => by have := h.1; omega
  have nL5 : ¬ IL (L + 1) (L + 5) := fun h => by have := h.2; omega
  have g0 := h0.step i0 id
  unfold itemR at hc
  unfold itemV
  have HC : Hid (∀ wx ox, Step (IL (L + 1)) (w.alloc (.cells #[.int .i64 x.v, .bool x.c, .int .i64 x.f] 36)) (newLab w o (L + 5)) wx ox → (wx.cell? ⟨p, 0, none⟩ = some (.pointer (some ⟨pa, 0, none⟩)) ∧ wx.cell? ⟨w.heap.size, 0, none⟩ = some (.int .i64 x.v) ∧ wx.cell? ⟨w.heap.size, 1, none⟩ = some (.bool x.c) ∧ wx.cell? ⟨w.heap.size, 2, none⟩ = some (.int .i64 x.f))) := fun wx ox s => by
    obtain ⟨b0, b1, b2, _⟩ := (B0.step s nL5).cells3
    exact ⟨(g0.step s nL).cells1.1, b0, b1, b2⟩
  go_enter Try.func10, Try.ntmps10
  go_wp2_with fail
  refine (hc _).mono ?_
  rintro e w1 ⟨rfl, s1⟩
  have t1 : Step (IL (L + 1)) _ _ w1 _ := s1.mono fun _ h => h.elim
  have t1d := t1.drew
  have i1d := (i0.trans s1).drew
  have hA1 := h1.step i1d (fun _ _ => id)
  clear hc
  go_wp2_with fail
  go_region_held (fun wx => wx.cell? ⟨p, 0, none⟩ = some (.pointer (some ⟨pa, 0, none⟩)) ∧ wx.cell? ⟨w.heap.size, 0, none⟩ = some (.int .i64 x.v) ∧ wx.cell? ⟨w.heap.size, 1, none⟩ = some (.bool x.c) ∧ wx.cell? ⟨w.heap.size, 2, none⟩ = some (.int .i64 x.f)) (first | (with_reducible exact HC.out _ _ tP) | (with_reducible exact HC.out _ _ (tC.alloc _)) | (with_reducible exact HC.out _ _ tC) | (with_reducible exact HC.out _ _ t1d)) ((first
    | (go_at_call 39; refine (single_sub w1.drew _ (newLab w o (L + 5)) x (Step.refl _ _ _)).mono ?_; rintro e wC ⟨rfl, sC⟩; have tC := t1d.trans (sC.mono fun _ h => h.elim); unfold sumsV)
    | (go_at_call 38; refine (putPushNod _ (newLab wC (newLab w o (L + 5)) (L + 5 + (n + 1))) (L + 1) pa room n cs (some ⟨wC.heap.size, 0, none⟩) hroom (hA1.step (sC.trans (newStep (fun _ => False) wC (newLab w o (L + 5)) (L + 5 + (n + 1)) _)) (fun _ _ => id))).mono ?_; rintro e wP ⟨rfl, oP, AP, sP⟩; have tP := (tC.trans (newStep (IL (L + 1)) wC (newLab w o (L + 5)) (L + 5 + (n + 1)) _)).trans sP)))
  all_goals
    have s2 := (i1d.trans sC).trans (newStep (fun _ => False) wC (newLab w o (L + 5)) (L + 5 + (n + 1)) (.cells (Nd.cells ⟨x, 0, 0, 0, 1, x.one⟩) 79))
    have hB : Blk (wC.alloc (.cells (Nd.cells ⟨x, 0, 0, 0, 1, x.one⟩) 79)) (newLab wC (newLab w o (L + 5)) (L + 5 + (n + 1))) (L + 5 + (n + 1)) wC.heap.size (.cells (Nd.cells ⟨x, 0, 0, 0, 1, x.one⟩) 79 (0, 0)) := ⟨heap_alloc_new wC _, newLab_new (Nat.le_refl _)⟩
    have hlive : ∀ k, Live (n + 1) [] k → k ≠ n + 1 → Live n [] k := fun k hk hne => ⟨hk.1, by have := hk.2.1; omega, hk.2.2⟩
    have FZ := Fm.made h0 h2 h3 s2 hB AP sP hlive (by omega) (by rw [Nat.add_sub_cancel, List.getElem?_append_right (by omega)]; simp [hcl]) (fun k hk hne => by rw [List.getElem?_append_left]; have := hk.2.1; have := hk.1; omega)
    have HZ := H.make (live' := Live (n + 1) []) (N' := n + 1) (h := n + 1) (fun hk => by have := hk.2.1; omega) (by omega) (fun k => ⟨fun hk => by by_cases e : k = n + 1; exact .inl e; exact .inr (hlive k hk e), fun hk => by rcases hk with rfl | hk; exact ⟨by omega, by omega, by simp⟩; exact ⟨hk.1, by have := hk.2.1; omega, hk.2.2⟩⟩) (fun k hk => hk.2.1) x hx
    have EZ := upd_it (n' := n + 1) (free' := []) (h := n + 1) (x := x) (y := ⟨x, 0, 0, 0, 1, x.one⟩) rfl e hlive
    have R := Fo.mk FZ HZ EZ
    have RS := (s2.ff (L := L)).trans (sP.mono (J := FL L) fun k hk => ⟨by have := hk.1; omega, by have := hk.2; omega⟩)
    clear HC t1 t1d i1d hA1 tC tP s2 hB FZ HZ EZ AP sP sC s1 i0 B0 g0 h0 h1 h3 H e
    go_wp2
    go_ret2
    exact ⟨rfl, oP, R, RS⟩

end Go.Proofs.Ythdmajddmajjoaa

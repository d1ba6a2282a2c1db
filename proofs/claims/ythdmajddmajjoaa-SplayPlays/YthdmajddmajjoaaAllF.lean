/- All: the nodes of a sequence, in their order. -/
import Derived.Test.YthdmajddmajjoaaAsks
namespace Go.Proofs.Ythdmajddmajjoaa
open Go.ChangeShapes Go.WideShapes Go.ChangeAt Go.RowKit
set_option linter.unusedVariables false

/-- What waits on a stack: each node and all behind it, the last one first. -/
def pend (T : Nat → List Nat) (nd : Nat → Nd) : List Nat → List Nat
  | [] => []
  | x :: ws => pend T nd ws ++ (x :: T (nd x).r)
theorem pend_snoc (T : Nat → List Nat) (nd : Nat → Nd) (ws : List Nat) (x : Nat) : pend T nd (ws ++ [x]) = x :: T (nd x).r ++ pend T nd ws := by
  induction ws with
  | nil => simp [pend]
  | cons y ws ih => simp [pend, ih]
/-- How many rounds are to come for a stack. -/
def costs (T : Nat → List Nat) (nd : Nat → Nd) : List Nat → Nat
  | [] => 0
  | x :: ws => costs T nd ws + (1 + 2 * (T (nd x).r).length)
theorem costs_snoc (T : Nat → List Nat) (nd : Nat → Nd) (ws : List Nat) (x : Nat) : costs T nd (ws ++ [x]) = 1 + 2 * (T (nd x).r).length + costs T nd ws := by
  induction ws with
  | nil => simp [costs]
  | cons y ws ih => simp [costs, ih]; omega
theorem costs_len (T : Nat → List Nat) (nd : Nat → Nd) (ws : List Nat) : ws.length ≤ costs T nd ws := by
  induction ws with
  | nil => simp
  | cons y ws ih => simp [costs]; omega

theorem pend_len (T : Nat → List Nat) (nd : Nat → Nd) (ws : List Nat) : ws.length ≤ (pend T nd ws).length := by
  induction ws with
  | nil => simp
  | cons y ws ih => simp [pend]; omega
theorem snoc_of_pos {ws : List Nat} (h : 0 < ws.length) : ∃ us x, ws = us ++ [x] := by
  cases hws : ws.reverse with
  | nil => simp at hws; subst hws; simp at h
  | cons x us => exact ⟨us.reverse, x, by have := congrArg List.reverse hws; simpa using this⟩

theorem Fm.step5 {I : Nat → Prop} {w w' : World} {o o' : Nat → Nat} {L p room n : Nat} {free : List Nat} {pt : Nat → Nat} {nd : Nat → Nd} (h : Fm w o L p room n free pt nd) (s : Step I w o w' o') (hi : ∀ k, FL L k → k ≠ L + 5 → ¬ I k) : Fm w' o' L p room n free pt nd := by
  have hn := h.le
  obtain ⟨pa, cs, h0, h1, h2, h3⟩ := h
  refine ⟨pa, cs, h0.step s (hi _ ⟨by omega, by omega⟩ (by omega)), h1.step s (fun k hk => hi k ⟨by have := hk.1; omega, by have := hk.2; omega⟩ (by have := hk.1; have := hk.2; omega)), h2, fun h hl => ?_⟩
  obtain ⟨g1, g2⟩ := h3 h hl
  exact ⟨g1, g2.step s (hi _ ⟨by omega, by have := hl.2.1; omega⟩ (by have := hl.1; omega))⟩

theorem allOutF (w : World) (o : Nat → Nat) (L p room n : Nat) (free : List Nat) (it : Nat → It) (S : Nat → List Nat) (x : Int) (F : Fo w o L p room n free it S) (hb : hasB n free x = false) :
    Calls Try.prog 34 #[.pointer (some ⟨p, 0, none⟩), .int .i64 x] w fun e w' => e = .returned (.tuple #[.slice none 0 0, .int .i64 31]) ∧ w' = w := by
  obtain ⟨pt, nd, T, F, H, e⟩ := F
  have hc := nodeOut w o L p room n free pt nd x F hb
  clear F H e
  go_enter Try.func34, Try.ntmps34
  go_wp2_with fail
  refine hc.mono ?_
  rintro e w1 ⟨rfl, rfl⟩
  go_wp2
  go_ret2
  exact ⟨rfl, rfl⟩

/-- The state of All's loop. -/
def AllS (w2 : World) (o2 : Nat → Nat) (L lb n : Nat) (free : List Nat) (T2 : Nat → List Nat) (nd2 : Nat → Nd) (Sa : List Nat) (g : Nat) (va vw vc : Value) (wr : World) : Prop :=
  ∃ (xs ws : List Nat) (c : Nat) (o' : Nat → Nat), vc = .int .i64 c ∧ (c ≠ 0 → Live n free c) ∧ (∀ k ∈ ws, Live n free k) ∧ Sa = xs ++ T2 c ++ pend T2 nd2 ws ∧ 2 * (T2 c).length + costs T2 nd2 ws = g ∧
    Row wr o' lb 3 1 va xs.length (intsL xs) ∧ Row wr o' (L + 5) 3 1 vw ws.length (intsL ws) ∧ Step (fun k => k = L + 5 ∨ k = lb) w2 o2 wr o'

set_option maxRecDepth 100000 in
set_option maxHeartbeats 2000000 in
theorem allInF (w : World) (o : Nat → Nat) (L p room n lb : Nat) (free : List Nat) (it : Nat → It) (S : Nat → List Nat) (a : Nat) (F : Fo w o L p room n free it S) (hl : Live n free a) (hlb : ¬ FL L lb) :
    Calls Try.prog 34 #[.pointer (some ⟨p, 0, none⟩), .int .i64 a] w fun e w' => ∃ va o', e = .returned (.tuple #[va, .int .i64 0]) ∧ Row w' o' lb 3 1 va (S a).length (intsL (S a)) ∧ Fo w' o' L p room n free it S ∧ Step (fun k => FL L k ∨ k = lb) w o w' o' := by
  have hlen := F.len hl
  obtain ⟨pt, nd, T, F, H, e⟩ := F
  have hn := F.le
  have hc := nodeIn w o L p room n free pt nd a F hl
  have hc2 := lift_any _ _ L p room n free pt nd T S a F H hl
  obtain ⟨ii, hii, hzi0, hzi1, hzi2⟩ := info_parts infoInt
  have n5 : ¬ FL L lb := hlb
  have nl5 : lb ≠ L + 5 := fun e => hlb (e ▸ L5FL L)
  go_enter Try.func34, Try.ntmps34
  go_wp2_with fail
  refine hc.mono ?_
  rintro e w1 ⟨rfl, rfl⟩
  go_wp2_with fail
  refine hc2.mono ?_
  rintro e w2 ⟨rfl, nd2, T2, o2, F2, A2, S2⟩
  obtain ⟨_, _, _, _, ⟨c6, _⟩, hf⟩ := (F2.node hl).cells12
  have hsz := A2.tr.sz a hl
  rw [A2.top hl] at hsz
  rw [hsz] at c6
  have HI : Hid (∀ k, Live n free k → (nd2 k).it = it k) := A2.it' e
  have HT := A2.tr
  have htop := A2.top hl
  have HTop : Hid (T2 a = S a) := htop
  clear hc hc2 F H e hsz htop A2
  go_wp2_with (at_make; refine wpList_make_own _ rfl _ _ 60 rfl w2.heap.size 3 ii (.int .i64 0) 1 Try.underlying60 hii hzi0 hzi1 .i64 .i64 _ (S a).length rfl rfl (by omega) ?b2 ?b3 (Nat.le_refl _) ?_)
  case b2 => rw [hzi2]; omega
  case b3 => unfold maxLen; omega
  intro w3 hown hgr
  have s3 : Step (fun k => k = L + 5 ∨ k = lb) w2 o2 w3 (newLab w2 o2 lb) := ⟨hgr.os, hgr.tape, hgr.output, hgr.size, fun k hk => newLab_old hk, fun k hk _ => hgr.block k hk (by simp)⟩
  have r3 : Row w3 (newLab w2 o2 lb) lb 3 1 (.slice (some ⟨w2.heap.size, 0, none⟩) 0 (S a).length) 0 [] := by
    refine ⟨?_, fun k hk => ?_⟩
    · exact ownsRow_base0 hown
    · simp [Value.ownBlock] at hk; subst hk; exact newLab_new (Nat.le_refl _)
  have START : AllS w2 o2 L lb n free T2 nd2 (S a) (2 * (T2 a).length) (.slice (some ⟨w2.heap.size, 0, none⟩) 0 (S a).length) (.slice none 0 0) (.int .i64 a) w3 :=
    ⟨[], [], a, _, rfl, fun _ => hl, by simp, by rw [HTop.out]; simp [pend], by simp [costs], r3, Row.nil _ _ _ _ _, s3⟩
  clear hown hgr c6 hf s3 r3
  go_wp2
  go_loopg [6, 7, 8] (2 * (T2 a).length) (fun g va vw vc wr => AllS w2 o2 L lb n free T2 nd2 (S a) g va vw vc wr)
  case atStart => exact START
  case round =>
    clear START
    obtain ⟨xs, ws, c, o3, rfl, hcl, hwl, hSa, hg, rx, rw3, s3⟩ := hrel
    have lenS := congrArg List.length hSa
    simp only [List.length_append] at lenS
    have pl := pend_len T2 nd2 ws
    have bxs : xs.length ≤ 1024 := by omega
    have bws : ws.length ≤ 1024 := by omega
    clear lenS pl
    have lx := rx.form
    obtain ⟨ax, cx, rfl⟩ := lx
    have lw := rw3.form
    obtain ⟨aw, cw, rfl⟩ := lw
    have F3 := F2.step5 s3 (fun k hk h5 h => by rcases h with h | h; exact h5 h; exact hlb (h ▸ hk))
    by_cases c0 : c = 0
    · subst c0
      by_cases w0 : 0 < ws.length
      · obtain ⟨us, x, rfl⟩ := snoc_of_pos w0
        have lxx : Live n free x := hwl x (by simp)
        have hul : ∀ k ∈ us, Live n free k := fun k hk => hwl k (by simp [hk])
        have eul : (us ++ [x]).length = us.length + 1 := by simp
        rw [eul] at rw3 bws
        obtain ⟨gw, cw', hv, hgw, hcw, hmw, hltw, hcellw, hfrw⟩ := rw3.pos (by omega)
        simp only [Value.slice.injEq] at hv
        obtain ⟨rfl, _, rfl⟩ := hv
        have hxc : wr.cell? ⟨gw, us.length, none⟩ = some (.int .i64 (x : Nat)) := (hcellw us.length (by omega)).trans (by simp [intsL])
        have rcut := rw3.cut us.length (by omega)
        have ecut : (intsL (us ++ [x])).take (us.length * 1) = intsL us := by simp [intsL]
        rw [ecut] at rcut
        have hw1 : (0 : Int) < (us.length : Int) + 1 := by omega
        have lT := HT.lenT (c := (nd2 x).r) (fun e => (HT.r x lxx e).1)
        have hSa2 : S a = (xs ++ [x]) ++ T2 (nd2 x).r ++ pend T2 nd2 us := by rw [hSa, HT.t0, pend_snoc]; simp
        have hg2 : 2 * (T2 (nd2 x).r).length + costs T2 nd2 us + 1 = gk := by rw [← hg, HT.t0, costs_snoc]; simp; omega
        have hrl : (nd2 x).r ≠ 0 → Live n free (nd2 x).r := fun e => (HT.r x lxx e).1
        have HB : Hid (S a = (xs ++ [x]) ++ T2 (nd2 x).r ++ pend T2 nd2 us) := hSa2
        have b1 : xs.length + 1 ≤ maxLen := by unfold maxLen; omega
        unfold maxLen at hmw
        clear hSa hSa2 hg HT ecut hcellw eul hwl lT w0
        go_wp2_with (first | (at_builtin; refine wpList_append_lab rfl (.tmp 53) (.tmp 55) 60 rfl 3 ii (.int .i64 0) 1 8 Try.underlying60 hii hzi0 hzi1 hzi2 rfl (by decide) o3 lb _ xs.length (intsL xs) rfl (rx.step (allocStep (fun _ => False) _ o3 _) (by simp)) ⟨wr.heap.size, 0, none⟩ 1 1 [.int .i64 (x : Nat)] rfl rfl (new_one_at (by simp) _ _) (by intro u hu; simp at hu; subst hu; rfl) (by decide) b1 (by omega) ?_) | go_in)
        intro g4 c4 w4 o4 r4 s4
        have t4 := (allocStep (fun k => k = L + 5 ∨ k = lb) wr o3 _).trans (s4.mono fun k hk => Or.inr hk)
        have F4 := F3.step5 t4 (fun k hk h5 h => by rcases h with h | h; exact h5 h; exact hlb (h ▸ hk))
        have rc4 := rcut.step ((allocStep (fun k => k = lb) wr o3 _).trans s4) (fun e => nl5 e.symm)
        have S4 := s3.trans t4
        have hcn := nodeIn w4 o4 L p room n free pt nd2 x F4 lxx
        obtain ⟨_, d3, d4, d5, _, hd⟩ := (F4.node lxx).cells12
        have e4 : intsL xs ++ [.int .i64 (x : Nat)] = intsL (xs ++ [x]) := by simp [intsL]
        rw [e4] at r4
        have e5 : xs.length + 1 = (xs ++ [x]).length := by simp
        have HE : Hid (xs.length + 1 = (xs ++ [x]).length) := e5
        clear e4 e5 rx rw3 s3 F3 t4 s4 rcut
        go_wp2_with fail
        refine hcn.mono ?_
        rintro e w5 ⟨rfl, rfl⟩
        clear hcn
        go_wp2
        go_roundg (gk - 1)
        case measure => omega
        case rel => exact ⟨xs ++ [x], us, (nd2 x).r, o4, rfl, hrl, hul, HB.out, by omega, by rw [← HE.out]; exact r4, rc4, S4⟩
      · have w1 : ws = [] := List.length_eq_zero_iff.1 (by omega)
        subst w1
        have hxs : xs = S a := by rw [hSa, HT.t0]; simp [pend]
        subst hxs
        have R := Fo.mk F3 HT HI.out
        have RS : Step (fun k => FL L k ∨ k = lb) w1 o wr o3 := (S2.nf.mono fun k hk => Or.inl hk).trans (s3.mono fun k hk => hk.elim (fun h => Or.inl (h ▸ L5FL L)) Or.inr)
        clear hSa HT F2 F3 s3 S2 hg w0
        go_wp2
        go_ret2
        exact ⟨_, o3, rfl, rx, R, RS⟩
    · have lc := hcl c0
      have c1 : ((c : Int) == 0) = false := by simp only [beq_eq_false_iff_ne, ne_eq]; omega
      have lenc := HT.len lc
      have hSa2 : S a = xs ++ T2 (nd2 c).l ++ pend T2 nd2 (ws ++ [c]) := by rw [hSa, HT.t c lc, pend_snoc]; simp
      have hg2 : 2 * (T2 (nd2 c).l).length + costs T2 nd2 (ws ++ [c]) + 1 = gk := by rw [← hg, costs_snoc, lenc]; omega
      have hrl : (nd2 c).l ≠ 0 → Live n free (nd2 c).l := fun e => (HT.l c lc e).1
      have hwl2 : ∀ k ∈ ws ++ [c], Live n free k := fun k hk => by
        rcases List.mem_append.1 hk with h | h
        · exact hwl k h
        · simp at h; subst h; exact lc
      have HB : Hid (S a = xs ++ T2 (nd2 c).l ++ pend T2 nd2 (ws ++ [c])) := hSa2
      have b1 : ws.length + 1 ≤ maxLen := by unfold maxLen; omega
      have b2 : (ws.length + 1) * 8 ≤ 140737488355328 := by omega
      clear hSa hSa2 hg HT lenc hwl
      go_wp2_with (first | (at_builtin; refine wpList_append_lab rfl (.tmp 32) (.tmp 34) 60 rfl 3 ii (.int .i64 0) 1 8 Try.underlying60 hii hzi0 hzi1 hzi2 rfl (by decide) o3 (L + 5) _ ws.length (intsL ws) rfl (rw3.step (allocStep (fun _ => False) _ o3 _) (by simp)) ⟨wr.heap.size, 0, none⟩ 1 1 [.int .i64 (c : Nat)] rfl rfl (new_one_at (by simp) _ _) (by intro u hu; simp at hu; subst hu; rfl) (by decide) b1 b2 ?_) | go_in)
      intro g4 c4 w4 o4 r4 s4
      have t4 := (allocStep (fun k => k = L + 5 ∨ k = lb) wr o3 _).trans (s4.mono fun k hk => Or.inl hk)
      have F4 := F3.step5 t4 (fun k hk h5 h => by rcases h with h | h; exact h5 h; exact hlb (h ▸ hk))
      have rx4 := rx.step ((allocStep (fun k => k = L + 5) wr o3 _).trans s4) nl5
      have S4 := s3.trans t4
      have hcn := nodeIn w4 o4 L p room n free pt nd2 c F4 lc
      obtain ⟨_, d3, d4, d5, _, hd⟩ := (F4.node lc).cells12
      have e4 : intsL ws ++ [.int .i64 (c : Nat)] = intsL (ws ++ [c]) := by simp [intsL]
      rw [e4] at r4
      have HE : Hid (ws.length + 1 = (ws ++ [c]).length) := by simp [Hid]
      clear e4 rx rw3 s3 F3 t4 s4
      go_wp2_with fail
      refine hcn.mono ?_
      rintro e w5 ⟨rfl, rfl⟩
      clear hcn
      go_wp2
      go_roundg (gk - 1)
      case measure => omega
      case rel => exact ⟨xs, ws ++ [c], (nd2 c).l, o4, rfl, hrl, hwl2, HB.out, by omega, rx4, by rw [← HE.out]; exact r4, S4⟩

end Go.Proofs.Ythdmajddmajjoaa

/- A walk is made. -/
import Derived.Test.YtanahbkkgppfnaaAns8
import Derived.Deep.RegionHeld
namespace Go.Proofs.Ytanahbkkgppfnaa
open Go.ChangeShapes Go.WideShapes Go.ChangeAt Go.RowKit
set_option linter.unusedVariables false
set_option linter.unusedSimpArgs false

theorem infoPlace : (Try.prog.info? 66).map (fun i => (i.zero, i.size, i.bytes)) = some (some (.agg #[.slice none 0 0, .int .i64 0, .int .i64 0, .int .i64 0]), 4, 48) := by kernel_rfl
theorem infoStep : (Try.prog.info? 68).map (fun i => (i.zero, i.size, i.bytes)) = some (some (.agg #[.int .i64 0, .int .i64 0]), 2, 16) := by kernel_rfl
theorem made_ints (n : Nat) : (madeCells (Value.int .i64 0).cells (n * 1)).toList = natsF (fun _ => 0) n := by
  apply List.ext_getElem?
  intro i
  by_cases hi : i < n
  · simp [madeCells, natsF, Value.cells, hi, Nat.mod_one]
  · simp [madeCells, natsF, Value.cells, Nat.mod_one]
theorem made_places (n : Nat) : (madeCells (Value.agg #[.slice none 0 0, .int .i64 0, .int .i64 0, .int .i64 0]).cells (n * 4)).toList = pl4 (fun _ => .slice none 0 0) (fun _ => .int .i64 0) (fun _ => .int .i64 0) (fun _ => .int .i64 0) n := by
  apply List.ext_getElem?
  intro i
  by_cases hi : i < n * 4
  · obtain ⟨g0, g1, g2, g3⟩ := pl4_get (fun _ => .slice none 0 0) (fun _ => .int .i64 0) (fun _ => .int .i64 0) (fun _ => .int .i64 0) n (i / 4) (by omega)
    have hl : (madeCells (Value.agg #[.slice none 0 0, .int .i64 0, .int .i64 0, .int .i64 0]).cells (n * 4)).toList[i]? = some (#[(.slice none 0 0 : Value), .int .i64 0, .int .i64 0, .int .i64 0][i % 4]!) := by
      simp [madeCells, Value.cells, hi]
    rw [hl]
    have hm : i % 4 = 0 ∨ i % 4 = 1 ∨ i % 4 = 2 ∨ i % 4 = 3 := by omega
    rcases hm with q | q | q | q
    · rw [q, show i = i / 4 * 4 by omega, g0]; rfl
    · rw [q, show i = i / 4 * 4 + 1 by omega, g1]; rfl
    · rw [q, show i = i / 4 * 4 + 2 by omega, g2]; rfl
    · rw [q, show i = i / 4 * 4 + 3 by omega, g3]; rfl
  · rw [List.getElem?_eq_none (by simp [madeCells]; omega), List.getElem?_eq_none (by rw [pl4_len]; omega)]
/-- A walk while it is made. -/
def Nk1 (w : World) (o : Nat → Nat) (L p n la : Nat) (es : List EdT) (vl : Value) (f : Nat → List (Nat × Nat)) (gp gb : Nat) (vs : Nat → Value) : Prop :=
  Blk w o L p (.cells #[.slice (some ⟨gp, 0, none⟩) n n, .int .i64 0, .slice none 0 0, .slice none 0 0, vl, .slice none 0 0, .slice (some ⟨gb, 0, none⟩) n n] 56 (0, 0)) ∧
  Row w o (L + 1) 66 4 (.slice (some ⟨gp, 0, none⟩) n n) n (pl4 vs (fun _ => .int .i64 0) (fun _ => .int .i64 0) (fun _ => .int .i64 0) n) ∧
  (∀ x, x < n → Row w o (L + 10 + x) 68 2 (vs x) (f x).length (stv (f x))) ∧
  VwE w o la vl es ∧
  Row w o (L + 5) 3 1 (.slice (some ⟨gb, 0, none⟩) n n) n (natsF (fun _ => 0) n)
def Nk (w : World) (o : Nat → Nat) (L p n la : Nat) (es : List EdT) (vl : Value) (f : Nat → List (Nat × Nat)) : Prop := ∃ gp gb vs, Nk1 w o L p n la es vl f gp gb vs
theorem nk_end {w W w7 : World} {o O o7 : Nat → Nat} {L p n la : Nat} {es : List EdT} {vl : Value} {f : Nat → List (Nat × Nat)} {gp gb b0 k u v g7 c7 : Nat} {vs : Nat → Value} {cs : Array Value} {fu : List (Nat × Nat)} (N : Nk1 W O L p n la es vl f gp gb vs) (A : Blk W O (L + 8) b0 (.cells cs 36 (0, 0))) (S : Step (WL L) w o W O) (hn : n ≤ 64) (hla : la < L) (hun : u < n)
    (u7 : Step (fun x => x = L + 10 + u) W O w7 o7) (hfu : f u = fu) (r7 : Row w7 o7 (L + 10 + u) 68 2 (.slice (some ⟨g7, 0, none⟩) (fu.length + 1) c7) (fu.length + 1) (stv fu ++ [.int .i64 (k : Nat), .int .i64 (v : Nat)])) :
    ∃ o', Nk (w7.setCell ⟨gp, u * 4, none⟩ (.slice (some ⟨g7, 0, none⟩) (fu.length + 1) c7)) o' L p n la es vl (adj1 f k (u, v)) ∧ Blk (w7.setCell ⟨gp, u * 4, none⟩ (.slice (some ⟨g7, 0, none⟩) (fu.length + 1) c7)) o' (L + 8) b0 (.cells cs 36 (0, 0)) ∧ Step (WL L) w o (w7.setCell ⟨gp, u * 4, none⟩ (.slice (some ⟨g7, 0, none⟩) (fu.length + 1) c7)) o' := by
  subst hfu
  obtain ⟨h1, h2, h3, h4, h5⟩ := N
  have P7 := h2.step u7 (by omega)
  obtain ⟨g8, cap8, hv8, hg8, hc8, hm8, hlt8, hcell8, hfr8⟩ := P7.pos (by omega)
  simp only [Value.slice.injEq, Option.some.injEq, Addr.mk.injEq, and_true, true_and] at hv8
  obtain ⟨rfl, rfl⟩ := hv8
  have s9 : Step (fun k => k = L + 1) w7 o7 (w7.setCell ⟨gp, u * 4, none⟩ (.slice (some ⟨g7, 0, none⟩) ((f u).length + 1) c7)) o7 := setStep _ w7 o7 ⟨gp, u * 4, none⟩ _ hg8
  have sA : Step (fun k => k = L + 10 + u ∨ k = L + 1) W O (w7.setCell ⟨gp, u * 4, none⟩ (.slice (some ⟨g7, 0, none⟩) ((f u).length + 1) c7)) o7 := (u7.mono fun _ h => .inl h).trans (s9.mono fun _ h => .inr h)
  refine ⟨o7, ⟨gp, gb, put8 vs u (.slice (some ⟨g7, 0, none⟩) ((f u).length + 1) c7), h1.step sA (by omega), ?_, fun x hx => ?_, h4.step sA (by omega), h5.step sA (by omega)⟩, A.step sA (by omega), S.trans (sA.mono fun _ h => ⟨by omega, by omega⟩)⟩
  · have := P7.store (u * 4) (.slice (some ⟨g7, 0, none⟩) ((f u).length + 1) c7)
    rw [(pl4_set _ _ _ _ _ n hun).1] at this
    exact this
  · unfold adj1
    by_cases q : x = u
    · subst q
      rw [put8_at, put8_at, List.length_append, stv_snoc]
      exact r7.step s9 (by omega)
    · show Row _ _ _ _ _ (put8 vs u _ x) (put8 f u _ x).length (stv (put8 f u _ x))
      rw [put8_ne _ _ q, put8_ne _ _ q]
      exact (h3 x hx).step sA (by omega)
theorem Nk.done {w : World} {o : Nat → Nat} {L p n la : Nat} {es : List EdT} {vl : Value} (h : Nk w o L p n la es vl (adj (ends es) (ends es).length)) : Wm w o L p n la es (st0 (ends es)) := by
  obtain ⟨gp, gb, vs, h1, h2, h3, h4, h5⟩ := h
  exact ⟨gp, n, gb, n, .slice none 0 0, .slice none 0 0, vl, .slice none 0 0, vs, h1, h2, fun x hx => (h3 x hx).vwS, Row.nil _ _ _ _ _, Row.nil _ _ _ _ _, h4, Row.nil _ _ _ _ _, h5⟩
theorem Nk.step {I : Nat → Prop} {w w' : World} {o o' : Nat → Nat} {L p n la : Nat} {es : List EdT} {vl : Value} {f : Nat → List (Nat × Nat)} (h : Nk w o L p n la es vl f) (hn : n ≤ 64) (s : Step I w o w' o') (hi : ∀ k, (L ≤ k ∧ k < L + 6) ∨ (L + 10 ≤ k ∧ k < L + 74) → ¬ I k) (hla : ¬ I la) : Nk w' o' L p n la es vl f := by
  obtain ⟨gp, gb, vs, h1, h2, h3, h4, h5⟩ := h
  exact ⟨gp, gb, vs, h1.step s (hi _ (by omega)), h2.step s (hi _ (by omega)), fun x hx => (h3 x hx).step s (hi _ (by omega)), h4.step s hla, h5.step s (hi _ (by omega))⟩
def Made (w : World) (o : Nat → Nat) (L n la : Nat) (es : List EdT) (vl : Value) (vp : Value) (wx : World) : Prop := ∃ p o', vp = .pointer (some ⟨p, 0, none⟩) ∧ Nk wx o' L p n la es vl (fun _ => []) ∧ Step (WL L) w o wx o'
theorem made_one {w : World} {o : Nat → Nat} {L n la : Nat} {es : List EdT} {vl : Value} {X1 X2 : Array Value} (h : VwE w o la vl es) (hn : n ≤ 64) (hla : la < L)
    (h1 : X1.toList = pl4 (fun _ => .slice none 0 0) (fun _ => .int .i64 0) (fun _ => .int .i64 0) (fun _ => .int .i64 0) n) (h2 : X2.toList = natsF (fun _ => 0) n) :
    Made w o L n la es vl (.pointer (some ⟨w.heap.size + 1 + 1, 0, none⟩)) (((w.alloc (.cells X1 66)).alloc (.cells X2 3)).alloc (.cells #[.slice (some ⟨w.heap.size, 0, none⟩) n n, .int .i64 0, .slice none 0 0, .slice none 0 0, vl, .slice none 0 0, .slice (some ⟨w.heap.size + 1, 0, none⟩) n n] 56)).drew := by
  have z1 : X1.size = n * 4 := by have := congrArg List.length h1; simpa [pl4_len] using this
  have z2 : X2.size = n * 1 := by have := congrArg List.length h2; simpa [natsF_len] using this
  have hm : n ≤ maxLen := by unfold maxLen; omega
  have R1 := Row.made (w := w) (o := o) (i := L + 1) (e := 66) h1 z1 hm
  have s1 := newStep (fun _ => False) w o (L + 1) (.cells X1 66)
  have R2 := Row.made (w := w.alloc (.cells X1 66)) (o := newLab w o (L + 1)) (i := L + 5) (e := 3) h2 z2 hm
  have s2 := newStep (fun _ => False) (w.alloc (.cells X1 66)) (newLab w o (L + 1)) (L + 5) (.cells X2 3)
  have e1 : (w.alloc (.cells X1 66)).heap.size = w.heap.size + 1 := by simp
  have e2 : ((w.alloc (.cells X1 66)).alloc (.cells X2 3)).heap.size = w.heap.size + 1 + 1 := by simp
  rw [e1] at R2
  have s3 := (newStep (fun _ => False) ((w.alloc (.cells X1 66)).alloc (.cells X2 3)) (newLab (w.alloc (.cells X1 66)) (newLab w o (L + 1)) (L + 5)) L (.cells #[.slice (some ⟨w.heap.size, 0, none⟩) n n, .int .i64 0, .slice none 0 0, .slice none 0 0, vl, .slice none 0 0, .slice (some ⟨w.heap.size + 1, 0, none⟩) n n] 56)).drew
  refine ⟨_, _, rfl, ⟨w.heap.size, w.heap.size + 1, fun _ => .slice none 0 0, ⟨?_, newLab_new (by rw [e2]; exact Nat.le_refl _)⟩, (R1.step s2 id).step s3 id, fun x hx => Row.nil _ _ _ _ _, ((h.step s1 id).step s2 id).step s3 id, R2.step s3 id⟩, ((s1.trans s2).trans s3).mono fun _ h => h.elim⟩
  have := heap_alloc_new ((w.alloc (.cells X1 66)).alloc (.cells X2 3)) (.cells #[.slice (some ⟨w.heap.size, 0, none⟩) n n, .int .i64 0, .slice none 0 0, .slice none 0 0, vl, .slice none 0 0, .slice (some ⟨w.heap.size + 1, 0, none⟩) n n] 56)
  rw [e2] at this
  exact this
theorem made_two {w : World} {o : Nat → Nat} {L n la : Nat} {es : List EdT} {vl : Value} {X1 X2 : Array Value} (h : VwE w o la vl es) (hn : n ≤ 64) (hla : la < L)
    (h1 : X1.toList = pl4 (fun _ => .slice none 0 0) (fun _ => .int .i64 0) (fun _ => .int .i64 0) (fun _ => .int .i64 0) n) (h2 : X2.toList = natsF (fun _ => 0) n) :
    Made w o L n la es vl (.pointer (some ⟨w.heap.size + 1 + 1, 0, none⟩)) (((w.alloc (.cells X2 3)).alloc (.cells X1 66)).alloc (.cells #[.slice (some ⟨w.heap.size + 1, 0, none⟩) n n, .int .i64 0, .slice none 0 0, .slice none 0 0, vl, .slice none 0 0, .slice (some ⟨w.heap.size, 0, none⟩) n n] 56)).drew := by
  have z1 : X1.size = n * 4 := by have := congrArg List.length h1; simpa [pl4_len] using this
  have z2 : X2.size = n * 1 := by have := congrArg List.length h2; simpa [natsF_len] using this
  have hm : n ≤ maxLen := by unfold maxLen; omega
  have R1 := Row.made (w := w) (o := o) (i := L + 5) (e := 3) h2 z2 hm
  have s1 := newStep (fun _ => False) w o (L + 5) (.cells X2 3)
  have R2 := Row.made (w := w.alloc (.cells X2 3)) (o := newLab w o (L + 5)) (i := L + 1) (e := 66) h1 z1 hm
  have s2 := newStep (fun _ => False) (w.alloc (.cells X2 3)) (newLab w o (L + 5)) (L + 1) (.cells X1 66)
  have e1 : (w.alloc (.cells X2 3)).heap.size = w.heap.size + 1 := by simp
  have e2 : ((w.alloc (.cells X2 3)).alloc (.cells X1 66)).heap.size = w.heap.size + 1 + 1 := by simp
  rw [e1] at R2
  have s3 := (newStep (fun _ => False) ((w.alloc (.cells X2 3)).alloc (.cells X1 66)) (newLab (w.alloc (.cells X2 3)) (newLab w o (L + 5)) (L + 1)) L (.cells #[.slice (some ⟨w.heap.size + 1, 0, none⟩) n n, .int .i64 0, .slice none 0 0, .slice none 0 0, vl, .slice none 0 0, .slice (some ⟨w.heap.size, 0, none⟩) n n] 56)).drew
  refine ⟨_, _, rfl, ⟨w.heap.size + 1, w.heap.size, fun _ => .slice none 0 0, ⟨?_, newLab_new (by rw [e2]; exact Nat.le_refl _)⟩, R2.step s3 id, fun x hx => Row.nil _ _ _ _ _, ((h.step s1 id).step s2 id).step s3 id, (R1.step s2 id).step s3 id⟩, ((s1.trans s2).trans s3).mono fun _ h => h.elim⟩
  have := heap_alloc_new ((w.alloc (.cells X2 3)).alloc (.cells X1 66)) (.cells #[.slice (some ⟨w.heap.size + 1, 0, none⟩) n n, .int .i64 0, .slice none 0 0, .slice none 0 0, vl, .slice none 0 0, .slice (some ⟨w.heap.size, 0, none⟩) n n] 56)
  rw [e2] at this
  exact this
set_option maxRecDepth 100000 in
set_option maxHeartbeats 8000000 in
theorem newWalk_w (w : World) (o : Nat → Nat) (L n la : Nat) (vl : Value) (es : List EdT) (h : VwE w o la vl es) (hn1 : 1 ≤ n) (hn : n ≤ 64) (hes : es.length ≤ 192) (hla : la < L) (hok : ∀ x, x ∈ es → 0 ≤ x.u ∧ x.u < n ∧ 0 ≤ x.v ∧ x.v < n) :
    Calls Try.prog 18 #[.int .i64 (n : Nat), vl] w fun e w' => ∃ p o', e = .returned (.pointer (some ⟨p, 0, none⟩)) ∧ Wm w' o' L p n la es (st0 (ends es)) ∧ Step (WL L) w o w' o' := by
  have HV : Hid (VwE w o la vl es) := h
  obtain ⟨al, cl, rfl, hcl, hml, hpl⟩ := h
  clear hpl
  unfold maxLen at hml
  obtain ⟨ii, hii, hzi0, hzi1, hzi2⟩ := info_parts infoInt
  obtain ⟨ip, hip, hzp0, hzp1, hzp2⟩ := info_parts infoPlace
  have mk1 : ∀ w : World, (Instr.makeSlice 54 (.int .i64 (n : Nat)) (.int .i64 (n : Nat))).run Try.prog w = .ok (.slice (some ⟨w.heap.size, 0, none⟩) n n) (w.alloc (.cells (madeCells (Value.agg #[.slice none 0 0, .int .i64 0, .int .i64 0, .int .i64 0]).cells (n * 4)) 66)) := fun w => by
    have := run_make (P := Try.prog) w 54 66 ip _ Try.underlying54 hip hzp0 .i64 .i64 n n (by omega) (Int.le_refl _) (by rw [hzp2]; omega) (by omega)
    rw [hzp1] at this
    simpa only [Int.toNat_natCast] using this
  have mk2 : ∀ w : World, (Instr.makeSlice 38 (.int .i64 (n : Nat)) (.int .i64 (n : Nat))).run Try.prog w = .ok (.slice (some ⟨w.heap.size, 0, none⟩) n n) (w.alloc (.cells (madeCells (Value.int .i64 0).cells (n * 1)) 3)) := fun w => by
    have := run_make (P := Try.prog) w 38 3 ii _ Try.underlying38 hii hzi0 .i64 .i64 n n (by omega) (Int.le_refl _) (by rw [hzi2]; omega) (by omega)
    rw [hzi1] at this
    simpa only [Int.toNat_natCast] using this
  generalize hX1 : madeCells (Value.agg #[.slice none 0 0, .int .i64 0, .int .i64 0, .int .i64 0]).cells (n * 4) = X1 at mk1
  generalize hX2 : madeCells (Value.int .i64 0).cells (n * 1) = X2 at mk2
  have HX1 : Hid (madeCells (Value.agg #[.slice none 0 0, .int .i64 0, .int .i64 0, .int .i64 0]).cells (n * 4) = X1) := hX1
  have HX2 : Hid (madeCells (Value.int .i64 0).cells (n * 1) = X2) := hX2
  clear hX1 hX2
  have HN1 := fun hh => made_one (X1 := X1) (X2 := X2) (w := w) (o := o) (L := L) (n := n) (la := la) (es := es) (vl := .slice al es.length cl) hh hn hla (by rw [← HX1.out]; exact made_places n) (by rw [← HX2.out]; exact made_ints n)
  have HN2 := fun hh => made_two (X1 := X1) (X2 := X2) (w := w) (o := o) (L := L) (n := n) (la := la) (es := es) (vl := .slice al es.length cl) hh hn hla (by rw [← HX1.out]; exact made_places n) (by rw [← HX2.out]; exact made_ints n)
  have H1 : Hid _ := HN1 HV.out
  have H2 : Hid _ := HN2 HV.out
  clear HN1 HN2
  go_enter Try.func18, Try.ntmps18
  go_upto_region 1 with fail
  go_cut [5] (fun vp wx => Made w o L n la es (.slice al es.length cl) vp wx)
  case first =>
    go_wp2_with fail
    go_region
    · go_wp2
      go_meet
      exact H1.out
    · go_wp2
      go_meet
      exact H2.out
  case rest =>
  clear H1 H2 HX1 HX2 mk1 mk2 hii hip hzi0 hzi1 hzi2 hzp0 hzp1 hzp2
  obtain ⟨p, o1, rfl, N1, S1⟩ := hcut
  have HL : Hid (ends es = ends es ∧ ∀ k, (hk : k < es.length) → ∃ u v : Nat, es[k].u = (u : Nat) ∧ es[k].v = (v : Nat) ∧ u < n ∧ v < n ∧ (ends es)[k]? = some (u, v)) := ⟨rfl, fun k hk => by
    obtain ⟨q1, q2, q3, q4⟩ := hok _ (List.getElem_mem hk)
    refine ⟨es[k].u.toNat, es[k].v.toNat, by omega, by omega, by omega, by omega, ?_⟩
    simp [ends, hk]⟩
  have START : ∃ o', Nk wc o' L p n la es (.slice al es.length cl) (adj (ends es) 0) ∧ Step (WL L) w o wc o' := ⟨o1, N1, S1⟩
  have HLA : Hid (∀ k, k ≤ es.length → ∀ x, x < n → ((adj (ends es) k) x).length ≤ 400) := fun k hk x hx => by
    have h1 := adj_sum (l := ends es) (n := n) (fun y hy => by
      obtain ⟨z, hz, rfl⟩ := List.mem_map.1 hy
      obtain ⟨q1, q2, q3, q4⟩ := hok z hz
      exact ⟨show z.u.toNat < n by omega, show z.v.toNat < n by omega⟩) k (by rw [ends_len]; exact hk)
    have h2 := sumN_mem (fun v => (adj (ends es) k v).length) n hx
    show (adj (ends es) k x).length ≤ 400
    have h3 : (adj (ends es) k x).length ≤ sumN (fun v => (adj (ends es) k v).length) n := h2
    omega
  clear N1 S1 hok HV
  go_wp2_with fail
  go_loopg [17] es.length (fun gh vi wr => ∃ k o', k ≤ es.length ∧ gh = es.length - k ∧ vi = .int .i64 (k : Nat) ∧ Nk wr o' L p n la es (.slice al es.length cl) (adj (ends es) k) ∧ Step (WL L) w o wr o')
  case atStart => obtain ⟨o', a, b⟩ := START; exact ⟨0, o', by omega, by omega, by go_num, a, b⟩
  case round =>
    clear START
    obtain ⟨k, o', hk, rfl, rfl, N, sN⟩ := hrel
    by_cases hkn : k < es.length
    · obtain ⟨u, v, hu, hv, hun, hvn, hend⟩ := HL.out.2 k hkn
      have hkI : (k : Int) < (es.length : Int) := by omega
      have HE : Hid ((ends es)[k]? = some (u, v)) := hend
      have HV : VwE wr o' la (.slice al es.length cl) es := by obtain ⟨gp, gb, vs, h1, h2, h3, h4, h5⟩ := N; exact h4
      obtain ⟨al', cl', hvv, _, _, hpp⟩ := HV
      simp only [Value.slice.injEq, true_and] at hvv
      obtain ⟨rfl, rfl⟩ := hvv
      obtain ⟨gl, off, rfl, q1, q2, q3⟩ := hpp (by omega)
      obtain ⟨x0, x1, x2, x3⟩ := q3 k hkn
      rw [hu] at x1
      rw [hv] at x2
      have z00 : Blk (wr.alloc (.cells #[.int .i64 0, .int .i64 0, .int .i64 0, .int .i64 0] 36)) (newLab wr o' (L + 8)) (L + 8) wr.heap.size (.cells #[.int .i64 0, .int .i64 0, .int .i64 0, .int .i64 0] 36 (0, 0)) := ⟨heap_alloc_new wr _, newLab_new (Nat.le_refl _)⟩
      obtain ⟨a0, a1, a2, a3, af⟩ := z00.cells4
      generalize es[k].id = xid at x0
      generalize es[k].wt = xw at x3
      have A0 : Blk (wr.alloc (.cells #[.int .i64 xid, .int .i64 (u : Nat), .int .i64 (v : Nat), .int .i64 xw] 36)) (newLab wr o' (L + 8)) (L + 8) wr.heap.size (.cells #[.int .i64 xid, .int .i64 (u : Nat), .int .i64 (v : Nat), .int .i64 xw] 36 (0, 0)) := ⟨heap_alloc_new wr _, newLab_new (Nat.le_refl _)⟩
      have s0 := newStep (fun _ => False) wr o' (L + 8) (.cells #[.int .i64 xid, .int .i64 (u : Nat), .int .i64 (v : Nat), .int .i64 xw] 36)
      have N0 := N.step hn s0 (fun _ _ => id) id
      have S0 : Step (WL L) w o _ _ := sN.trans (s0.mono fun _ h => h.elim)
      clear hpp q3 z00 hu hv hend N sN s0
      go_upto_region 5 with fail
      obtain ⟨b0, hb0⟩ : ∃ b0, b0 = wr.heap.size := ⟨_, rfl⟩
      rw [← hb0] at A0 ⊢
      have HLEN0 : Hid (∀ x, x < n → ((adj (ends es) k) x).length ≤ 400) := fun x hx => HLA.out k hk x hx
      clear a0 a1 a2 a3 af x0 x1 x2 x3 q1 q2
      generalize wr.alloc (.cells #[.int .i64 xid, .int .i64 (u : Nat), .int .i64 (v : Nat), .int .i64 xw] 36) = w5 at A0 N0 S0 ⊢
      generalize newLab wr o' (L + 8) = o5 at A0 N0 S0
      clear hb0
      go_cut [] (fun wx => ∃ o', Nk wx o' L p n la es (.slice (some ⟨gl, off, none⟩) es.length cl) (adj1 (adj (ends es) k) k (u, v)) ∧ Blk wx o' (L + 8) b0 (.cells #[.int .i64 xid, .int .i64 (u : Nat), .int .i64 (v : Nat), .int .i64 xw] 36 (0, 0)) ∧ Step (WL L) w o wx o')
      case first =>
        have hlen := HLEN0.out u hun
        obtain ⟨gp, gb, vs, h1, h2, h3, h4, h5⟩ := N0
        have HN0 : Hid (Nk1 w5 o5 L p n la es (.slice (some ⟨gl, off, none⟩) es.length cl) (adj (ends es) k) gp gb vs) := ⟨h1, h2, h3, h4, h5⟩
        obtain ⟨c0, c1, c2, c3, c4, c5, c6, hf⟩ := h1.cells7
        obtain ⟨y0, y1, y2, y3, yf⟩ := A0.cells4
        obtain ⟨g, cap, hv', hg, hc, hm, hlt, hcell, hfr⟩ := h2.pos (by omega)
        simp only [Value.slice.injEq, Option.some.injEq, Addr.mk.injEq, and_true, true_and] at hv'
        obtain ⟨rfl, rfl⟩ := hv'
        have k0 := (hcell (u * 4) (by omega)).trans (pl4_get _ _ _ _ n u hun).1
        have hru := h3 u hun
        obtain ⟨au, cu, hvu⟩ := hru.form
        rw [hvu] at k0 hru
        have hUI : (u : Int) < (n : Int) := by omega
        have hplt := h1.lt
        have hblt := A0.lt
        obtain ⟨is, his, hzs0, hzs1, hzs2⟩ := info_parts infoStep
        have hone : ∀ z ∈ ([.int .i64 (k : Nat), .int .i64 (v : Nat)] : List Value), z.oneCell' = true := fun z hz => by simp at hz; rcases hz with rfl | rfl <;> rfl
        have b1 : ((adj (ends es) k) u).length + 1 ≤ maxLen := by unfold maxLen; omega
        have b2 : (((adj (ends es) k) u).length + 1) * 16 ≤ 140737488355328 := by omega
        generalize hfu : (adj (ends es) k) u = fu at b1 b2 hru hvu k0 hlen
        have hA := A0
        have hpg : p ≠ gp := fun q => by have z := h1.2; rw [q] at z; omega
        have hbg : b0 ≠ gp := fun q => by have z := hA.2; rw [q] at z; omega
        have hgp := hpg.symm
        have hgb := hbg.symm
        clear h3 h4 h5 hcell
        go_wp2_with fail
        refine wp_region_held_drew (S := fun wx => wx.cell? ⟨p, 0, none⟩ = some (.slice (some ⟨gp, 0, none⟩) n n) ∧ wx.cell? ⟨b0, 1, none⟩ = some (.int .i64 (u : Nat)) ∧ wx.cell? ⟨b0, 2, none⟩ = some (.int .i64 (v : Nat))) (by kernel_rfl) ⟨c0, y1, y2⟩ (fun hHeld => ?_)
        refine wpAnyH_take (i := 0) (v := ?v1) rfl (by kernel_rfl) (by kernel_rfl) (by kernel_rfl) (fun _ _ _ h => h) (Or.inl ⟨by rfl, ?hy1⟩) (by assumption) ?rest1
        case hy1 => (intro w hSw; (try dsimp only at hSw); go_simp; all_goals (with_reducible rfl))
        try simp only [Act.put, List.setIfInBounds_toArray, List.set_cons_zero, List.set_cons_succ]
        refine wpAnyH_take (i := 1) (v := ?v2) rfl (by kernel_rfl) (by kernel_rfl) (by kernel_rfl) (fun _ _ _ h => h) (Or.inl ⟨by rfl, ?hy2⟩) (by assumption) ?rest2
        case hy2 => (intro w hSw; (try dsimp only at hSw); go_simp; all_goals (with_reducible rfl))
        try simp only [Act.put, List.setIfInBounds_toArray, List.set_cons_zero, List.set_cons_succ]
        refine wpAnyH_take (i := 2) (v := ?v3) rfl (by kernel_rfl) (by kernel_rfl) (by kernel_rfl) (fun _ _ _ h => h) (Or.inl ⟨by rfl, ?hy3⟩) (by assumption) ?rest3
        case hy3 => (intro w hSw; (try dsimp only at hSw); go_simp; all_goals (with_reducible rfl))
        try simp only [Act.put, List.setIfInBounds_toArray, List.set_cons_zero, List.set_cons_succ]
        refine wpAnyH_take (i := 3) (v := ?v4) rfl (by kernel_rfl) (by kernel_rfl) (by kernel_rfl) (fun _ _ _ h => h) (Or.inl ⟨by rfl, ?hy4⟩) (by assumption) ?rest4
        case hy4 => (intro w hSw; (try dsimp only at hSw); go_simp; all_goals (with_reducible rfl))
        try simp only [Act.put, List.setIfInBounds_toArray, List.set_cons_zero, List.set_cons_succ]
        refine wpAnyH_take (i := 4) (v := ?v5) rfl (by kernel_rfl) (by kernel_rfl) (by kernel_rfl) (fun _ _ _ h => h) (Or.inl ⟨by rfl, ?hy5⟩) (by assumption) ?rest5
        case hy5 => (intro w hSw; (try dsimp only at hSw); go_simp; all_goals (with_reducible rfl))
        try simp only [Act.put, List.setIfInBounds_toArray, List.set_cons_zero, List.set_cons_succ]
        refine wpAnyH_take (i := 5) (v := ?v6) rfl (by kernel_rfl) (by kernel_rfl) (by kernel_rfl) (fun _ _ _ h => h) (Or.inl ⟨by rfl, ?hy6⟩) (by assumption) ?rest6
        case hy6 => (intro w hSw; (try dsimp only at hSw); go_simp; all_goals (with_reducible rfl))
        try simp only [Act.put, List.setIfInBounds_toArray, List.set_cons_zero, List.set_cons_succ]
        refine wpAnyH_take (i := 6) (v := ?v7) rfl (by kernel_rfl) (by kernel_rfl) (by kernel_rfl) (fun _ _ _ h => h) (Or.inl ⟨by rfl, ?hy7⟩) (by assumption) ?rest7
        case hy7 => (intro w hSw; (try dsimp only at hSw); go_simp; all_goals (with_reducible rfl))
        try simp only [Act.put, List.setIfInBounds_toArray, List.set_cons_zero, List.set_cons_succ]
        refine wpAnyH_take (i := 7) (v := ?v8) rfl (by kernel_rfl) (by kernel_rfl) (by kernel_rfl) (fun _ _ _ h => h) (Or.inl ⟨by rfl, ?hy8⟩) (by assumption) ?rest8
        case hy8 => (intro w hSw; (try dsimp only at hSw); go_simp; all_goals (with_reducible rfl))
        try simp only [Act.put, List.setIfInBounds_toArray, List.set_cons_zero, List.set_cons_succ]
        refine wpAnyH_take (i := 8) (v := ?v9) rfl (by kernel_rfl) (by kernel_rfl) (by kernel_rfl) (fun _ _ _ h => h) (Or.inl ⟨by rfl, ?hy9⟩) (by assumption) ?rest9
        case hy9 => (intro w hSw; (try dsimp only at hSw); go_simp; all_goals (with_reducible rfl))
        try simp only [Act.put, List.setIfInBounds_toArray, List.set_cons_zero, List.set_cons_succ]
        refine wpAnyH_take (i := 9) (v := ?v10) rfl (by kernel_rfl) (by kernel_rfl) (by kernel_rfl) (fun _ _ _ h => h) (Or.inl ⟨by rfl, ?hy10⟩) (by assumption) ?rest10
        case hy10 => (intro w hSw; (try dsimp only at hSw); go_simp; all_goals (with_reducible rfl))
        try simp only [Act.put, List.setIfInBounds_toArray, List.set_cons_zero, List.set_cons_succ]
        refine wpAnyH_take (i := 10) (v := ?v11) rfl (by kernel_rfl) (by kernel_rfl) (by kernel_rfl) (fun _ _ _ h => h) (Or.inl ⟨by rfl, ?hy11⟩) (by assumption) ?rest11
        case hy11 => (intro w hSw; (try dsimp only at hSw); go_simp; all_goals (with_reducible rfl))
        try simp only [Act.put, List.setIfInBounds_toArray, List.set_cons_zero, List.set_cons_succ]
        refine wpAnyH_take (i := 11) (v := ?v12) rfl (by kernel_rfl) (by kernel_rfl) (by kernel_rfl) (fun _ _ _ h => h) (Or.inl ⟨by rfl, ?hy12⟩) (by assumption) ?rest12
        case hy12 => (intro w hSw; (try dsimp only at hSw); go_simp; all_goals (with_reducible rfl))
        try simp only [Act.put, List.setIfInBounds_toArray, List.set_cons_zero, List.set_cons_succ]
        refine wpAnyH_take (i := 12) (v := ?v13) rfl (by kernel_rfl) (by kernel_rfl) (by kernel_rfl) (fun _ _ _ h => h) (Or.inl ⟨by rfl, ?hy13⟩) (by assumption) ?rest13
        case hy13 => (intro w hSw; (try dsimp only at hSw); go_simp; all_goals (with_reducible rfl))
        try simp only [Act.put, List.setIfInBounds_toArray, List.set_cons_zero, List.set_cons_succ]
        refine wpAnyH_take (i := 13) (v := ?v14) rfl (by kernel_rfl) (by kernel_rfl) (by kernel_rfl) (fun _ _ _ h => h) (Or.inl ⟨by rfl, ?hy14⟩) (by assumption) ?rest14
        case hy14 => (intro w hSw; (try dsimp only at hSw); go_simp; all_goals (with_reducible rfl))
        try simp only [Act.put, List.setIfInBounds_toArray, List.set_cons_zero, List.set_cons_succ]
        refine wpAnyH_take (i := 15) (v := ?v15) rfl (by kernel_rfl) (by kernel_rfl) (by kernel_rfl) (fun _ _ _ h => h) (Or.inl ⟨by rfl, ?hy15⟩) (by assumption) ?rest15
        case hy15 => (intro w hSw; (try dsimp only at hSw); go_simp; all_goals (with_reducible rfl))
        try simp only [Act.put, List.setIfInBounds_toArray, List.set_cons_zero, List.set_cons_succ]
        refine wpAnyH_take (i := 16) (v := ?v16) rfl (by kernel_rfl) (by kernel_rfl) (by kernel_rfl) (fun _ _ _ h => h) (Or.inl ⟨by rfl, ?hy16⟩) (by assumption) ?rest16
        case hy16 => (intro w hSw; (try dsimp only at hSw); go_simp; all_goals (with_reducible rfl))
        try simp only [Act.put, List.setIfInBounds_toArray, List.set_cons_zero, List.set_cons_succ]
        refine wpAnyH_take (i := 17) (v := ?v17) rfl (by kernel_rfl) (by kernel_rfl) (by kernel_rfl) (fun _ _ _ h => h) (Or.inl ⟨by rfl, ?hy17⟩) (by assumption) ?rest17
        case hy17 => (intro w hSw; (try dsimp only at hSw); go_simp; all_goals (with_reducible rfl))
        try simp only [Act.put, List.setIfInBounds_toArray, List.set_cons_zero, List.set_cons_succ]
        refine wpAnyH_take (i := 18) (v := ?v18) rfl (by kernel_rfl) (by kernel_rfl) (by kernel_rfl) (fun _ _ _ h => h) (Or.inl ⟨by rfl, ?hy18⟩) (by assumption) ?rest18
        case hy18 => (intro w hSw; (try dsimp only at hSw); go_simp; all_goals (with_reducible rfl))
        try simp only [Act.put, List.setIfInBounds_toArray, List.set_cons_zero, List.set_cons_succ]
        refine wpAnyH_ready (rs := [14, 19]) (by kernel_rfl) (by simp) ?_
        refine AllReadyH.cons rfl (fun K hK => ?_) (AllReadyH.cons rfl (fun K hK => ?_) AllReadyH.nil)
        · go_simp
          refine hK.out _ _ (by go_keep) (fun hHeld => ?_)
          clear hK K
          refine wpAnyH_ready (rs := [19]) (by kernel_rfl) (by simp) ?_
          refine AllReadyH.cons rfl (fun K hK => ?_) AllReadyH.nil
          go_simp
          refine hK.out _ _ (by go_keep) (fun hHeld => ?_)
          clear hK K
          refine wpAnyH_ready (rs := [20]) (by kernel_rfl) (by simp) ?_
          refine AllReadyH.cons rfl (fun K hK => ?_) AllReadyH.nil
          refine step_append_lab rfl (.tmp 36) (.tmp 41) 64 rfl 68 is (.agg #[.int .i64 0, .int .i64 0]) 2 16 Try.underlying64 his hzs0 hzs1 hzs2 rfl (by decide) o5 (L + 10 + u) (.slice au fu.length cu) fu.length (stv fu) (by simp [Act.eval]) (hru.step (((Step.refl (fun _ => False) w5 o5).alloc _).drew) (by simp)) ⟨w5.heap.size, 0, none⟩ 1 1 [.int .i64 (k : Nat), .int .i64 (v : Nat)] (by simp [Act.eval]) rfl (new_two_at (by simp) _ _ _) hone (by decide) b1 b2 ?_
          intro g7 c7 w7 o7 r7 s7
          have u7 := (((Step.refl (fun x => x = L + 10 + u) w5 o5).alloc _).drew).trans s7
          have B7 := h1.step u7 (by omega)
          have P7 := h2.step u7 (by omega)
          have A7 := hA.step u7 (by omega)
          obtain ⟨d0, d1, d2, d3, d4, d5, d6, df⟩ := B7.cells7
          obtain ⟨e0, e1, e2, e3, ef⟩ := A7.cells4
          obtain ⟨g8, cap8, hv8, hg8, hc8, hm8, hlt8, hcell8, hfr8⟩ := P7.pos (by omega)
          simp only [Value.slice.injEq, Option.some.injEq, Addr.mk.injEq, and_true, true_and] at hv8
          obtain ⟨rfl, rfl⟩ := hv8
          have k8 := (hcell8 (u * 4) (by omega)).trans (pl4_get _ _ _ _ n u hun).1
          rw [hvu] at k8
          clear hcell8
          refine hK.out _ _ ⟨d0, e1, e2⟩ (fun hHeld => ?_)
          clear hK K
          try simp only [Act.put, List.setIfInBounds_toArray, List.set_cons_zero, List.set_cons_succ]
          refine wpAnyH_take (i := 21) (v := ?v19) rfl (by kernel_rfl) (by kernel_rfl) (by kernel_rfl) (fun _ _ _ h => h) (Or.inl ⟨by rfl, ?hy19⟩) (by assumption) ?rest19
          case hy19 => (intro w hSw; (try dsimp only at hSw); go_simp; all_goals (with_reducible rfl))
          try simp only [Act.put, List.setIfInBounds_toArray, List.set_cons_zero, List.set_cons_succ]
          refine wpAnyH_take (i := 22) (v := ?v20) rfl (by kernel_rfl) (by kernel_rfl) (by kernel_rfl) (fun _ _ _ h => h) (Or.inl ⟨by rfl, ?hy20⟩) (by assumption) ?rest20
          case hy20 => (intro w hSw; (try dsimp only at hSw); go_simp; all_goals (with_reducible rfl))
          try simp only [Act.put, List.setIfInBounds_toArray, List.set_cons_zero, List.set_cons_succ]
          refine wpAnyH_ready (rs := [23]) (by kernel_rfl) (by simp) ?_
          refine AllReadyH.cons rfl (fun K hK => ?_) AllReadyH.nil
          go_simp
          refine hK.out _ _ (by go_keep) (fun hHeld => ?_)
          clear hK K
          refine wpAnyH_done (by kernel_rfl) ?_ _
          have RES := nk_end HN0.out hA S0 hn hla hun u7 hfu r7
          go_wp2
          go_meet
          exact RES
        · go_simp
          refine hK.out _ _ (by go_keep) (fun hHeld => ?_)
          clear hK K
          refine wpAnyH_ready (rs := [14]) (by kernel_rfl) (by simp) ?_
          refine AllReadyH.cons rfl (fun K hK => ?_) AllReadyH.nil
          go_simp
          refine hK.out _ _ (by go_keep) (fun hHeld => ?_)
          clear hK K
          refine wpAnyH_ready (rs := [20]) (by kernel_rfl) (by simp) ?_
          refine AllReadyH.cons rfl (fun K hK => ?_) AllReadyH.nil
          refine step_append_lab rfl (.tmp 36) (.tmp 41) 64 rfl 68 is (.agg #[.int .i64 0, .int .i64 0]) 2 16 Try.underlying64 his hzs0 hzs1 hzs2 rfl (by decide) o5 (L + 10 + u) (.slice au fu.length cu) fu.length (stv fu) (by simp [Act.eval]) (hru.step (((Step.refl (fun _ => False) w5 o5).alloc _).drew) (by simp)) ⟨w5.heap.size, 0, none⟩ 1 1 [.int .i64 (k : Nat), .int .i64 (v : Nat)] (by simp [Act.eval]) rfl (new_two_at (by simp) _ _ _) hone (by decide) b1 b2 ?_
          intro g7 c7 w7 o7 r7 s7
          have u7 := (((Step.refl (fun x => x = L + 10 + u) w5 o5).alloc _).drew).trans s7
          have B7 := h1.step u7 (by omega)
          have P7 := h2.step u7 (by omega)
          have A7 := hA.step u7 (by omega)
          obtain ⟨d0, d1, d2, d3, d4, d5, d6, df⟩ := B7.cells7
          obtain ⟨e0, e1, e2, e3, ef⟩ := A7.cells4
          obtain ⟨g8, cap8, hv8, hg8, hc8, hm8, hlt8, hcell8, hfr8⟩ := P7.pos (by omega)
          simp only [Value.slice.injEq, Option.some.injEq, Addr.mk.injEq, and_true, true_and] at hv8
          obtain ⟨rfl, rfl⟩ := hv8
          have k8 := (hcell8 (u * 4) (by omega)).trans (pl4_get _ _ _ _ n u hun).1
          rw [hvu] at k8
          clear hcell8
          refine hK.out _ _ ⟨d0, e1, e2⟩ (fun hHeld => ?_)
          clear hK K
          try simp only [Act.put, List.setIfInBounds_toArray, List.set_cons_zero, List.set_cons_succ]
          refine wpAnyH_take (i := 21) (v := ?v21) rfl (by kernel_rfl) (by kernel_rfl) (by kernel_rfl) (fun _ _ _ h => h) (Or.inl ⟨by rfl, ?hy21⟩) (by assumption) ?rest21
          case hy21 => (intro w hSw; (try dsimp only at hSw); go_simp; all_goals (with_reducible rfl))
          try simp only [Act.put, List.setIfInBounds_toArray, List.set_cons_zero, List.set_cons_succ]
          refine wpAnyH_take (i := 22) (v := ?v22) rfl (by kernel_rfl) (by kernel_rfl) (by kernel_rfl) (fun _ _ _ h => h) (Or.inl ⟨by rfl, ?hy22⟩) (by assumption) ?rest22
          case hy22 => (intro w hSw; (try dsimp only at hSw); go_simp; all_goals (with_reducible rfl))
          try simp only [Act.put, List.setIfInBounds_toArray, List.set_cons_zero, List.set_cons_succ]
          refine wpAnyH_ready (rs := [23]) (by kernel_rfl) (by simp) ?_
          refine AllReadyH.cons rfl (fun K hK => ?_) AllReadyH.nil
          go_simp
          refine hK.out _ _ (by go_keep) (fun hHeld => ?_)
          clear hK K
          refine wpAnyH_done (by kernel_rfl) ?_ _
          have RES := nk_end HN0.out hA S0 hn hla hun u7 hfu r7
          go_wp2
          go_meet
          exact RES
      case rest =>
      clear N0 A0 S0
      obtain ⟨o6, N1, A1, S1⟩ := hcut
      have HLEN1 : Hid (∀ x, x < n → ((adj1 (adj (ends es) k) k (u, v)) x).length ≤ 500) := fun x hx => by
        have := HLEN0.out x hx
        unfold adj1
        by_cases q : x = u
        · subst q; rw [put8_at]; simp; omega
        · rw [put8_ne _ _ q]; show _ ≤ 500; omega
      generalize wc = w6 at N1 A1 S1 ⊢
      go_upto_region 6 with fail
      have hlen := HLEN1.out v hvn
      obtain ⟨gp, gb, vs, h1, h2, h3, h4, h5⟩ := N1
      have HN1 : Hid (Nk1 w6 o6 L p n la es (.slice (some ⟨gl, off, none⟩) es.length cl) (adj1 (adj (ends es) k) k (u, v)) gp gb vs) := ⟨h1, h2, h3, h4, h5⟩
      obtain ⟨c0, c1, c2, c3, c4, c5, c6, hf⟩ := h1.cells7
      obtain ⟨y0, y1, y2, y3, yf⟩ := A1.cells4
      obtain ⟨g, cap, hv', hg, hc, hm, hlt, hcell, hfr⟩ := h2.pos (by omega)
      simp only [Value.slice.injEq, Option.some.injEq, Addr.mk.injEq, and_true, true_and] at hv'
      obtain ⟨rfl, rfl⟩ := hv'
      have k0 := (hcell (v * 4) (by omega)).trans (pl4_get _ _ _ _ n v hvn).1
      have hru := h3 v hvn
      obtain ⟨au, cu, hvu⟩ := hru.form
      rw [hvu] at k0 hru
      have hUI : (v : Int) < (n : Int) := by omega
      have hplt := h1.lt
      have hblt := A1.lt
      obtain ⟨is, his, hzs0, hzs1, hzs2⟩ := info_parts infoStep
      have hone : ∀ z ∈ ([.int .i64 (k : Nat), .int .i64 (u : Nat)] : List Value), z.oneCell' = true := fun z hz => by simp at hz; rcases hz with rfl | rfl <;> rfl
      have b1 : ((adj1 (adj (ends es) k) k (u, v)) v).length + 1 ≤ maxLen := by unfold maxLen; omega
      have b2 : (((adj1 (adj (ends es) k) k (u, v)) v).length + 1) * 16 ≤ 140737488355328 := by omega
      generalize hfu : (adj1 (adj (ends es) k) k (u, v)) v = fu at b1 b2 hru hvu k0 hlen
      have hA := A1
      have hpg : p ≠ gp := fun q => by have z := h1.2; rw [q] at z; omega
      have hbg : b0 ≠ gp := fun q => by have z := hA.2; rw [q] at z; omega
      have hgp := hpg.symm
      have hgb := hbg.symm
      clear h3 h4 h5 hcell
      go_wp2_with fail
      refine wp_region_held_drew (S := fun wx => wx.cell? ⟨p, 0, none⟩ = some (.slice (some ⟨gp, 0, none⟩) n n) ∧ wx.cell? ⟨b0, 1, none⟩ = some (.int .i64 (u : Nat)) ∧ wx.cell? ⟨b0, 2, none⟩ = some (.int .i64 (v : Nat))) (by kernel_rfl) ⟨c0, y1, y2⟩ (fun hHeld => ?_)
      refine wpAnyH_take (i := 0) (v := ?v23) rfl (by kernel_rfl) (by kernel_rfl) (by kernel_rfl) (fun _ _ _ h => h) (Or.inl ⟨by rfl, ?hy23⟩) (by assumption) ?rest23
      case hy23 => (intro w hSw; (try dsimp only at hSw); go_simp; all_goals (with_reducible rfl))
      try simp only [Act.put, List.setIfInBounds_toArray, List.set_cons_zero, List.set_cons_succ]
      refine wpAnyH_take (i := 1) (v := ?v24) rfl (by kernel_rfl) (by kernel_rfl) (by kernel_rfl) (fun _ _ _ h => h) (Or.inl ⟨by rfl, ?hy24⟩) (by assumption) ?rest24
      case hy24 => (intro w hSw; (try dsimp only at hSw); go_simp; all_goals (with_reducible rfl))
      try simp only [Act.put, List.setIfInBounds_toArray, List.set_cons_zero, List.set_cons_succ]
      refine wpAnyH_take (i := 2) (v := ?v25) rfl (by kernel_rfl) (by kernel_rfl) (by kernel_rfl) (fun _ _ _ h => h) (Or.inl ⟨by rfl, ?hy25⟩) (by assumption) ?rest25
      case hy25 => (intro w hSw; (try dsimp only at hSw); go_simp; all_goals (with_reducible rfl))
      try simp only [Act.put, List.setIfInBounds_toArray, List.set_cons_zero, List.set_cons_succ]
      refine wpAnyH_take (i := 3) (v := ?v26) rfl (by kernel_rfl) (by kernel_rfl) (by kernel_rfl) (fun _ _ _ h => h) (Or.inl ⟨by rfl, ?hy26⟩) (by assumption) ?rest26
      case hy26 => (intro w hSw; (try dsimp only at hSw); go_simp; all_goals (with_reducible rfl))
      try simp only [Act.put, List.setIfInBounds_toArray, List.set_cons_zero, List.set_cons_succ]
      refine wpAnyH_take (i := 4) (v := ?v27) rfl (by kernel_rfl) (by kernel_rfl) (by kernel_rfl) (fun _ _ _ h => h) (Or.inl ⟨by rfl, ?hy27⟩) (by assumption) ?rest27
      case hy27 => (intro w hSw; (try dsimp only at hSw); go_simp; all_goals (with_reducible rfl))
      try simp only [Act.put, List.setIfInBounds_toArray, List.set_cons_zero, List.set_cons_succ]
      refine wpAnyH_take (i := 5) (v := ?v28) rfl (by kernel_rfl) (by kernel_rfl) (by kernel_rfl) (fun _ _ _ h => h) (Or.inl ⟨by rfl, ?hy28⟩) (by assumption) ?rest28
      case hy28 => (intro w hSw; (try dsimp only at hSw); go_simp; all_goals (with_reducible rfl))
      try simp only [Act.put, List.setIfInBounds_toArray, List.set_cons_zero, List.set_cons_succ]
      refine wpAnyH_take (i := 6) (v := ?v29) rfl (by kernel_rfl) (by kernel_rfl) (by kernel_rfl) (fun _ _ _ h => h) (Or.inl ⟨by rfl, ?hy29⟩) (by assumption) ?rest29
      case hy29 => (intro w hSw; (try dsimp only at hSw); go_simp; all_goals (with_reducible rfl))
      try simp only [Act.put, List.setIfInBounds_toArray, List.set_cons_zero, List.set_cons_succ]
      refine wpAnyH_take (i := 7) (v := ?v30) rfl (by kernel_rfl) (by kernel_rfl) (by kernel_rfl) (fun _ _ _ h => h) (Or.inl ⟨by rfl, ?hy30⟩) (by assumption) ?rest30
      case hy30 => (intro w hSw; (try dsimp only at hSw); go_simp; all_goals (with_reducible rfl))
      try simp only [Act.put, List.setIfInBounds_toArray, List.set_cons_zero, List.set_cons_succ]
      refine wpAnyH_take (i := 8) (v := ?v31) rfl (by kernel_rfl) (by kernel_rfl) (by kernel_rfl) (fun _ _ _ h => h) (Or.inl ⟨by rfl, ?hy31⟩) (by assumption) ?rest31
      case hy31 => (intro w hSw; (try dsimp only at hSw); go_simp; all_goals (with_reducible rfl))
      try simp only [Act.put, List.setIfInBounds_toArray, List.set_cons_zero, List.set_cons_succ]
      refine wpAnyH_take (i := 9) (v := ?v32) rfl (by kernel_rfl) (by kernel_rfl) (by kernel_rfl) (fun _ _ _ h => h) (Or.inl ⟨by rfl, ?hy32⟩) (by assumption) ?rest32
      case hy32 => (intro w hSw; (try dsimp only at hSw); go_simp; all_goals (with_reducible rfl))
      try simp only [Act.put, List.setIfInBounds_toArray, List.set_cons_zero, List.set_cons_succ]
      refine wpAnyH_take (i := 10) (v := ?v33) rfl (by kernel_rfl) (by kernel_rfl) (by kernel_rfl) (fun _ _ _ h => h) (Or.inl ⟨by rfl, ?hy33⟩) (by assumption) ?rest33
      case hy33 => (intro w hSw; (try dsimp only at hSw); go_simp; all_goals (with_reducible rfl))
      try simp only [Act.put, List.setIfInBounds_toArray, List.set_cons_zero, List.set_cons_succ]
      refine wpAnyH_take (i := 11) (v := ?v34) rfl (by kernel_rfl) (by kernel_rfl) (by kernel_rfl) (fun _ _ _ h => h) (Or.inl ⟨by rfl, ?hy34⟩) (by assumption) ?rest34
      case hy34 => (intro w hSw; (try dsimp only at hSw); go_simp; all_goals (with_reducible rfl))
      try simp only [Act.put, List.setIfInBounds_toArray, List.set_cons_zero, List.set_cons_succ]
      refine wpAnyH_take (i := 12) (v := ?v35) rfl (by kernel_rfl) (by kernel_rfl) (by kernel_rfl) (fun _ _ _ h => h) (Or.inl ⟨by rfl, ?hy35⟩) (by assumption) ?rest35
      case hy35 => (intro w hSw; (try dsimp only at hSw); go_simp; all_goals (with_reducible rfl))
      try simp only [Act.put, List.setIfInBounds_toArray, List.set_cons_zero, List.set_cons_succ]
      refine wpAnyH_take (i := 13) (v := ?v36) rfl (by kernel_rfl) (by kernel_rfl) (by kernel_rfl) (fun _ _ _ h => h) (Or.inl ⟨by rfl, ?hy36⟩) (by assumption) ?rest36
      case hy36 => (intro w hSw; (try dsimp only at hSw); go_simp; all_goals (with_reducible rfl))
      try simp only [Act.put, List.setIfInBounds_toArray, List.set_cons_zero, List.set_cons_succ]
      refine wpAnyH_take (i := 15) (v := ?v37) rfl (by kernel_rfl) (by kernel_rfl) (by kernel_rfl) (fun _ _ _ h => h) (Or.inl ⟨by rfl, ?hy37⟩) (by assumption) ?rest37
      case hy37 => (intro w hSw; (try dsimp only at hSw); go_simp; all_goals (with_reducible rfl))
      try simp only [Act.put, List.setIfInBounds_toArray, List.set_cons_zero, List.set_cons_succ]
      refine wpAnyH_take (i := 16) (v := ?v38) rfl (by kernel_rfl) (by kernel_rfl) (by kernel_rfl) (fun _ _ _ h => h) (Or.inl ⟨by rfl, ?hy38⟩) (by assumption) ?rest38
      case hy38 => (intro w hSw; (try dsimp only at hSw); go_simp; all_goals (with_reducible rfl))
      try simp only [Act.put, List.setIfInBounds_toArray, List.set_cons_zero, List.set_cons_succ]
      refine wpAnyH_take (i := 17) (v := ?v39) rfl (by kernel_rfl) (by kernel_rfl) (by kernel_rfl) (fun _ _ _ h => h) (Or.inl ⟨by rfl, ?hy39⟩) (by assumption) ?rest39
      case hy39 => (intro w hSw; (try dsimp only at hSw); go_simp; all_goals (with_reducible rfl))
      try simp only [Act.put, List.setIfInBounds_toArray, List.set_cons_zero, List.set_cons_succ]
      refine wpAnyH_take (i := 18) (v := ?v40) rfl (by kernel_rfl) (by kernel_rfl) (by kernel_rfl) (fun _ _ _ h => h) (Or.inl ⟨by rfl, ?hy40⟩) (by assumption) ?rest40
      case hy40 => (intro w hSw; (try dsimp only at hSw); go_simp; all_goals (with_reducible rfl))
      try simp only [Act.put, List.setIfInBounds_toArray, List.set_cons_zero, List.set_cons_succ]
      refine wpAnyH_ready (rs := [14, 19]) (by kernel_rfl) (by simp) ?_
      refine AllReadyH.cons rfl (fun K hK => ?_) (AllReadyH.cons rfl (fun K hK => ?_) AllReadyH.nil)
      · go_simp
        refine hK.out _ _ (by go_keep) (fun hHeld => ?_)
        clear hK K
        refine wpAnyH_ready (rs := [19]) (by kernel_rfl) (by simp) ?_
        refine AllReadyH.cons rfl (fun K hK => ?_) AllReadyH.nil
        go_simp
        refine hK.out _ _ (by go_keep) (fun hHeld => ?_)
        clear hK K
        refine wpAnyH_ready (rs := [20]) (by kernel_rfl) (by simp) ?_
        refine AllReadyH.cons rfl (fun K hK => ?_) AllReadyH.nil
        refine step_append_lab rfl (.tmp 59) (.tmp 64) 64 rfl 68 is (.agg #[.int .i64 0, .int .i64 0]) 2 16 Try.underlying64 his hzs0 hzs1 hzs2 rfl (by decide) o6 (L + 10 + v) (.slice au fu.length cu) fu.length (stv fu) (by simp [Act.eval]) (hru.step (((Step.refl (fun _ => False) w6 o6).alloc _).drew) (by simp)) ⟨w6.heap.size, 0, none⟩ 1 1 [.int .i64 (k : Nat), .int .i64 (u : Nat)] (by simp [Act.eval]) rfl (new_two_at (by simp) _ _ _) hone (by decide) b1 b2 ?_
        intro g7 c7 w7 o7 r7 s7
        have u7 := (((Step.refl (fun x => x = L + 10 + v) w6 o6).alloc _).drew).trans s7
        have B7 := h1.step u7 (by omega)
        have P7 := h2.step u7 (by omega)
        have A7 := hA.step u7 (by omega)
        obtain ⟨d0, d1, d2, d3, d4, d5, d6, df⟩ := B7.cells7
        obtain ⟨e0, e1, e2, e3, ef⟩ := A7.cells4
        obtain ⟨g8, cap8, hv8, hg8, hc8, hm8, hlt8, hcell8, hfr8⟩ := P7.pos (by omega)
        simp only [Value.slice.injEq, Option.some.injEq, Addr.mk.injEq, and_true, true_and] at hv8
        obtain ⟨rfl, rfl⟩ := hv8
        have k8 := (hcell8 (v * 4) (by omega)).trans (pl4_get _ _ _ _ n v hvn).1
        rw [hvu] at k8
        clear hcell8
        refine hK.out _ _ ⟨d0, e1, e2⟩ (fun hHeld => ?_)
        clear hK K
        try simp only [Act.put, List.setIfInBounds_toArray, List.set_cons_zero, List.set_cons_succ]
        refine wpAnyH_take (i := 21) (v := ?v41) rfl (by kernel_rfl) (by kernel_rfl) (by kernel_rfl) (fun _ _ _ h => h) (Or.inl ⟨by rfl, ?hy41⟩) (by assumption) ?rest41
        case hy41 => (intro w hSw; (try dsimp only at hSw); go_simp; all_goals (with_reducible rfl))
        try simp only [Act.put, List.setIfInBounds_toArray, List.set_cons_zero, List.set_cons_succ]
        refine wpAnyH_take (i := 22) (v := ?v42) rfl (by kernel_rfl) (by kernel_rfl) (by kernel_rfl) (fun _ _ _ h => h) (Or.inl ⟨by rfl, ?hy42⟩) (by assumption) ?rest42
        case hy42 => (intro w hSw; (try dsimp only at hSw); go_simp; all_goals (with_reducible rfl))
        try simp only [Act.put, List.setIfInBounds_toArray, List.set_cons_zero, List.set_cons_succ]
        refine wpAnyH_ready (rs := [23]) (by kernel_rfl) (by simp) ?_
        refine AllReadyH.cons rfl (fun K hK => ?_) AllReadyH.nil
        go_simp
        refine hK.out _ _ (by go_keep) (fun hHeld => ?_)
        clear hK K
        refine wpAnyH_done (by kernel_rfl) ?_ _
        have HNX : Hid (∃ o', Nk (w7.setCell ⟨gp, v * 4, none⟩ (.slice (some ⟨g7, 0, none⟩) (fu.length + 1) c7)) o' L p n la es (.slice (some ⟨gl, off, none⟩) es.length cl) (adj (ends es) (k + 1)) ∧ Step (WL L) w o (w7.setCell ⟨gp, v * 4, none⟩ (.slice (some ⟨g7, 0, none⟩) (fu.length + 1) c7)) o') := by
          obtain ⟨o9, N9, A9, S9⟩ := nk_end HN1.out hA S1 hn hla hvn u7 hfu r7
          exact ⟨o9, by rw [adj_succ (ends es) HE.out]; exact N9, S9⟩
        go_wp2
        go_roundg (es.length - (k + 1))
        case measure => omega
        case rel => obtain ⟨o9, N9, S9⟩ := HNX.out; exact ⟨k + 1, o9, by omega, rfl, by go_num, N9, S9⟩
      · go_simp
        refine hK.out _ _ (by go_keep) (fun hHeld => ?_)
        clear hK K
        refine wpAnyH_ready (rs := [14]) (by kernel_rfl) (by simp) ?_
        refine AllReadyH.cons rfl (fun K hK => ?_) AllReadyH.nil
        go_simp
        refine hK.out _ _ (by go_keep) (fun hHeld => ?_)
        clear hK K
        refine wpAnyH_ready (rs := [20]) (by kernel_rfl) (by simp) ?_
        refine AllReadyH.cons rfl (fun K hK => ?_) AllReadyH.nil
        refine step_append_lab rfl (.tmp 59) (.tmp 64) 64 rfl 68 is (.agg #[.int .i64 0, .int .i64 0]) 2 16 Try.underlying64 his hzs0 hzs1 hzs2 rfl (by decide) o6 (L + 10 + v) (.slice au fu.length cu) fu.length (stv fu) (by simp [Act.eval]) (hru.step (((Step.refl (fun _ => False) w6 o6).alloc _).drew) (by simp)) ⟨w6.heap.size, 0, none⟩ 1 1 [.int .i64 (k : Nat), .int .i64 (u : Nat)] (by simp [Act.eval]) rfl (new_two_at (by simp) _ _ _) hone (by decide) b1 b2 ?_
        intro g7 c7 w7 o7 r7 s7
        have u7 := (((Step.refl (fun x => x = L + 10 + v) w6 o6).alloc _).drew).trans s7
        have B7 := h1.step u7 (by omega)
        have P7 := h2.step u7 (by omega)
        have A7 := hA.step u7 (by omega)
        obtain ⟨d0, d1, d2, d3, d4, d5, d6, df⟩ := B7.cells7
        obtain ⟨e0, e1, e2, e3, ef⟩ := A7.cells4
        obtain ⟨g8, cap8, hv8, hg8, hc8, hm8, hlt8, hcell8, hfr8⟩ := P7.pos (by omega)
        simp only [Value.slice.injEq, Option.some.injEq, Addr.mk.injEq, and_true, true_and] at hv8
        obtain ⟨rfl, rfl⟩ := hv8
        have k8 := (hcell8 (v * 4) (by omega)).trans (pl4_get _ _ _ _ n v hvn).1
        rw [hvu] at k8
        clear hcell8
        refine hK.out _ _ ⟨d0, e1, e2⟩ (fun hHeld => ?_)
        clear hK K
        try simp only [Act.put, List.setIfInBounds_toArray, List.set_cons_zero, List.set_cons_succ]
        refine wpAnyH_take (i := 21) (v := ?v43) rfl (by kernel_rfl) (by kernel_rfl) (by kernel_rfl) (fun _ _ _ h => h) (Or.inl ⟨by rfl, ?hy43⟩) (by assumption) ?rest43
        case hy43 => (intro w hSw; (try dsimp only at hSw); go_simp; all_goals (with_reducible rfl))
        try simp only [Act.put, List.setIfInBounds_toArray, List.set_cons_zero, List.set_cons_succ]
        refine wpAnyH_take (i := 22) (v := ?v44) rfl (by kernel_rfl) (by kernel_rfl) (by kernel_rfl) (fun _ _ _ h => h) (Or.inl ⟨by rfl, ?hy44⟩) (by assumption) ?rest44
        case hy44 => (intro w hSw; (try dsimp only at hSw); go_simp; all_goals (with_reducible rfl))
        try simp only [Act.put, List.setIfInBounds_toArray, List.set_cons_zero, List.set_cons_succ]
        refine wpAnyH_ready (rs := [23]) (by kernel_rfl) (by simp) ?_
        refine AllReadyH.cons rfl (fun K hK => ?_) AllReadyH.nil
        go_simp
        refine hK.out _ _ (by go_keep) (fun hHeld => ?_)
        clear hK K
        refine wpAnyH_done (by kernel_rfl) ?_ _
        have HNX : Hid (∃ o', Nk (w7.setCell ⟨gp, v * 4, none⟩ (.slice (some ⟨g7, 0, none⟩) (fu.length + 1) c7)) o' L p n la es (.slice (some ⟨gl, off, none⟩) es.length cl) (adj (ends es) (k + 1)) ∧ Step (WL L) w o (w7.setCell ⟨gp, v * 4, none⟩ (.slice (some ⟨g7, 0, none⟩) (fu.length + 1) c7)) o') := by
          obtain ⟨o9, N9, A9, S9⟩ := nk_end HN1.out hA S1 hn hla hvn u7 hfu r7
          exact ⟨o9, by rw [adj_succ (ends es) HE.out]; exact N9, S9⟩
        go_wp2
        go_roundg (es.length - (k + 1))
        case measure => omega
        case rel => obtain ⟨o9, N9, S9⟩ := HNX.out; exact ⟨k + 1, o9, by omega, rfl, by go_num, N9, S9⟩
    · obtain rfl : k = es.length := by omega
      have HNX : Hid (∃ p' o', Value.pointer (some ⟨p, 0, none⟩) = .pointer (some ⟨p', 0, none⟩) ∧ Wm wr o' L p' n la es (st0 (ends es)) ∧ Step (WL L) w o wr o') := ⟨p, o', rfl, Nk.done (by rw [ends_len]; exact N), sN⟩
      clear N sN
      go_wp2
      go_ret
      obtain ⟨p', o', h1, h2⟩ := HNX.out
      exact ⟨p', o', by rw [← h1]; rfl, h2⟩
theorem newWalk_ok : NewWalkOk := newWalk_w
end Go.Proofs.Ytanahbkkgppfnaa

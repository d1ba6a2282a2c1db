/- The law's own look at what is told of a way. -/
import Derived.Test.YtddjaldamfileaaMore5
import Derived.Test.YtddjaldamfileaaOnTheWayWalk
namespace Go.Proofs.Ytddjaldamfileaa
open Go.ChangeShapes Go.WideShapes Go.ChangeAt Go.RowKit Go.Maps
set_option linter.unusedVariables false

theorem TolE.has {ed : Nat → Option Ed} {l : List (Nat × Ed)} (h : TolE ed l) {k : Nat} {y : Ed} (hk : ed k = some y) {r : Int} (hr : IdIs l (k : Nat) r) : ∃ j, ∃ hj : j < l.length, r = (j : Nat) ∧ l[j] = (k, y) := by
  rcases hr with ⟨j, hj, e1, e2, _⟩ | ⟨_, e2⟩
  · refine ⟨j, hj, e1, ?_⟩
    have hm : (l[j].1, l[j].2) ∈ l := List.getElem_mem hj
    have h2 := (h _ _).2 hm
    have : l[j].1 = k := by omega
    rw [this, hk] at h2
    simp at h2
    rw [h2, ← this]
  · obtain ⟨j, hj, e⟩ := List.getElem_of_mem ((h k y).1 hk)
    exact absurd (by rw [e]) (e2 j hj)
/-- What stands in memory meanwhile. -/
def LkB (w : World) (o0' : Nat → Nat) (p n m la : Nat) (ed : Nat → Option Ed) (R : Nat → List Nat) (l : List (Nat × Ed)) (vl va : Value) (X : List Nat) (bX : Nat) (xa xb xc xd : Int) (wr : World) : Prop :=
  ∃ o', Tx wr o' 1 p n ed R m ∧ Vw wr o' 5000000000030 va X ∧ Row wr o' la 42 4 vl l.length (elv l) ∧ Blk wr o' 5000000000031 bX (.cells #[.int .i64 xa, .int .i64 xb, .int .i64 xc, .int .i64 xd] 42 (0, 0)) ∧ Step (fun k => TL 1 k ∨ (5000000000030 ≤ k ∧ k ≤ 5000000000039)) w o0' wr o'
theorem LkB.quiet {w : World} {o0' : Nat → Nat} {p n m la : Nat} {ed : Nat → Option Ed} {R : Nat → List Nat} {l : List (Nat × Ed)} {vl va : Value} {X : List Nat} {bX : Nat} {xa xb xc xd : Int} {wr wx : World} (h : LkB w o0' p n m la ed R l vl va X bX xa xb xc xd wr) (s : ∀ o, Step (fun _ => False) wr o wx o) : LkB w o0' p n m la ed R l vl va X bX xa xb xc xd wx := by
  obtain ⟨o', a, b, c, d, e⟩ := h
  exact ⟨o', a.step (s o') (fun _ _ => id), b.step (s o') id, c.step (s o') id, d.step (s o') id, e.trans ((s o').mono fun _ h => h.elim)⟩
theorem LkB.cell {w : World} {o0' : Nat → Nat} {p n m la : Nat} {ed : Nat → Option Ed} {R : Nat → List Nat} {l : List (Nat × Ed)} {vl : Value} {ga fa ca : Nat} {X : List Nat} {bX : Nat} {xa xb xc xd : Int} {wr : World} (h : LkB w o0' p n m la ed R l vl (.slice (some ⟨ga, fa, none⟩) X.length ca) X bX xa xb xc xd wr) {i : Nat} (hi : i < X.length) : wr.cell? ⟨ga, fa + i, none⟩ = some (.int .i64 (X[i] : Nat)) := by
  obtain ⟨o', _, b, _⟩ := h
  obtain ⟨ax, cx, ee, _, _, q3⟩ := b
  simp only [Value.slice.injEq] at ee
  obtain ⟨g', f', e1, _, _, e4⟩ := q3 (by omega)
  rw [← ee.1] at e1
  simp only [Option.some.injEq, Addr.mk.injEq, and_true] at e1
  obtain ⟨rfl, rfl⟩ := e1
  exact e4 i hi
theorem LkB.row {w : World} {o0' : Nat → Nat} {p n m la : Nat} {ed : Nat → Option Ed} {R : Nat → List Nat} {l : List (Nat × Ed)} {al : Option Addr} {cl : Nat} {va : Value} {X : List Nat} {bX : Nat} {xa xb xc xd : Int} {wr : World} (h : LkB w o0' p n m la ed R l (.slice al l.length cl) va X bX xa xb xc xd wr) {j : Nat} (hj : j < l.length) :
    ∃ gl, al = some ⟨gl, 0, none⟩ ∧ wr.cell? ⟨gl, j * 4, none⟩ = some (.int .i64 (l[j].1 : Nat)) ∧ wr.cell? ⟨gl, j * 4 + 1, none⟩ = some (.int .i64 (l[j].2.u : Nat)) ∧ wr.cell? ⟨gl, j * 4 + 2, none⟩ = some (.int .i64 (l[j].2.v : Nat)) ∧ wr.cell? ⟨gl, j * 4 + 3, none⟩ = some (.int .i64 l[j].2.w) := by
  obtain ⟨o', _, _, c, _⟩ := h
  obtain ⟨gl, capl, ee, _, _, _, _, hcl, _⟩ := c.pos (by omega)
  simp only [Value.slice.injEq, true_and] at ee
  refine ⟨gl, ee.1, ?_, ?_, ?_, ?_⟩
  · rw [hcl _ (by omega)]; have := elv_get l j 0 hj (by omega); rw [Nat.add_zero] at this; rw [this]; rfl
  · rw [hcl _ (by omega), elv_get l j 1 hj (by omega)]; rfl
  · rw [hcl _ (by omega), elv_get l j 2 hj (by omega)]; rfl
  · rw [hcl _ (by omega), elv_get l j 3 hj (by omega)]; rfl

set_option maxRecDepth 100000 in
set_option maxHeartbeats 4000000 in
theorem between_any (w : World) (o : Nat → Nat) (p n m la : Nat) (ed : Nat → Option Ed) (R : Nat → List Nat) (l : List (Nat × Ed)) (vl : Value) (u v : Nat) (X : Tx w o 1 p n ed R m) (rl : Row w o la 42 4 vl l.length (elv l)) (hla : ¬ TL 1 la ∧ ¬ (5000000000030 ≤ la ∧ la ≤ 5000000000039)) (hl : TolE ed l) (hll : l.length ≤ 1000) (hu : u < n) (hv : v < n) (hd : (R (2 * u + 1)).head? = (R (2 * v + 1)).head?) :
    Calls Try.prog 21 #[.pointer (some ⟨p, 0, none⟩), vl, .int .i64 u, .int .i64 v] w fun e w' => e = .returned (.bool true) ∧ ∃ o', Tx w' o' 1 p n ed R m ∧ Row w' o' la 42 4 vl l.length (elv l) ∧ Step (fun k => TL 1 k ∨ (5000000000030 ≤ k ∧ k ≤ 5000000000039)) w o w' o' := by
  have hT : Rt (liveN n ed) R := by obtain ⟨_, _, _, _, _, _, F⟩ := X; exact F.rt
  have ok := X.1.2.2.1
  have hn64 := X.1.2.1
  have A0 := X.1.2.2.2
  obtain ⟨al, cl, rfl⟩ := rl.form
  go_enter Try.func21, Try.ntmps21
  go_wp2_with fail
  refine (path_in w o 1 p n ed R m u v 5000000000030 X hu hv hd (TL.no (by omega))).mono ?_
  rintro e w1 ⟨va, o1, rfl, r1, T1, s1⟩
  have v1 := r1.vw
  have l1 := rl.step s1 (fun h => h.elim hla.1 (fun h => hla.2 ⟨by omega, by omega⟩))
  have t1 : Step (fun k => TL 1 k ∨ (5000000000030 ≤ k ∧ k ≤ 5000000000039)) w o w1 o1 := s1.mono fun k hk => hk.elim .inl (fun h => .inr ⟨by omega, by omega⟩)
  clear X rl s1 r1
  go_wp2_with fail
  refine (most_gen w1 o1 1 p n ed R m u v 5000000000039 T1 hu hv hd (TL.no (by omega))).mono ?_
  rintro e w2 ⟨xa, xb, xc, xd, xg, o2, rfl, hM, T2, s2⟩
  have v2 := v1.step s2 (fun h => h.elim (TL.no (by omega)) (by omega))
  have l2 := l1.step s2 (fun h => h.elim hla.1 (fun h => hla.2 ⟨by omega, by omega⟩))
  have t2 := t1.trans (s2.mono fun k hk => hk.elim .inl (fun h => .inr ⟨by omega, by omega⟩))
  clear T1 v1 l1 t1 s2
  have nX := newStep (fun _ => False) w2 o2 5000000000031 (.cells #[.int .i64 xa, .int .i64 xb, .int .i64 xc, .int .i64 xd] 42)
  have BX : Blk (w2.alloc (.cells #[.int .i64 xa, .int .i64 xb, .int .i64 xc, .int .i64 xd] 42)) (newLab w2 o2 5000000000031) 5000000000031 w2.heap.size (.cells #[.int .i64 xa, .int .i64 xb, .int .i64 xc, .int .i64 xd] 42 (0, 0)) := ⟨heap_alloc_new w2 _, newLab_new (Nat.le_refl _)⟩
  have START : LkB w o p n m la ed R l (.slice al l.length cl) va (idl (way R u v)) w2.heap.size xa xb xc xd _ := ⟨_, T2.step nX (fun _ _ => id), v2.step nX id, l2.step nX id, BX, t2.trans (nX.mono fun _ h => h.elim)⟩
  clear T2 v2 l2 t2 nX BX
  have DONE : Hid (∀ wr, LkB w o p n m la ed R l (.slice al l.length cl) va (idl (way R u v)) w2.heap.size xa xb xc xd wr → ∃ o', Tx wr o' 1 p n ed R m ∧ Row wr o' la 42 4 (.slice al l.length cl) l.length (elv l) ∧ Step (fun k => TL 1 k ∨ (5000000000030 ≤ k ∧ k ≤ 5000000000039)) w o wr o') := fun wr h => by
    obtain ⟨o', a, b, c, d, e⟩ := h
    exact ⟨o', a, c, e⟩
  obtain ⟨b2, hb2⟩ : ∃ b2, b2 = w2.heap.size := ⟨_, rfl⟩
  rw [← hb2] at START DONE
  have HB2 : Hid (b2 = w2.heap.size) := hb2
  clear hb2
  by_cases uv : u = v
  · subst uv
    have hW : idl (way R u u) = [] := by rw [way_self hT hu]; simp [idl]
    rw [hW] at START DONE
    obtain ⟨_, rfl, rfl, rfl, rfl, rfl⟩ := hM.resolve_right (fun z => z.1 rfl)
    have va0 : ∃ aa ca, va = .slice aa 0 ca := by
      obtain ⟨_, _, b, _⟩ := START
      obtain ⟨aa, ca, e, _⟩ := b
      exact ⟨aa, ca, e⟩
    obtain ⟨aa, ca, rfl⟩ := va0
    have FIN := DONE.out _ START
    clear DONE START hM
    go_wp2
    refine wp_loop_rounds 1 ?_
    rw [rounds_succ]
    go_wp2
    go_ret
    exact ⟨rfl, FIN⟩
  · have hne := way_edge A0 ok hT hu hv uv hd
    have hall := idl_ne hne
    obtain ⟨_, rfl, t, ht, ha, hb, hc, hdw⟩ := hM.resolve_left (fun z => uv z.1)
    have hTu := hT.turn (liveN_v (ed := ed) hu)
    have hwn : (way R u v).Nodup := by rw [way_turn hd]; exact hTu.nodup _ (liveN_v hv)
    have hwl : ∀ k ∈ way R u v, liveN n ed k := by rw [way_turn hd]; exact hTu.mem _ (liveN_v hv)
    have hw0 : ∀ k ∈ way R u v, k ≠ 0 := fun k hk z => by have := hwl k hk; rw [z] at this; unfold liveN at this; simp at this
    have hin := idl_nodup hwn hw0
    obtain ⟨t0, tm, te, tl⟩ := ht.1.resolve_left (fun z => ht.2 z.1)
    obtain ⟨ti, ty, rfl, hty⟩ : ∃ ti ty, t = 2 * ti + 2 ∧ ed ti = some ty := by
      rcases live_cases (hwl t tm) with ⟨i, x, e1, e2⟩ | ⟨v, e1, _⟩
      · exact ⟨i, x, e1, e2⟩
      · omega
    have hEt : edE ed (2 * ti + 2) = ty := by rw [edE_e, hty]; rfl
    rw [hEt] at hb hc hdw
    have ha2 : xa = (ti : Nat) := by rw [ha]; congr 1; omega
    clear ha
    subst ha2 hb hc hdw
    have tmem : ti ∈ idl (way R u v) := by
      obtain ⟨P1, P2, eP⟩ := List.append_of_mem tm
      rw [eP, idl_app, idl_even]; simp
    have hvs : ∃ ga fa ca, va = .slice (some ⟨ga, fa, none⟩) (idl (way R u v)).length ca ∧ (idl (way R u v)).length ≤ ca ∧ ca ≤ 9223372036854775807 := by
      obtain ⟨_, _, b, _⟩ := START
      obtain ⟨aa, ca, e, e1, e2, e3⟩ := b
      obtain ⟨ga, fa, rfl, _⟩ := e3 (List.length_pos_iff.2 hall)
      unfold maxLen at e2
      exact ⟨ga, fa, ca, e, e1, e2⟩
    obtain ⟨ga, fa, ca, rfl, hca1, hca2⟩ := hvs
    have hal0 : (((idl (way R u v)).length : Int) == 0) = false := by
      simp only [beq_eq_false_iff_ne, ne_eq]
      have := List.length_pos_iff.2 hall
      omega
    have uvd : ((u : Int) == (v : Int)) = false := by simp only [beq_eq_false_iff_ne, ne_eq]; omega
    have uvn : ((u : Int) != (v : Int)) = true := by simp only [bne_iff_ne, ne_eq]; omega
    have uvi : ¬ (u : Int) = (v : Int) := by omega
    clear hM
    obtain ⟨alen, hal⟩ : ∃ alen, alen = (idl (way R u v)).length := ⟨_, rfl⟩
    have HAL : Hid (alen = (idl (way R u v)).length) := hal
    rw [← hal] at START DONE hal0 hca1
    rw [← hal]
    clear hal
    have hlen : alen ≤ 4000000000000 := by
      rw [HAL.out]
      have := len_le_of_nodup 3000000000000 (way R u v) hwn (fun k hk => by
        have := (ok.small hn64) k (hwl k hk)
        omega)
      have h2 : (idl (way R u v)).length ≤ (way R u v).length := by unfold idl; rw [List.length_map]; exact List.length_filter_le _ _
      omega
    go_wp2
    rw [← HB2.out]
    clear HB2
    go_loopg [13, 14] alen (fun gh vat vi wr => ∃ (x i : Nat) (A B : List Nat), vat = .int .i64 (x : Nat) ∧ vi = .int .i64 (i : Nat) ∧ way R u v = A ++ (2 * x + 1) :: B ∧ (idl A).length = i ∧ x < n ∧ gh = alen - i ∧ i ≤ alen ∧ LkB w o p n m la ed R l (.slice al l.length cl) (.slice (some ⟨ga, fa, none⟩) alen ca) (idl (way R u v)) b2 (ti : Nat) (ty.u : Nat) (ty.v : Nat) ty.w wr)
    case atStart =>
      have hh := hT.turn_head (liveN_v hu) (liveN_v hv) hd.symm
      rw [← way_turn hd] at hh
      cases hW : way R u v with
      | nil => rw [hW] at hh; simp at hh
      | cons a B =>
        rw [hW] at hh; simp at hh; subst hh
        rw [hW] at START
        exact ⟨u, 0, [], B, rfl, by go_num, by simp, rfl, hu, by omega, by omega, START⟩
    case round =>
      clear START
      obtain ⟨x, i, A, B, rfl, rfl, hW, hi, hx, rfl, hia, ST⟩ := hrel
      have eall : idl (way R u v) = idl A ++ idl B := by rw [hW, idl_app, idl_odd]
      by_cases hlt : i < alen
      · cases B with
        | nil => exfalso; have := HAL.out; rw [eall] at this; simp [idl] at this hi; omega
        | cons zz B =>
        obtain ⟨ei, y, b, B', rfl, hy, rfl, hbn, hyy⟩ := way_next A0 ok hT hu hv hx hd hW
        have hil : i < (idl (way R u v)).length := by have := HAL.out; omega
        have hei : (idl (way R u v))[i] = ei := by
          have : (idl (way R u v))[i]? = some ei := by
            rw [eall, List.getElem?_append_right (by omega), hi, Nat.sub_self, idl_even]; rfl
          rw [List.getElem?_eq_getElem hil] at this
          simpa using this
        have hli : (i : Int) < (alen : Int) := by omega
        have ST1 := ST
        rw [HAL.out] at ST1
        have cai := ST1.cell hil
        rw [hei] at cai
        have hid : Calls Try.prog 14 #[.slice al l.length cl, .int .i64 (ei : Nat)] wr fun e w' => ∃ r, e = .returned (.int .i64 r) ∧ IdIs l (ei : Nat) r ∧ w' = wr := by
          obtain ⟨o', _, _, c, _⟩ := ST
          exact id_any wr o' _ _ l (ei : Nat) c (by omega)
        clear ST1
        go_wp2_with fail
        refine hid.mono ?_
        rintro e w3 ⟨rr, rfl, hrr, hw3⟩
        obtain rfl : wr = w3 := hw3.symm
        obtain ⟨jj, hjj, rfl, hly⟩ := hl.has hy hrr
        clear hid hrr
        obtain ⟨gl, rfl, y0, y1, y2, y3⟩ := ST.row hjj
        rw [hly] at y0 y1 y2 y3
        simp only at y0 y1 y2 y3
        have hjI : (jj : Int) < (l.length : Int) := by omega
        obtain ⟨_, yu1, yv1, yne, _⟩ := ok ei y hy
        have hsum : (y.u : Int) + (y.v : Int) - (x : Int) = (b : Int) := by omega
        have HNO : Hid (∀ k, k < i → ∃ q : Nat, wr.cell? ⟨ga, fa + k, none⟩ = some (.int .i64 (q : Nat)) ∧ ((q : Int) == (ei : Int)) = false) := fun k hk => by
          have ST1 := ST
          rw [HAL.out] at ST1
          refine ⟨_, ST1.cell (by omega), ?_⟩
          simp only [beq_eq_false_iff_ne, ne_eq]
          rw [← hei]
          intro z
          have z : (idl (way R u v))[k] = (idl (way R u v))[i] := by omega
          have := (List.getElem_inj hin).1 z
          omega
        have hnh : ¬ (ty.w < y.w ∨ (y.w = ty.w ∧ (ti : Int) < (ei : Int))) := by
          have hm : 2 * ei + 2 ∈ way R u v := by rw [hW]; simp
          have hEe : edE ed (2 * ei + 2) = y := by rw [edE_e, hy]; rfl
          rcases tl _ hm (by omega) with z | z
          · have : ei = ti := by omega
            subst this
            rw [hy] at hty
            simp at hty
            subst hty
            omega
          · unfold lighter at z
            rw [hEe, hEt] at z
            omega
        have hW2 : way R u v = (A ++ [2 * x + 1, 2 * ei + 2]) ++ (2 * b + 1) :: B' := by rw [hW]; simp
        have hi2 : (idl (A ++ [2 * x + 1, 2 * ei + 2])).length = i + 1 := by rw [idl_app, idl_odd, idl_even]; simp [idl] at hi ⊢; omega
        go_upto_region 10 with fail
        go_cut [85] (fun cc wx => cc = .bool false ∧ wx = wr)
        case first =>
          clear HNO DONE ST hW2 hi2 hin hwn hwl hw0 tl
          rcases hyy with ⟨q1, _⟩ | ⟨q1, _⟩
          · rw [← q1] at y1
            have djj : decide ((jj : Int) < 0) = false := decide_eq_false (by omega)
            clear q1 hsum yne
            go_wp2
            go_meet
            exact ⟨by first | rfl | simp, rfl⟩
          · rw [← q1] at y2
            have hne2 : ((y.u : Int) == (x : Int)) = false := by simp only [beq_eq_false_iff_ne, ne_eq]; omega
            have djj : decide ((jj : Int) < 0) = false := decide_eq_false (by omega)
            have hne3 : ¬ (y.u : Int) = (x : Int) := by omega
            have hne4 : ((y.u : Int) != (x : Int)) = true := by simp only [bne_iff_ne, ne_eq]; omega
            clear q1 hsum yne
            go_wp2
            go_meet
            exact ⟨by first | rfl | simp, rfl⟩
        case rest =>
        obtain ⟨rfl, hwc⟩ := hcut
        obtain rfl : wr = _ := hwc.symm
        go_wp2
        go_loopw [16] (fun vk wx => ∃ k : Nat, k ≤ i ∧ vk = .int .i64 (k : Nat) ∧ ∃ mm, wx = wr.drewN mm) (fun vk _ => i - (intOf vk).toNat)
        case atStart => exact ⟨0, by omega, by go_num, 0, rfl⟩
        case round =>
          obtain ⟨k, hk, rfl, mm, rfl⟩ := hrel
          by_cases hki : k < i
          · obtain ⟨q, c3, hq⟩ := HNO.out k hki
            have hkI : (k : Int) < (alen : Int) := by omega
            have hki2 : (k : Int) < (i : Int) := by omega
            clear HNO DONE hin hwn hwl hw0 tl ST y0 y1 y2 y3
            go_wp2
            go_quiet (fail)
            go_wp2
            go_roundw
            case rel => (try ((repeat apply Exists.intro); refine ⟨?_, rfl⟩)); exact ⟨k + 1, by omega, by go_num, _, rfl⟩
            case measure => simp [intOf]; omega
          · obtain rfl : k = i := by omega
            obtain ⟨o5, T5, v5, l5, B5, t5⟩ := ST
            obtain ⟨⟨x0, x1, x2, x3⟩, _⟩ := B5.cell4
            have HH : Hid (∀ m2, Calls Try.prog 24 #[.agg #[.int .i64 (ei : Nat), .int .i64 (y.u : Nat), .int .i64 (y.v : Nat), .int .i64 y.w], .agg #[.int .i64 (ti : Nat), .int .i64 (ty.u : Nat), .int .i64 (ty.v : Nat), .int .i64 ty.w]] (wr.drewN m2) fun e w' => e = .returned (.bool false) ∧ LkB w o p n m la ed R l (.slice (some ⟨gl, 0, none⟩) l.length cl) (.slice (some ⟨ga, fa, none⟩) alen ca) (idl (way R u v)) b2 (ti : Nat) (ty.u : Nat) (ty.v : Nat) ty.w w') := fun m2 => by
              refine (heavier_law (wr.drewN m2) o5 (ei : Nat) (y.u : Nat) (y.v : Nat) y.w (ti : Nat) (ty.u : Nat) (ty.v : Nat) ty.w).mono ?_
              rintro e w' ⟨rfl, sh⟩
              have sd : Step (fun _ => False) wr o5 w' o5 := ((Step.refl _ _ _).drewN m2).trans sh
              refine ⟨by rw [decide_eq_false hnh], o5, T5.step sd (fun _ _ => id), v5.step sd id, l5.step sd id, B5.step sd id, t5.trans (sd.mono fun _ h => h.elim)⟩
            clear HNO hin hwn hwl hw0 tl cai T5 v5 l5 B5 t5 hnh
            go_wp2_with fail
            go_quiet (fail)
            go_wp2_with fail
            go_region_with (go_at_call 24; refine (HH.out _).mono ?_; rintro e w6 ⟨rfl, RR⟩)
            all_goals
              clear HH x0 x1 x2 x3 y0 y1 y2 y3
              go_wp2
              go_roundg (alen - (k + 1))
              case measure => omega
              case rel => exact ⟨b, k + 1, _, B', rfl, by go_num, hW2, hi2, hbn, rfl, by omega, RR⟩
      · have hia2 : i = alen := by omega
        obtain rfl : x = v := by
          have hb0 : idl B = [] := by
            have h2 := HAL.out
            rw [eall, List.length_append, hi] at h2
            exact List.eq_nil_of_length_eq_zero (by omega)
          cases B with
          | cons zz B =>
            obtain ⟨ei, y, b, B', rfl, _⟩ := way_next A0 ok hT hu hv hx hd hW
            rw [idl_even] at hb0
            simp at hb0
          | nil =>
            obtain ⟨pv, hpv⟩ := hTu.last _ (liveN_v (ed := ed) hv)
            rw [← way_turn hd, hW] at hpv
            have := (last_eq hpv).2
            omega
        subst hia2
        have hid : Calls Try.prog 14 #[.slice al l.length cl, .int .i64 (ti : Nat)] wr fun e w' => ∃ r, e = .returned (.int .i64 r) ∧ IdIs l (ti : Nat) r ∧ w' = wr := by
          obtain ⟨o', _, _, c, _⟩ := ST
          exact id_any wr o' _ _ l (ti : Nat) c (by omega)
        have xc : wr.cell? ⟨b2, 0, none⟩ = some (.int .i64 (ti : Nat)) ∧ wr.cell? ⟨b2, 1, none⟩ = some (.int .i64 (ty.u : Nat)) ∧ wr.cell? ⟨b2, 2, none⟩ = some (.int .i64 (ty.v : Nat)) ∧ wr.cell? ⟨b2, 3, none⟩ = some (.int .i64 ty.w) := by
          obtain ⟨o', _, _, _, d, _⟩ := ST
          exact d.cell4.1
        obtain ⟨x0, x1, x2, x3⟩ := xc
        have HCL : Hid (∀ k, ∀ h : k < (idl (way R u x)).length, wr.cell? ⟨ga, fa + k, none⟩ = some (.int .i64 ((idl (way R u x))[k] : Nat))) := fun k h => by
          have ST1 := ST
          rw [HAL.out] at ST1
          exact ST1.cell h
        have FIN : Hid (∀ wx, (∀ o, Step (fun _ => False) wr o wx o) → ∃ o', Tx wx o' 1 p n ed R m ∧ Row wx o' la 42 4 (.slice al l.length cl) l.length (elv l) ∧ Step (fun k => TL 1 k ∨ (5000000000030 ≤ k ∧ k ≤ 5000000000039)) w o wx o') := fun wx sx => DONE.out _ (ST.quiet sx)
        clear DONE
        go_wp2_with fail
        refine hid.mono ?_
        rintro e w3 ⟨rr, rfl, hrr, hw3⟩
        obtain rfl : wr = w3 := hw3.symm
        obtain ⟨jj, hjj, rfl, hly⟩ := hl.has hty hrr
        clear hid hrr
        obtain ⟨gl, rfl, y0, y1, y2, y3⟩ := ST.row hjj
        rw [hly] at y0 y1 y2 y3
        simp only at y0 y1 y2 y3
        have hjI : (jj : Int) < (l.length : Int) := by omega
        have djj : (0 : Int) ≤ (jj : Int) := by omega
        clear ST
        go_wp2
        go_loopw [19, 20] (fun vf vk wx => ∃ k : Nat, k ≤ i ∧ vk = .int .i64 (k : Nat) ∧ vf = .bool (decide (ti ∈ (idl (way R u x)).take k)) ∧ ∃ mm, wx = wr.drewN mm) (fun _ vk _ => i - (intOf vk).toNat)
        case atStart => exact ⟨0, by omega, by go_num, by simp, 0, rfl⟩
        case round =>
          obtain ⟨k, hk, rfl, rfl, mm, rfl⟩ := hrel
          by_cases hki : k < i
          · have hkl : k < (idl (way R u x)).length := by have := HAL.out; omega
            have c3 := HCL.out k hkl
            have et : (idl (way R u x)).take (k + 1) = (idl (way R u x)).take k ++ [(idl (way R u x))[k]] := List.take_succ_eq_append_getElem hkl
            have hkI : (k : Int) < (i : Int) := by omega
            by_cases hf : ti ∈ (idl (way R u x)).take k
            · have hf2 : decide (ti ∈ (idl (way R u x)).take (k + 1)) = true := decide_eq_true (by rw [et]; exact List.mem_append_left _ hf)
              rw [decide_eq_true hf]
              clear HCL FIN et c3
              go_wp2
              go_quiet (fail)
              go_wp2
              go_roundw
              case rel => (try ((repeat apply Exists.intro); refine ⟨?_, rfl⟩)); exact ⟨k + 1, by omega, by go_num, by rw [hf2], _, rfl⟩
              case measure => simp [intOf]; omega
            · rw [decide_eq_false hf]
              have hf2 : decide (ti ∈ (idl (way R u x)).take (k + 1)) = decide ((((idl (way R u x))[k] : Nat) : Int) = (ti : Int)) := by
                rw [et]
                apply decide_eq_decide.2
                constructor
                · intro z
                  rcases List.mem_append.1 z with z | z
                  · exact absurd z hf
                  · simp at z; omega
                · intro z
                  exact List.mem_append_right _ (by simp; omega)
              generalize (((idl (way R u x))[k] : Nat) : Int) = q at c3 hf2
              clear HCL FIN et
              go_wp2
              go_quiet (fail)
              go_wp2
              go_roundw
              case rel => (try ((repeat apply Exists.intro); refine ⟨?_, rfl⟩)); exact ⟨k + 1, by omega, by go_num, by rw [hf2]; first | rfl | simp, _, rfl⟩
              case measure => simp [intOf]; omega
          · obtain rfl : k = i := by omega
            have hf : ti ∈ (idl (way R u x)).take k := by rw [HAL.out, List.take_length]; exact tmem
            rw [decide_eq_true hf]
            clear HCL
            go_wp2
            go_quiet (fail)
            rename_i nq
            have F2 := FIN.out ((wr.drewN mm).drewN nq) (fun o => ((Step.refl _ _ _).drewN mm).drewN nq)
            clear FIN
            go_wp2
            go_ret
            exact ⟨by first | rfl | exact ret_bool (by simp), F2⟩

end Go.Proofs.Ytddjaldamfileaa

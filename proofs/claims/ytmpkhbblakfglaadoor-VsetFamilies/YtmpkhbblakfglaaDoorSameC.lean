/- Groups of names in memory; Same. -/
import Derived.Test.YtmpkhbblakfglaaDoorSameG
namespace Go.Proofs.YtmpkhbblakfglaaDoor
open Go.ChangeShapes Go.WideShapes Go.ChangeAt Go.RowKit Go.Maps
set_option linter.unusedVariables false

theorem infoStrs : (Tryd.prog.info? 28).map (fun i => (i.zero, i.size, i.bytes)) = some (some (.slice none 0 0), 1, 24) := by kernel_rfl
theorem infoStr : (Tryd.prog.info? 9).map (fun i => (i.zero, i.size, i.bytes)) = some (some (.string ByteArray.empty), 1, 16) := by kernel_rfl
/-- The slice v holds a slice for each group: the outer one under label lo, group i under lb + i. -/
def GrpM (w : World) (o : Nat → Nat) (lo lb : Nat) (v : Value) (G : Grp) : Prop :=
  ∃ vs : List Value, Row w o lo 28 1 v G.length vs ∧ ∀ i (h : i < G.length), ∃ u, vs[i]? = some u ∧ Row w o (lb + i) 9 1 u (G[i]).2.length (strsL (G[i]).2)
theorem GrpM.step {I : Nat → Prop} {w w' : World} {o o' : Nat → Nat} {lo lb : Nat} {v : Value} {G : Grp} (h : GrpM w o lo lb v G) (s : Step I w o w' o') (h0 : ¬ I lo) (h1 : ∀ i, i < G.length → ¬ I (lb + i)) : GrpM w' o' lo lb v G := by
  obtain ⟨vs, hR, hG⟩ := h
  refine ⟨vs, hR.step s h0, fun i hi => ?_⟩
  obtain ⟨u, hu, hr⟩ := hG i hi
  exact ⟨u, hu, hr.step s (h1 i hi)⟩
theorem GrpM.nil (w : World) (o : Nat → Nat) (lo lb : Nat) : GrpM w o lo lb (.slice none 0 0) [] := ⟨[], Row.nil _ _ _ _ _, fun i h => by simp at h⟩
theorem strsL_app (l : List ByteArray) (s : ByteArray) : strsL (l ++ [s]) = strsL l ++ [.string s] := by simp [strsL]
/-- A group has grown, and its slice is stored. -/
theorem GrpM.put {w w1 : World} {o o1 : Nat → Nat} {lo lb g cap i : Nat} {G : Grp} {u' : Value} {s : ByteArray} (h : GrpM w o lo lb (.slice (some ⟨g, 0, none⟩) G.length cap) G) (hi : i < G.length) (hlo : lo < lb)
    (st : Step (fun k => k = lb + i) w o w1 o1) (hr : Row w1 o1 (lb + i) 9 1 u' ((G[i]).2.length + 1) (strsL (G[i]).2 ++ [.string s])) (hg : o1 g = lo) (hu : u'.oneCell' = true) :
    GrpM (w1.setCell ⟨g, i, none⟩ u') o1 lo lb (.slice (some ⟨g, 0, none⟩) G.length cap) (putG G i s) ∧ Step (fun k => k = lb + i ∨ k = lo) w o (w1.setCell ⟨g, i, none⟩ u') o1 := by
  obtain ⟨vs, hR, hG⟩ := h
  have hR1 := hR.step st (by omega)
  have hl : vs.length = G.length := by have := hR.len; omega
  have s2 : Step (fun k => k = lo) w1 o1 (w1.setCell ⟨g, i, none⟩ u') o1 := (Step.refl _ _ _).setCell _ _ hg
  refine ⟨⟨vs.set i u', by rw [putG_len]; exact hR1.store i u', fun j hj => ?_⟩, (st.mono fun _ h => .inl h).trans (s2.mono fun _ h => .inr h)⟩
  have hj' : j < G.length := by rw [putG_len] at hj; exact hj
  by_cases e : i = j
  · subst e
    refine ⟨u', by rw [List.getElem?_set_self (by omega)], ?_⟩
    rw [putG_same G i s hi]
    simp only [strsL_app, List.length_append, List.length_singleton]
    exact hr.step s2 (by omega)
  · obtain ⟨u, h1, h2⟩ := hG j hj'
    refine ⟨u, by rw [List.getElem?_set_ne e]; exact h1, ?_⟩
    rw [putG_other G i j s hi hj hj' e]
    exact (h2.step st (by omega)).step s2 (by omega)
theorem GrpM.new {w w1 : World} {o o1 : Nat → Nat} {lo lb g cap x : Nat} {G : Grp} {v : Value} {vs : List Value} (h : GrpM w o lo lb v G) (hR0 : Row w o lo 28 1 v G.length vs) (hlo : lo < lb)
    (hG : ∀ i (h : i < G.length), ∃ u, vs[i]? = some u ∧ Row w o (lb + i) 9 1 u (G[i]).2.length (strsL (G[i]).2))
    (st : Step (fun k => k = lo) w o w1 o1) (hR : Row w1 o1 lo 28 1 (.slice (some ⟨g, 0, none⟩) (G.length + 1) cap) (G.length + 1) (vs ++ [.slice none 0 0])) :
    GrpM w1 o1 lo lb (.slice (some ⟨g, 0, none⟩) (G.length + 1) cap) (G ++ [(x, [])]) := by
  have hl : vs.length = G.length := by have := hR0.len; omega
  refine ⟨vs ++ [.slice none 0 0], by simpa using hR, fun i hi => ?_⟩
  by_cases hi' : i < G.length
  · obtain ⟨u, h1, h2⟩ := hG i hi'
    refine ⟨u, by rw [List.getElem?_append_left (by omega)]; exact h1, ?_⟩
    rw [List.getElem_append_left hi']
    exact h2.step st (by omega)
  · have e : i = G.length := by simp at hi; omega
    subst e
    refine ⟨.slice none 0 0, by rw [← hl, List.getElem?_append_right (Nat.le_refl _)]; simp, ?_⟩
    simp only [List.getElem_append_right (Nat.le_refl _), Nat.sub_self, List.getElem_cons_zero]
    exact Row.nil _ _ _ _ _

/-- What the loop of Same keeps. -/
def SmJ (w : World) (o : Nat → Nat) (L p m bp : Nat) (F : ByteArray → Option Nat) (NL : List ByteArray) (vn : Value) (wr : World) (o' : Nat → Nat) (v3 : Value) (G : Grp) (f : Nat → Option Nat) : Prop :=
  GrpM wr o' (L + 4) (L + 10) v3 G ∧ PlM wr o' (L + 3) bp G.length f ∧ Row wr o' (L + 2) 9 1 vn m (strsL NL) ∧ Fam wr o' L p m F ∧ Step (fun k => L + 2 ≤ k ∧ k < L + 200000) w o wr o'

set_option maxHeartbeats 8000000 in
set_option maxRecDepth 100000 in
theorem same_fam (w : World) (o : Nat → Nat) (L p m : Nat) (F : ByteArray → Option Nat) (h : Fam w o L p m F) (hm : m ≤ 100000) (hF : ∀ s x, F s = some x → x < top64 ∧ s.size ≤ maxLen) :
    Calls Tryd.prog 28 #[.pointer (some ⟨p, 0, none⟩)] w fun e w' => ∃ v NL G o', e = .returned v ∧ NamesOf F NL ∧ NL.length = m ∧ GrpOf F NL G ∧ GrpM w' o' (L + 4) (L + 10) v G ∧ G.length ≤ m ∧ Fam w' o' L p m F ∧ Step (fun k => L + 2 ≤ k ∧ k < L + 200000) w o w' o' := by
  have hmm := run_makeMap (P := Tryd.prog) 81 w
  have s0 := newStep (fun k => L + 2 ≤ k ∧ k < L + 200000) w o (L + 3) (.map #[] 0)
  have P0 := PlM.made w o (L + 3)
  have F0 := h.step (newStep (fun _ => False) w o (L + 3) (.map #[] 0)) id id
  generalize newLab w o (L + 3) = o1 at s0 P0 F0
  obtain ⟨bp, hbp⟩ : ∃ b, b = w.heap.size := ⟨_, rfl⟩
  have HB : Hid (bp = w.heap.size) := hbp
  rw [← hbp] at P0
  obtain ⟨w1, hw1⟩ : ∃ w1, w1 = w.alloc (.map #[] 0) := ⟨_, rfl⟩
  rw [← hw1] at s0 P0 F0
  clear hbp h
  go_enter Tryd.func28, Tryd.ntmps28
  go_wp2_with fail
  rw [← hw1, ← HB.out]
  clear hw1 HB hmm
  refine (names_c w1 o1 L p m (L + 2) F F0 hm).mono ?_
  rintro e w2 ⟨vn, NL, o2, rfl, hN, hNl, R2, s2⟩
  have J0 : SmJ w o L p m bp F NL vn w2 o2 (.slice none 0 0) [] (fun _ => none) := ⟨GrpM.nil _ _ _ _, P0.step s2 id, R2, F0.step s2 id id, s0.trans (s2.mono fun _ h => h.elim)⟩
  obtain ⟨an, cn, rfl⟩ := R2.form
  clear s0 P0 F0 R2 s2
  go_wp2_with fail
  go_loopw [3, 14] (fun v3 v14 wr => ∃ (k : Nat) (G : Grp) (f : Nat → Option Nat) (o' : Nat → Nat), k ≤ m ∧ v14 = .int .i64 (k : Nat) ∧ GrpOf F (NL.take k) G ∧ PlOf f G ∧ G.length ≤ k ∧ SmJ w o L p m bp F NL (.slice an m cn) wr o' v3 G f) (fun _ v14 _ => m - (intOf v14).toNat)
  case atStart => exact ⟨0, [], fun _ => none, o2, by omega, by go_num, by simpa using GrpOf.nil F, ⟨fun i h => by simp at h, fun x i h => by simp at h⟩, by simp, J0⟩
  case round =>
    obtain ⟨k, G, f, o', hk, rfl, hG, hP, hGl, hM, hPl, hR, hFm, hS⟩ := hrel
    clear J0
    by_cases hlt : k < m
    · have hkI : (k : Int) < (m : Int) := by omega
      obtain ⟨g, cap, hv, hc, hgl, hgo⟩ := hR.str9 hNl k (by omega)
      simp only [Value.slice.injEq] at hv
      obtain ⟨rfl, hq, rfl⟩ := hv
      clear hq
      have hsm := (hN.1 (NL[k]'(by omega))).1 (List.getElem_mem _)
      obtain ⟨x, hx⟩ := Option.isSome_iff_exists.1 hsm
      obtain ⟨hxl, hsl⟩ := hF _ _ hx
      have htk : NL.take (k + 1) = NL.take k ++ [NL[k]'(by omega)] := by rw [List.take_add_one, List.getElem?_eq_getElem (by omega)]; rfl
      generalize (NL[k]'(by omega)) = nm at hc hx hsl htk
      have HTK : Hid (NL.take (k + 1) = NL.take k ++ [nm]) := htk
      clear htk hsm
      obtain ⟨bm, hB, hMm⟩ := hFm
      have hlk := hMm.look hsl hx
      have c0 := hB.cell1.1
      have s3 := newStep (fun _ => False) wr o' (L + 5) (.cells #[.int .u64 (x : Nat)] 42)
      have K3 : Blk (wr.alloc (.cells #[.int .u64 (x : Nat)] 42)) (newLab wr o' (L + 5)) (L + 5) wr.heap.size (.cells #[.int .u64 (x : Nat)] 42 (0, 0)) := ⟨heap_alloc_new wr _, newLab_new (Nat.le_refl _)⟩
      have M3 := hM.step s3 id (fun _ _ => id)
      have P3 := hPl.step s3 id
      have R3 := hR.step s3 id
      have Fm3 : Fam (wr.alloc (.cells #[.int .u64 (x : Nat)] 42)) (newLab wr o' (L + 5)) L p m F := Fam.step ⟨bm, hB, hMm⟩ s3 id id
      have S3 := hS.trans (s3.mono fun _ h => h.elim)
      generalize newLab wr o' (L + 5) = o3 at s3 K3 M3 P3 R3 Fm3 S3
      obtain ⟨b7, hb7⟩ : ∃ b, b = wr.heap.size := ⟨_, rfl⟩
      have HB7 : Hid (b7 = wr.heap.size) := hb7
      rw [← hb7] at K3
      obtain ⟨w3, hw3⟩ : ∃ v, v = wr.alloc (.cells #[.int .u64 (x : Nat)] 42) := ⟨_, rfl⟩
      rw [← hw3] at K3 M3 P3 R3 Fm3 S3
      have c7 := K3.cell1.1
      clear hb7 s3 hM hPl hR hS hB hMm
      cases hfx : f x with
      | some i =>
        obtain ⟨hi, hgi⟩ := hP.2 x i hfx
        have hpl := P3.look hxl hfx
        obtain ⟨vs, hR0, hGv⟩ := M3
        obtain ⟨u, hu, hru⟩ := hGv i hi
        obtain ⟨go, co, rfl, hgo2, _, _, hgol, hocell, hofr⟩ := hR0.pos (by omega)
        have hoc := hocell i (by omega)
        rw [hu] at hoc
        go_upto_region 7 with fail
        rw [← hw3, ← HB7.out]
        clear hw3 HB7
        have hsb := (hG.sub i hi).length_le
        rw [List.length_take] at hsb
        obtain ⟨au, cu, rfl⟩ := hru.form
        have hiI : (i : Int) < (G.length : Int) := by omega
        obtain ⟨ii, hii, hzi0, hzi1, hzi2⟩ := info_parts infoStr
        have GP : Hid (GrpOf F (NL.take (k + 1)) (putG G i nm)) := by show GrpOf _ _ _; rw [HTK.out]; exact hG.put hi (by rw [hx, hgi])
        have PP : Hid (PlOf f (putG G i nm)) := hP.put i nm hi
        generalize hln : (G[i]).2.length = ln at hru hsb
        have M3 : GrpM w3 o3 (L + 4) (L + 10) (.slice (some ⟨go, 0, none⟩) G.length co) G := ⟨vs, hR0, hGv⟩
        clear hfx hG hP hocell hgi HTK
        go_wp2_with (first | (at_builtin; refine wpList_append_lab rfl (.tmp 45) (.tmp 47) 28 rfl 9 ii (.string ByteArray.empty) 1 16 Tryd.underlying28 hii hzi0 hzi1 hzi2 rfl (by decide) o3 (L + 10 + i) _ ln (strsL (G[i]).2) rfl (hru.step (allocStep (fun _ => False) _ o3 _) (by simp)) ⟨w3.heap.size, 0, none⟩ 1 1 [.string nm] rfl rfl ?c1 ?c2 (by decide) ?c3 ?c4 ?_) | go_in)
        case c1 => exact new_one _ _ _
        case c2 => intro u hu; simp at hu; subst hu; rfl
        case c3 => unfold maxLen; omega
        case c4 => omega
        intro g4 cap4 w4 o4 R4 s4'
        have s4 : Step (fun k => k = L + 10 + i) w3 o3 w4 o4 := (allocStep _ w3 o3 _).trans s4'
        have hoc4 := (s4.cellAt (p := ⟨go, i, none⟩) hgol (by show ¬ (o3 go = L + 10 + i); omega)).trans hoc
        have hof4 := (s4.frozenAt (p := ⟨go, i, none⟩) hgol (by show ¬ (o3 go = L + 10 + i); omega)).trans (hofr i)
        have hgo4 : o4 go = L + 4 := (s4.lab go hgol).trans hgo2
        have PT := M3.put (s := nm) hi (by omega) s4 (by rw [hln]; exact R4) hgo4 rfl
        have RR : SmJ w o L p m bp F NL (.slice (some ⟨g, 0, none⟩) m cn) (w4.setCell ⟨go, i, none⟩ (.slice (some ⟨g4, 0, none⟩) (ln + 1) cap4)) o4 (.slice (some ⟨go, 0, none⟩) G.length co) (putG G i nm) f := by
          refine ⟨PT.1, by rw [putG_len]; exact P3.step PT.2 (by omega), R3.step PT.2 (by omega), Fm3.step PT.2 (by omega) (by omega), S3.trans (PT.2.mono fun k hk => by omega)⟩
        clear s4' s4 R4 M3 PT P3 R3 Fm3 S3 K3 hru hGv hR0 hln
        have hgl2 : (putG G i nm).length ≤ k + 1 := by rw [putG_len]; omega
        go_wp2
        go_roundw
        case rel => (try ((repeat apply Exists.intro); refine ⟨?_, rfl⟩)); exact ⟨k + 1, putG G i nm, f, o4, by omega, by go_num, GP.out, PP.out, hgl2, RR⟩
        case measure => simp [intOf]; omega
      | none =>
        obtain ⟨ap, hpl⟩ := P3.miss hxl hfx
        obtain ⟨w4, hput, P4, s4⟩ := P3.put hxl G.length (by omega) hfx (by omega)
        have M4 := M3.step s4 (by omega) (fun i _ => by omega)
        have R4 := R3.step s4 (by omega)
        have Fm4 := Fm3.step s4 (by omega) (by omega)
        have S4 := S3.trans (s4.mono fun k hk => by omega)
        have c74 := (K3.step s4 (by omega)).cell1.1
        obtain ⟨vs, hR0, hGv⟩ := M4
        obtain ⟨ao3, co3, rfl⟩ := hR0.form
        obtain ⟨ji, hji, hzj0, hzj1, hzj2⟩ := info_parts infoStrs
        obtain ⟨ii, hii, hzi0, hzi1, hzi2⟩ := info_parts infoStr
        have GP : Hid (GrpOf F (NL.take (k + 1)) (G ++ [(x, [nm])])) := by
          show GrpOf _ _ _
          rw [HTK.out]
          exact hG.new hx (fun i h e => by have := hP.1 i h; rw [e, hfx] at this; cases this)
        have PP : Hid (PlOf (updK f x G.length) (G ++ [(x, [nm])])) := hP.new x [nm] hfx
        clear M3 P3 R3 Fm3 S3 K3 s4 hG hP hfx HTK
        go_upto_region 7 with fail
        rw [← hw3, ← HB7.out]
        clear hw3 HB7
        go_wp2_with (first | (at_builtin; refine wpList_append_lab rfl (.tmp 37) (.tmp 38) 32 rfl 28 ji (.slice none 0 0) 1 24 Tryd.underlying32 hji hzj0 hzj1 hzj2 rfl (by decide) o3 (L + 4) _ G.length vs rfl (hR0.step (allocStep (fun _ => False) _ o3 _) (by simp)) ⟨w4.heap.size, 0, none⟩ 1 1 [.slice none 0 0] rfl rfl ?c1 ?c2 (by decide) ?c3 ?c4 ?_) | go_in)
        case c1 => exact new_one _ _ _
        case c2 => intro u hu; simp at hu; subst hu; rfl
        case c3 => unfold maxLen; omega
        case c4 => omega
        intro g5 cap5 w5 o5 R5 s5'
        have s5 : Step (fun k => k = L + 4) w4 o3 w5 o5 := (allocStep _ w4 o3 _).trans s5'
        have M5 := GrpM.new (lb := L + 10) (x := x) ⟨vs, hR0, hGv⟩ hR0 (by omega) hGv s5 R5
        have hvl : vs.length = G.length := by have := hR0.len; omega
        obtain ⟨g5', cap5', hv5, hgo5, _, _, hgl5, hcell5, hfr5⟩ := R5.pos (by omega)
        simp only [Value.slice.injEq, Option.some.injEq, Addr.mk.injEq, true_and, and_true] at hv5
        obtain ⟨hq1, hq2⟩ := hv5
        subst hq1 hq2
        have hoc := hcell5 G.length (by omega)
        rw [← hvl, List.getElem?_append_right (Nat.le_refl _), Nat.sub_self, hvl] at hoc
        have hoc' : w5.cell? ⟨g5, G.length, none⟩ = some (.slice none 0 0) := hoc
        have hof := hfr5 G.length
        have hiI : (G.length : Int) < (G.length : Int) + 1 := by omega
        have R6n : Row w5 o5 (L + 10 + G.length) 9 1 (.slice none 0 0) 0 [] := Row.nil _ _ _ _ _
        have P5 := P4.step s5 (by omega)
        have R5' := R4.step s5 (by omega)
        have Fm5 := Fm4.step s5 (by omega) (by omega)
        have S5 := S4.trans (s5.mono fun k hk => by omega)
        clear hoc hcell5 hfr5 R5 s5' s5 P4 R4 Fm4 S4 hR0 hGv hvl c74 hput hpl
        go_wp2_with (first | (at_builtin; refine wpList_append_lab rfl (.tmp 45) (.tmp 47) 28 rfl 9 ii (.string ByteArray.empty) 1 16 Tryd.underlying28 hii hzi0 hzi1 hzi2 rfl (by decide) o5 (L + 10 + G.length) _ 0 [] rfl (R6n.step (allocStep (fun _ => False) _ o5 _) (by simp)) ⟨w5.heap.size, 0, none⟩ 1 1 [.string nm] rfl rfl ?c1 ?c2 (by decide) ?c3 ?c4 ?_) | go_in)
        case c1 => exact new_one _ _ _
        case c2 => intro u hu; simp at hu; subst hu; rfl
        case c3 => unfold maxLen; omega
        case c4 => omega
        intro g6 cap6 w6 o6 R6 s6'
        have s6 : Step (fun k => k = L + 10 + G.length) w5 o5 w6 o6 := (allocStep _ w5 o5 _).trans s6'
        have hoc6 := (s6.cellAt (p := ⟨g5, G.length, none⟩) hgl5 (by show ¬ (o5 g5 = L + 10 + G.length); omega)).trans hoc'
        have hof6 := (s6.frozenAt (p := ⟨g5, G.length, none⟩) hgl5 (by show ¬ (o5 g5 = L + 10 + G.length); omega)).trans hof
        have hgo6 : o6 g5 = L + 4 := (s6.lab g5 hgl5).trans hgo5
        have hlen1 : (G ++ [(x, ([] : List ByteArray))]).length = G.length + 1 := by simp
        rw [← hlen1] at M5
        have PT := M5.put (i := G.length) (s := nm) (u' := .slice (some ⟨g6, 0, none⟩) (0 + 1) cap6) (by simp) (by omega) s6 (by simpa [strsL] using R6) hgo6 rfl
        rw [putG_new, hlen1] at PT
        have RR : SmJ w o L p m bp F NL (.slice (some ⟨g, 0, none⟩) m cn) (w6.setCell ⟨g5, G.length, none⟩ (.slice (some ⟨g6, 0, none⟩) (0 + 1) cap6)) o6 (.slice (some ⟨g5, 0, none⟩) (G.length + 1) cap5) (G ++ [(x, [nm])]) (updK f x G.length) := by
          refine ⟨PT.1, by simpa using P5.step PT.2 (by omega), R5'.step PT.2 (by omega), Fm5.step PT.2 (by omega) (by omega), S5.trans (PT.2.mono fun k hk => by omega)⟩
        have hgl2 : (G ++ [(x, [nm])]).length ≤ k + 1 := by simp; omega
        clear s6' s6 R6 M5 PT P5 R5' Fm5 S5 R6n hlen1
        go_wp2
        go_roundw
        case rel => (try ((repeat apply Exists.intro); refine ⟨?_, rfl⟩)); exact ⟨k + 1, G ++ [(x, [nm])], updK f x G.length, o6, by omega, by go_num, GP.out, PP.out, hgl2, RR⟩
        case measure => simp [intOf]; omega
    · obtain rfl : k = m := by omega
      rw [← hNl, List.take_length] at hG
      have RR : ∃ v NL G' o', v = u3 ∧ NamesOf F NL ∧ NL.length = k ∧ GrpOf F NL G' ∧ GrpM wr o' (L + 4) (L + 10) v G' ∧ G'.length ≤ k ∧ Fam wr o' L p k F ∧ Step (fun k => L + 2 ≤ k ∧ k < L + 200000) w o wr o' := ⟨u3, NL, G, o', rfl, hN, hNl, hG, hM, hGl, hFm, hS⟩
      clear hG hM hPl hR hFm hS hP hF hN
      go_wp2
      go_ret
      obtain ⟨v, NL', G', o'', rfl, RR⟩ := RR
      exact ⟨_, NL', G', o'', rfl, RR⟩
end Go.Proofs.YtmpkhbblakfglaaDoor

/- Who is of one tree, by a list of edges; the law's own function that looks for it. -/
import Derived.Test.YtddjaldamfileaaOnTheWayM
import Derived.Test.YtddjaldamfileaaCutW
import Derived.Deep.LoopGhost
namespace Go.Proofs.Ytddjaldamfileaa
open Go.ChangeShapes Go.WideShapes Go.ChangeAt Go.RowKit Go.Maps
set_option linter.unusedVariables false

/-- The least set of vertices that has one of them and that no edge leaves. -/
structure Least (l : List (Nat × Nat)) (a : Nat) (A : Nat → Prop) : Prop where
  self : A a
  shut : ∀ s ∈ l, (A s.1 ↔ A s.2)
  least : ∀ B : Nat → Prop, B a → (∀ s ∈ l, (B s.1 ↔ B s.2)) → ∀ v, A v → B v
/-- Bools, as they lie in a slice. -/
def boolsL (b : Nat → Bool) (n : Nat) : List Value := (List.range n).map (fun v => Value.bool (b v))
theorem boolsL_len (b : Nat → Bool) (n : Nat) : (boolsL b n).length = n := by simp [boolsL]
theorem boolsL_get (b : Nat → Bool) {n v : Nat} (h : v < n) : (boolsL b n)[v]? = some (.bool (b v)) := by simp [boolsL, h]
theorem boolsL_set (b : Nat → Bool) {n u : Nat} (h : u < n) : (boolsL b n).set u (.bool true) = boolsL (fun w => if w = u then true else b w) n := by
  apply List.ext_getElem
  · simp [boolsL]
  · intro i h1 h2
    simp only [boolsL, List.getElem_map, List.getElem_range, List.getElem_set]
    by_cases e : u = i
    · subst e; simp
    · rw [if_neg e, if_neg (fun x => e x.symm)]
theorem made_bools (n : Nat) : (madeCells (Value.bool false).cells n).toList = boolsL (fun _ => false) n := by
  apply List.ext_getElem
  · simp [madeCells, boolsL]
  · intro i h1 h2
    simp [madeCells, boolsL, Value.cells, Nat.mod_one]
/-- A slice of edges, only read: their ends. -/
def VwP (w : World) (o : Nat → Nat) (i : Nat) (v : Value) (l : List (Nat × Nat)) : Prop :=
  ∃ ao cap, v = .slice ao l.length cap ∧ l.length ≤ cap ∧ cap ≤ maxLen ∧ (0 < l.length → ∃ g off, ao = some ⟨g, off, none⟩ ∧ o g = i ∧ g < w.heap.size ∧ ∀ j (hj : j < l.length), w.cell? ⟨g, off + j * 4 + 1, none⟩ = some (.int .i64 (l[j].1 : Nat)) ∧ w.cell? ⟨g, off + j * 4 + 2, none⟩ = some (.int .i64 (l[j].2 : Nat)))
theorem VwP.step {I : Nat → Prop} {w w' : World} {o o' : Nat → Nat} {i : Nat} {v : Value} {l : List (Nat × Nat)} (h : VwP w o i v l) (s : Step I w o w' o') (hi : ¬ I i) : VwP w' o' i v l := by
  obtain ⟨ao, cap, rfl, hc, hm, hp⟩ := h
  refine ⟨ao, cap, rfl, hc, hm, fun h0 => ?_⟩
  obtain ⟨g, off, h1, h2, h3, h4⟩ := hp h0
  refine ⟨g, off, h1, (s.lab g h3).trans h2, Nat.lt_of_lt_of_le h3 s.size, fun j hj => ?_⟩
  have hc := fun k => s.cell h3 (by rw [h2]; exact hi) k
  exact ⟨(hc _).trans (h4 j hj).1, (hc _).trans (h4 j hj).2⟩
/-- How many are not in. -/
def cnt (b : Nat → Bool) (n : Nat) : Nat := ((List.range n).filter (fun v => !b v)).length
theorem cnt_lt {b c : Nat → Bool} {n u : Nat} (hu : u < n) (h1 : b u = false) (h2 : c u = true) (h : ∀ v, b v = true → c v = true) : cnt c n < cnt b n := by
  unfold cnt
  have hsub : ((List.range n).filter (fun v => !c v)) = ((List.range n).filter (fun v => !b v)).filter (fun v => !c v) := by
    rw [List.filter_filter]
    congr 1
    funext v
    by_cases e : b v = true
    · simp [e, h v e]
    · simp at e; simp [e]
  rw [hsub, List.length_filter_lt_length_iff_exists]
  exact ⟨u, List.mem_filter.2 ⟨by simpa using hu, by simp [h1]⟩, by simp [h2]⟩
/-- Only what must be in is in. -/
def Must (l : List (Nat × Nat)) (a : Nat) (b : Nat → Bool) : Prop := b a = true ∧ ∀ B : Nat → Prop, B a → (∀ s ∈ l, (B s.1 ↔ B s.2)) → ∀ v, b v = true → B v
theorem Must.more {l : List (Nat × Nat)} {a : Nat} {b : Nat → Bool} (h : Must l a b) {s : Nat × Nat} (hs : s ∈ l) (hne : b s.1 ≠ b s.2) : Must l a (fun w => if w = s.2 then true else (if w = s.1 then true else b w)) := by
  refine ⟨by simp [h.1], fun B hB hsh v hv => ?_⟩
  have k := hsh s hs
  have one : B s.1 := by
    by_cases e : b s.1 = true
    · exact h.2 B hB hsh _ e
    · exact k.2 (h.2 B hB hsh _ (by simp at e; rw [e] at hne; simpa using hne.symm))
  simp only at hv
  by_cases e2 : v = s.2
  · rw [e2]; exact k.1 one
  · rw [if_neg e2] at hv
    by_cases e1 : v = s.1
    · rw [e1]; exact one
    · rw [if_neg e1] at hv; exact h.2 B hB hsh v hv
/-- What it leaves. -/
def JoinOut (w : World) (o : Nat → Nat) (lb n a : Nat) (l : List (Nat × Nat)) (e : Ending) (w' : World) : Prop :=
  ∃ g cap b o', e = .returned (.slice (some ⟨g, 0, none⟩) n cap) ∧ Row w' o' lb 4 1 (.slice (some ⟨g, 0, none⟩) n cap) n (boolsL b n) ∧ Least l a (fun v => b v = true) ∧ Step (fun k => k = lb) w o w' o'

/-- The state. -/
def JnS (w : World) (o : Nat → Nat) (lb g n a : Nat) (l : List (Nat × Nat)) (b : Nat → Bool) (wr : World) : Prop :=
  ∃ o', Row wr o' lb 4 1 (.slice (some ⟨g, 0, none⟩) n n) n (boolsL b n) ∧ Must l a b ∧ Step (fun k => k = lb) w o wr o'
theorem JnS.drewN {w : World} {o : Nat → Nat} {lb g n a : Nat} {l : List (Nat × Nat)} {b : Nat → Bool} {wr : World} (h : JnS w o lb g n a l b wr) (m : Nat) : JnS w o lb g n a l b (wr.drewN m) := by
  obtain ⟨o', r, hm, s⟩ := h
  exact ⟨o', r.step ((Step.refl (fun _ => False) _ _).drewN m) id, hm, s.drewN m⟩
/-- How many rounds there are left. -/
def left2 (b : Nat → Bool) (n : Nat) (m : Bool) : Nat := cnt b n + (if m then 1 else 0)

set_option maxRecDepth 100000 in
set_option maxHeartbeats 8000000 in
theorem joined_any (w : World) (o : Nat → Nat) (lb la n a : Nat) (vl : Value) (l : List (Nat × Nat)) (hv : VwP w o la vl l) (hne : la ≠ lb) (ha : a < n) (hn : n ≤ 64) (hl : l.length ≤ 1000) (hlt : ∀ s ∈ l, s.1 < n ∧ s.2 < n) :
    Calls Try.prog 13 #[.int .i64 n, vl, .int .i64 a] w fun e w' => JoinOut w o lb n a l e w' := by
  obtain ⟨ii, hii, hzi0, hzi1, hzi2⟩ := info_parts infoBool
  have HV : Hid (VwP w o la vl l) := hv
  obtain ⟨ao, cap, rfl, hc, hmx, hp⟩ := hv
  unfold maxLen at hmx
  clear hp
  go_enter Try.func13, Try.ntmps13
  go_wp2_with (at_make; refine wpList_make_full _ rfl _ _ 43 rfl w.heap.size 4 ii (.bool false) 1 Try.underlying43 hii hzi0 hzi1 .i64 .i64 _ _ n rfl rfl rfl rfl ?b2 ?b3 (Nat.le_refl _) ?_)
  case b2 => rw [hzi2]; omega
  case b3 => unfold maxLen; omega
  intro w1 hown hgr
  have r1 : Row w1 (newLab w o lb) lb 4 1 (.slice (some ⟨w.heap.size, 0, none⟩) n n) n (boolsL (fun _ => false) n) := by
    refine ⟨?_, fun k hk => ?_⟩
    · have := ownsRow_base0 hown
      rw [← made_bools]; exact this
    · simp [Value.ownBlock] at hk; subst hk; exact newLab_new (Nat.le_refl _)
  have s1 : Step (fun k => k = lb) w o w1 (newLab w o lb) := ⟨hgr.os, hgr.tape, hgr.output, hgr.size, fun k hk => newLab_old hk, fun k hk _ => hgr.block k hk (by simp)⟩
  obtain ⟨g1, c1, hv1, hg1, hg2, hg3, hg4, hg5, hg6⟩ := r1.pos (by omega)
  simp only [Value.slice.injEq, Option.some.injEq, Addr.mk.injEq, and_true, true_and] at hv1
  obtain ⟨rfl, rfl⟩ := hv1
  have ca := (hg5 a (by omega)).trans (boolsL_get _ ha)
  have START : JnS w o lb w.heap.size n a l (fun v => if v = a then true else false) (w1.setCell ⟨w.heap.size, a, none⟩ (.bool true)) := by
    refine ⟨newLab w o lb, ?_, ⟨by simp, fun B hB _ v hv => ?_⟩, s1.setCell ⟨w.heap.size, a, none⟩ _ hg1⟩
    · have := r1.store a (.bool true)
      rw [boolsL_set _ ha] at this
      exact this
    · by_cases e : v = a
      · rw [e]; exact hB
      · simp [e] at hv
  have haI : (a : Int) < (n : Int) := by omega
  obtain ⟨g, hg⟩ : ∃ g, g = w.heap.size := ⟨_, rfl⟩
  rw [← hg] at START ca ⊢
  have hfr := hg6 a
  rw [← hg] at hfr
  clear hown hgr r1 s1 hg5 hg6 hg hg4 hg1
  go_wp2
  go_loopg [8] (left2 (fun v => if v = a then true else false) n true) (fun gh vm wr => ∃ (b : Nat → Bool) (m : Bool), vm = .bool m ∧ gh = left2 b n m ∧ JnS w o lb g n a l b wr ∧ (m = false → ∀ s ∈ l, b s.1 = b s.2))
  case atStart => exact ⟨_, true, rfl, rfl, START, fun h => by cases h⟩
  case round =>
    clear START ca hfr
    obtain ⟨b, m, rfl, rfl, J, hend⟩ := hrel
    cases m with
    | false =>
      obtain ⟨o', r, hm, s⟩ := J
      have HL : Hid (Least l a (fun v => b v = true)) := ⟨hm.1, fun s hs => by rw [hend rfl s hs], hm.2⟩
      clear hend hm
      go_wp2
      go_ret
      exact ⟨g, n, b, o', rfl, r, HL.out, s⟩
    | true =>
      clear hend
      go_wp2
      go_loopg [8, 9] l.length (fun gh2 vm vi wx => ∃ (j : Nat) (m2 : Bool) (b2 : Nat → Bool), vm = .bool m2 ∧ vi = .int .i64 (j : Nat) ∧ j ≤ l.length ∧ gh2 = l.length - j ∧ JnS w o lb g n a l b2 wx ∧ ((m2 = false ∧ b2 = b ∧ ∀ s ∈ l.take j, b s.1 = b s.2) ∨ (m2 = true ∧ cnt b2 n < cnt b n)))
      case atStart => exact ⟨0, false, b, rfl, by go_num, by omega, by omega, J, .inl ⟨rfl, rfl, by simp⟩⟩
      case round =>
        clear J
        obtain ⟨j, m2, b2, rfl, rfl, hj, rfl, J2, hcase⟩ := hrel
        by_cases hjl : j < l.length
        · obtain ⟨o2, r2, hm2, s2⟩ := J2
          obtain ⟨ao', cap', hvv, q1, q2, hp⟩ := HV.out.step s2 hne
          simp only [Value.slice.injEq, true_and] at hvv
          obtain ⟨rfl, rfl⟩ := hvv
          obtain ⟨gl, off, rfl, q3, q4, q5⟩ := hp (by omega)
          clear hp
          obtain ⟨x1, x2⟩ := q5 j hjl
          have hsl := List.getElem_mem hjl
          obtain ⟨lt1, lt2⟩ := hlt _ hsl
          obtain ⟨g1, c1, hv1, hg1, hg2', hg3', hg4, hg5, hg6⟩ := r2.pos (by omega)
          simp only [Value.slice.injEq, Option.some.injEq, Addr.mk.injEq, and_true, true_and] at hv1
          obtain ⟨rfl, rfl⟩ := hv1
          have cu := (hg5 _ (by omega)).trans (boolsL_get b2 lt1)
          have cv := (hg5 _ (by omega)).trans (boolsL_get b2 lt2)
          have HS : Hid (∃ (hh : j < l.length), True) := ⟨hjl, trivial⟩
          have et : l.take (j + 1) = l.take j ++ [l[j]] := List.take_succ_eq_append_getElem hjl
          obtain ⟨u, hu⟩ : ∃ u, u = l[j].1 := ⟨_, rfl⟩
          obtain ⟨v, hv⟩ : ∃ v, v = l[j].2 := ⟨_, rfl⟩
          rw [← hu] at x1 cu lt1
          rw [← hv] at x2 cv lt2
          have hjI : (j : Int) < (l.length : Int) := by omega
          have huI : (u : Int) < (n : Int) := by omega
          have hvI : (v : Int) < (n : Int) := by omega
          by_cases e : b2 u = b2 v
          · have HC : Hid ((m2 = false ∧ b2 = b ∧ ∀ s ∈ l.take (j + 1), b s.1 = b s.2) ∨ (m2 = true ∧ cnt b2 n < cnt b n)) := by
              rcases hcase with ⟨a1, a2, a3⟩ | a1
              · refine .inl ⟨a1, a2, fun s hs => ?_⟩
                rw [et] at hs
                rcases List.mem_append.1 hs with hs | hs
                · exact a3 s hs
                · simp at hs; rw [hs, ← hu, ← hv, ← a2]; exact e
              · exact .inr a1
            have R : JnS w o lb g n a l b2 wr := ⟨o2, r2, hm2, s2⟩
            rw [← e] at cv
            obtain ⟨bb, hbb⟩ : ∃ bb, bb = b2 u := ⟨_, rfl⟩
            rw [← hbb] at cu cv
            clear hcase e et hu hv hbb hm2 s2 r2 hg5 hg6 q5
            go_wp2
            go_quiet (fail)
            go_wp2
            go_roundg (l.length - (j + 1))
            case measure => omega
            case rel => (try ((repeat apply Exists.intro); refine ⟨?_, rfl⟩)); exact ⟨j + 1, m2, b2, rfl, by go_num, by omega, rfl, R.drewN _, HC.out⟩
          · have huv : u ≠ v := fun x => e (by rw [x])
            have hcnt : cnt (fun w => if w = v then true else (if w = u then true else b2 w)) n < cnt b2 n := by
              by_cases q : b2 u = true
              · exact cnt_lt lt2 (by rw [q] at e; cases h : b2 v with | true => exact absurd h.symm e | false => rfl) (by simp) (fun x hx => by simp [hx])
              · exact cnt_lt lt1 (by simpa using q) (by simp) (fun x hx => by simp [hx])
            have HC : Hid (cnt (fun w => if w = v then true else (if w = u then true else b2 w)) n < cnt b n) := by
              show _ < _
              rcases hcase with ⟨_, a2, _⟩ | ⟨_, a2⟩
              · rw [← a2]; exact hcnt
              · omega
            have hmm := hm2.more hsl (by rw [← hu, ← hv]; exact e)
            rw [← hu, ← hv] at hmm
            have HR : Hid (∀ nq, JnS w o lb g n a l (fun w => if w = v then true else (if w = u then true else b2 w)) (((wr.drewN nq).setCell ⟨g, u, none⟩ (.bool true)).setCell ⟨g, v, none⟩ (.bool true))) := fun nq => by
              refine ⟨o2, ?_, hmm, ((s2.drewN nq).setCell ⟨g, u, none⟩ _ hg1).setCell ⟨g, v, none⟩ _ hg1⟩
              have := ((r2.step ((Step.refl (fun _ => False) _ _).drewN nq) id).store u (.bool true)).store v (.bool true)
              rw [boolsL_set _ lt1, boolsL_set _ lt2] at this
              exact this
            have fu := hg6 u
            have fv := hg6 v
            have hne3 : gl ≠ g := fun x => by rw [x, hg1] at q3; exact hne q3.symm
            have hne4 := hne3.symm
            cases hb1 : b2 u <;> cases hb2 : b2 v <;> (try exact absurd (hb1.trans hb2.symm) e)
            all_goals
              rw [hb1] at cu
              rw [hb2] at cv
              clear hcase e et hu hv hm2 s2 r2 hg5 hg6 q5 hcnt hmm
              go_wp2
              go_quiet (fail)
              go_wp2
              go_roundg (l.length - (j + 1))
              case measure => omega
              case rel => (try ((repeat apply Exists.intro); refine ⟨?_, rfl⟩)); exact ⟨j + 1, true, _, rfl, by go_num, by omega, rfl, HR.out _, .inr ⟨rfl, HC.out⟩⟩
        · obtain rfl : j = l.length := by omega
          rcases hcase with ⟨rfl, rfl, hall⟩ | ⟨rfl, hlt2⟩
          · have HA : Hid (∀ s ∈ l, b2 s.1 = b2 s.2) := by rw [List.take_length] at hall; exact hall
            clear hall
            go_wp2
            go_roundg (left2 b2 n false)
            case measure => simp [left2]
            case rel => exact ⟨b2, false, rfl, rfl, J2, fun _ => HA.out⟩
          · go_wp2
            go_roundg (left2 b2 n true)
            case measure => simp [left2]; omega
            case rel => exact ⟨b2, true, rfl, rfl, J2, fun h => by cases h⟩

/-- The ends of a list's edges. -/
def pl (l : List (Nat × Ed)) : List (Nat × Nat) := l.map fun x => (x.2.u, x.2.v)
theorem Row.vwp {w : World} {o : Nat → Nat} {i : Nat} {v : Value} {l : List (Nat × Ed)} (h : Row w o i 42 4 v l.length (elv l)) : VwP w o i v (pl l) := by
  have hl : (pl l).length = l.length := by simp [pl]
  by_cases h0 : 0 < l.length
  · obtain ⟨g, cap, rfl, hg, hc, hm, hlt, hcell, hfr⟩ := h.pos h0
    refine ⟨_, cap, by rw [hl], by omega, hm, fun _ => ⟨g, 0, rfl, hg, hlt, fun j hj => ?_⟩⟩
    rw [hl] at hj
    have e1 : (pl l)[j] = (l[j].2.u, l[j].2.v) := by simp [pl]
    rw [e1, Nat.zero_add, hcell _ (by omega), hcell _ (by omega), elv_get l j 1 hj (by omega), elv_get l j 2 hj (by omega)]
    exact ⟨rfl, rfl⟩
  · rcases h.1.2 with ⟨rfl, _⟩ | ⟨g, cap, cur, rfl, _, _, hc, hm, _⟩
    · exact ⟨none, 0, by rw [hl, show l.length = 0 by omega], by omega, by unfold maxLen; omega, fun h => absurd h (by omega)⟩
    · exact ⟨_, cap, by rw [hl], by omega, hm, fun h => absurd h (by omega)⟩
/-- A list that holds all edges. -/
def TolE (ed : Nat → Option Ed) (l : List (Nat × Ed)) : Prop := ∀ i x, ed i = some x ↔ (i, x) ∈ l
/-- Who is of one tree, by a list of edges. -/
theorem joined_heads {n : Nat} {ed : Nat → Option Ed} {R : Nat → List Nat} {l : List (Nat × Ed)} (A0 : Alt n ed R) (ok : EdOk n ed) (hT : Rt (liveN n ed) R) (hl : TolE ed l) {a : Nat} (ha : a < n) {A : Nat → Prop} (hA : Least (pl l) a A) {v : Nat} (hv : v < n) : A v ↔ (R (2 * v + 1)).head? = (R (2 * a + 1)).head? := by
  have ends : ∀ i x, ed i = some x → (R (2 * x.u + 1)).head? = (R (2 * x.v + 1)).head? := fun i x hx => by
    obtain ⟨c, d, cd, ec, e2⟩ := A0.e i x hx
    obtain ⟨_, o1, o2, _⟩ := ok i x hx
    have li : liveN n ed (2 * i + 2) := liveN_e.2 (by rw [hx]; rfl)
    have h1 := hT.head_of li (y := 2 * c + 1) (by rw [ec]; obtain ⟨p, hp⟩ := hT.last _ (liveN_v (ed := ed) (show c < n by omega)); rw [hp]; simp)
    have h2 := hT.head_of (liveN_v (show d < n by omega)) (y := 2 * i + 2) (by rw [e2]; obtain ⟨p, hp⟩ := hT.last _ li; rw [hp]; simp)
    have h3 := h1.trans h2
    rcases cd with ⟨q1, q2⟩ | ⟨q1, q2⟩
    · rw [← q1, ← q2]; exact h3
    · rw [← q1, ← q2]; exact h3.symm
  have toRoot : ∀ (m v : Nat), (R (2 * v + 1)).length ≤ m → v < n → ∃ r, r < n ∧ (R (2 * v + 1)).head? = some (2 * r + 1) ∧ (A v ↔ A r) := by
    intro m
    induction m with
    | zero =>
      intro v hm hv
      obtain ⟨p, hp⟩ := hT.last _ (liveN_v (ed := ed) hv)
      rw [hp] at hm; simp at hm
    | succ m ih =>
      intro v hm hv
      rcases A0.v v hv with q | ⟨i, x, hx, hvx, q⟩
      · exact ⟨v, hv, by rw [q]; rfl, Iff.rfl⟩
      · obtain ⟨c, d, cd, ec, e2⟩ := A0.e i x hx
        obtain ⟨_, o1, o2, _⟩ := ok i x hx
        have hd : 2 * v + 1 = 2 * d + 1 := A0.next_e ok hT hx (liveN_v hv) q cd ec
        obtain ⟨r, r1, r2, r3⟩ := ih c (by rw [q, ec] at hm; simp at hm; omega) (by omega)
        have sh := hA.shut (x.u, x.v) (List.mem_map.2 ⟨(i, x), (hl i x).1 hx, rfl⟩)
        have hen := ends i x hx
        refine ⟨r, r1, ?_, ?_⟩
        · rw [← r2]
          rcases cd with ⟨q1, q2⟩ | ⟨q1, q2⟩
          · rw [q1, show v = x.v by omega]; exact hen.symm
          · rw [q1, show v = x.u by omega]; exact hen
        · rw [← r3]
          rcases cd with ⟨q1, q2⟩ | ⟨q1, q2⟩
          · rw [q1, show v = x.v by omega]; exact sh.symm
          · rw [q1, show v = x.u by omega]; exact sh
  constructor
  · intro hAv
    have := hA.least (fun w => w < n ∧ (R (2 * w + 1)).head? = (R (2 * a + 1)).head?) ⟨ha, rfl⟩ (fun s hs => ?_) v hAv
    · exact this.2
    · obtain ⟨⟨i, x⟩, hx, rfl⟩ := List.mem_map.1 hs
      have hx2 := (hl i x).2 hx
      obtain ⟨_, o1, o2, _⟩ := ok i x hx2
      have := ends i x hx2
      exact ⟨fun z => ⟨o2, this.symm.trans z.2⟩, fun z => ⟨o1, this.trans z.2⟩⟩
  · intro e
    obtain ⟨r, _, r2, r3⟩ := toRoot _ v (Nat.le_refl _) hv
    obtain ⟨s, _, s2, s3⟩ := toRoot _ a (Nat.le_refl _) ha
    rw [r2, s2] at e
    simp at e
    rw [r3, show r = s by omega, ← s3]
    exact hA.self

end Go.Proofs.Ytddjaldamfileaa

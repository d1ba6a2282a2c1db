/- Who is of one tree, by a list of edges; the law's own functions that look for it. -/
import Derived.Test.YtnpfagpgploolaaEu
import Derived.Test.YtnpfagpgploolaaAwake4
import Derived.Deep.LoopGhost
namespace Go.Proofs.Ytnpfagpgploolaa
set_option linter.unusedVariables false

/-- A list that holds the edges of tours, each told one way at least. -/
structure Told (n : Nat) (Y : Nat → List (Nat × Nat)) (l : List (Nat × Nat)) : Prop where
  lt : ∀ s ∈ l, s.1 < n ∧ s.2 < n ∧ s.1 ≠ s.2
  has : ∀ u v, u < n → v < n → u ≠ v → ((u, v) ∈ Y u ↔ (u, v) ∈ l ∨ (v, u) ∈ l)
/-- The least set of vertices that has one of them and that no edge leaves. -/
structure Least (l : List (Nat × Nat)) (a : Nat) (A : Nat → Prop) : Prop where
  self : A a
  shut : ∀ s ∈ l, (A s.1 ↔ A s.2)
  least : ∀ B : Nat → Prop, B a → (∀ s ∈ l, (B s.1 ↔ B s.2)) → ∀ v, A v → B v
theorem Told.joined {n ms : Nat} {Y : Nat → List (Nat × Nat)} {l : List (Nat × Nat)} (E : Eu n ms Y) (h : Told n Y l) {a : Nat} (ha : a < n) {A : Nat → Prop} (hA : Least l a A) {v : Nat} (hv : v < n) : A v ↔ Y v = Y a := by
  constructor
  · intro hAv
    have := hA.least (fun w => w < n ∧ Y w = Y a) ⟨ha, rfl⟩ (fun s hs => ?_) v hAv
    · exact this.2
    · obtain ⟨h1, h2, h3⟩ := h.lt s hs
      have hm := (h.has s.1 s.2 h1 h2 h3).2 (.inl hs)
      have e : Y s.2 = Y s.1 := (E.one s.1 h1 _ hm).2.2.2
      exact ⟨fun x => ⟨h2, by rw [e]; exact x.2⟩, fun x => ⟨h1, by rw [← e]; exact x.2⟩⟩
  · intro e
    have hw := E.walk a ha
    rw [(split_at (E.self a ha)).1] at hw
    obtain ⟨x, hx⟩ := hw.swap
    have hxa : a = x := hx.1
    subst hxa
    have hmem : ∀ t, t ∈ (a, a) :: behind (Y a) (a, a) ++ ahead (Y a) (a, a) ↔ t ∈ Y a := fun t => mem_turnX (E.self a ha)
    have stay := Ch.stay (P := A) hx hA.self (fun t ht hp => by
      have ht2 := (hmem t).1 ht
      obtain ⟨h1, h2, h3, _⟩ := E.one a ha t ht2
      by_cases ee : t.1 = t.2
      · rw [← ee]; exact hp
      · have hm : (t.1, t.2) ∈ Y t.1 := by rw [h3]; exact ht2
        rcases (h.has t.1 t.2 h1 h2 ee).1 hm with q | q
        · exact (hA.shut _ q).1 hp
        · exact (hA.shut _ q).2 hp)
    exact (stay (v, v) ((hmem _).2 ((E.iff hv ha).2 e))).1
/-- Linked. -/
theorem Told.link {n ms u v : Nat} {Y : Nat → List (Nat × Nat)} {l : List (Nat × Nat)} (E : Eu n ms Y) (h : Told n Y l) (hu : u < n) (hv : v < n) (hne : Y u ≠ Y v) : Told n (setY Y (linkX (Y u) (Y v) u v)) (l ++ [(u, v)]) := by
  have huv : u ≠ v := fun e => hne (by rw [e])
  refine ⟨fun s hs => ?_, fun a b ha hb hab => ?_⟩
  · rcases List.mem_append.1 hs with hs | hs
    · exact h.lt s hs
    · simp at hs; subst hs; exact ⟨hu, hv, huv⟩
  · have hm : (a, b) ∈ setY Y (linkX (Y u) (Y v) u v) a ↔ (a, b) ∈ Y a ∨ (a, b) = (u, v) ∨ (a, b) = (v, u) := by
      rw [E.link_at hu hv huv]
      by_cases c : a < n ∧ (Y a = Y u ∨ Y a = Y v)
      · rw [if_pos c, mem_linkX (E.self u hu) (E.self v hv)]
        constructor
        · rintro (x | x | x | x)
          · exact .inl (by rw [(E.one u hu _ x).2.2.1]; exact x)
          · exact .inl (by rw [(E.one v hv _ x).2.2.1]; exact x)
          · exact .inr (.inl x)
          · exact .inr (.inr x)
        · rintro (x | x | x)
          · rcases c.2 with e | e
            · exact .inl (e ▸ x)
            · exact .inr (.inl (e ▸ x))
          · exact .inr (.inr (.inl x))
          · exact .inr (.inr (.inr x))
      · rw [if_neg c]
        constructor
        · exact .inl
        · rintro (x | x | x)
          · exact x
          · simp only [Prod.mk.injEq] at x; exact absurd ⟨ha, .inl (by rw [x.1])⟩ c
          · simp only [Prod.mk.injEq] at x; exact absurd ⟨ha, .inr (by rw [x.1])⟩ c
    rw [hm, h.has a b ha hb hab]
    simp only [List.mem_append, List.mem_singleton, Prod.mk.injEq]
    constructor
    · rintro ((x | x) | x | x)
      · exact .inl (.inl x)
      · exact .inr (.inl x)
      · exact .inl (.inr x)
      · exact .inr (.inr ⟨x.2, x.1⟩)
    · rintro ((x | x) | (x | x))
      · exact .inl (.inl x)
      · exact .inr (.inl x)
      · exact .inl (.inr x)
      · exact .inr (.inr ⟨x.2, x.1⟩)
/-- Cut. -/
theorem Told.cut {n ms a b : Nat} {Y : Nat → List (Nat × Nat)} {l l' : List (Nat × Nat)} {A M B : List (Nat × Nat)} (E : Eu n ms Y) (h : Told n Y l) (ha : a < n) (hab : a ≠ b) (e : Y a = A ++ (a, b) :: (M ++ (b, a) :: B))
    (hl : ∀ s, s ∈ l' ↔ s ∈ l ∧ s ≠ (a, b) ∧ s ≠ (b, a)) : Told n (setY (setY Y M) (A ++ B)) l' := by
  have c := E.cu ha hab e
  refine ⟨fun s hs => h.lt s ((hl s).1 hs).1, fun u v hu hv huv => ?_⟩
  have hm : (u, v) ∈ setY (setY Y M) (A ++ B) u ↔ (u, v) ∈ Y u ∧ (u, v) ≠ (a, b) ∧ (u, v) ≠ (b, a) := by
    rcases E.cut_at ha c u with ⟨hs, hy⟩ | ⟨hs, hy⟩ | ⟨hs1, hs2, hy⟩
    · rw [hy]
      have eu : Y u = Y a := (E.iff hu ha).1 ((c.mem _).2 (.inr (.inl hs)))
      rw [eu, c.mem]
      constructor
      · intro x
        exact ⟨.inr (.inl x), fun q => c.notin.2.2.1 (q ▸ x), fun q => c.notin.2.2.2 (q ▸ x)⟩
      · rintro ⟨x | x | x | x, q1, q2⟩
        · exact absurd hs (c.apart _ (c.clM _ x).1)
        · exact x
        · exact absurd x q1
        · exact absurd x q2
    · rw [hy]
      have eu : Y u = Y a := (E.iff hu ha).1 ((c.mem _).2 (.inl hs))
      rw [eu, c.mem]
      constructor
      · intro x
        exact ⟨.inl x, fun q => c.notin.1 (q ▸ x), fun q => c.notin.2.1 (q ▸ x)⟩
      · rintro ⟨x | x | x | x, q1, q2⟩
        · exact x
        · exact absurd (c.clR _ x).1 (c.apart _ hs)
        · exact absurd x q1
        · exact absurd x q2
    · rw [hy]
      constructor
      · intro x
        have key : (u, v) ∉ Y a := fun q => by
          have eu : Y u = Y a := (E.one a ha _ q).2.2.1
          rcases (c.mem (u, u)).1 ((E.iff hu ha).2 eu) with z | z | z | z
          · exact hs2 z
          · exact hs1 z
          · simp only [Prod.mk.injEq] at z; omega
          · simp only [Prod.mk.injEq] at z; omega
        refine ⟨x, fun q => key ?_, fun q => key ?_⟩
        · rw [q, c.mem]; exact .inr (.inr (.inl rfl))
        · rw [q, c.mem]; exact .inr (.inr (.inr rfl))
      · exact fun x => x.1
  rw [hm, h.has u v hu hv huv, hl, hl]
  simp only [ne_eq, Prod.mk.injEq]
  constructor
  · rintro ⟨x | x, q1, q2⟩
    · exact .inl ⟨x, q1, q2⟩
    · exact .inr ⟨x, fun z => q2 ⟨z.2, z.1⟩, fun z => q1 ⟨z.2, z.1⟩⟩
  · rintro (⟨x, q1, q2⟩ | ⟨x, q1, q2⟩)
    · exact ⟨.inl x, q1, q2⟩
    · exact ⟨.inr x, fun z => q2 ⟨z.2, z.1⟩, fun z => q1 ⟨z.2, z.1⟩⟩
/-- Turned. -/
theorem Told.turn {n ms v : Nat} {Y : Nat → List (Nat × Nat)} {l : List (Nat × Nat)} (E : Eu n ms Y) (h : Told n Y l) (hv : v < n) : Told n (setY Y (turnX (Y v) (v, v))) l := by
  refine ⟨h.lt, fun a b ha hb hab => ?_⟩
  rw [← h.has a b ha hb hab, E.turn_at hv]
  by_cases c : a < n ∧ Y a = Y v
  · rw [if_pos c, mem_turnX (E.self v hv), c.2]
  · rw [if_neg c]
theorem Told.new (n : Nat) : Told n (fun v => [(v, v)]) [] := ⟨fun s hs => by simp at hs, fun u v _ _ h => by simp; omega⟩

end Go.Proofs.Ytnpfagpgploolaa
namespace Go.Proofs.Ytnpfagpgploolaa
open Go.ChangeShapes Go.WideShapes Go.ChangeAt Go.RowKit Go.Maps
set_option linter.unusedVariables false

/-- Bools, as they lie in a slice. -/
def boolsL (b : Nat → Bool) (n : Nat) : List Value := (List.range n).map (fun v => Value.bool (b v))
theorem boolsL_len (b : Nat → Bool) (n : Nat) : (boolsL b n).length = n := by simp [boolsL]
theorem boolsL_get (b : Nat → Bool) {n v : Nat} (h : v < n) : (boolsL b n)[v]? = some (.bool (b v)) := by simp [boolsL, h]
theorem boolsL_set (b : Nat → Bool) {n u : Nat} (h : u < n) : (boolsL b n).set u (.bool true) = boolsL (fun w => if w = u then true else b w) n := by
  apply List.ext_getElem
  · simp [boolsL]
  · intro i h1 h2
    simp only [boolsL, List.getElem_map, List.getElem_range, List.getElem_set]
    by_cases e : u = i
    · subst e; simp
    · rw [if_neg e, if_neg (fun x => e x.symm)]
theorem made_bools (n : Nat) : (madeCells (Value.bool false).cells n).toList = boolsL (fun _ => false) n := by
  apply List.ext_getElem
  · simp [madeCells, boolsL]
  · intro i h1 h2
    simp [madeCells, boolsL, Value.cells, Nat.mod_one]
/-- A slice of pairs, only read. -/
def VwP (w : World) (o : Nat → Nat) (i : Nat) (v : Value) (l : List (Nat × Nat)) : Prop :=
  ∃ ao cap, v = .slice ao l.length cap ∧ l.length ≤ cap ∧ cap ≤ maxLen ∧ (0 < l.length → ∃ g off, ao = some ⟨g, off, none⟩ ∧ o g = i ∧ g < w.heap.size ∧ ∀ j (hj : j < l.length), w.cell? ⟨g, off + j * 2, none⟩ = some (.int .i64 (l[j].1 : Nat)) ∧ w.cell? ⟨g, off + j * 2 + 1, none⟩ = some (.int .i64 (l[j].2 : Nat)))
theorem VwP.step {I : Nat → Prop} {w w' : World} {o o' : Nat → Nat} {i : Nat} {v : Value} {l : List (Nat × Nat)} (h : VwP w o i v l) (s : Step I w o w' o') (hi : ¬ I i) : VwP w' o' i v l := by
  obtain ⟨ao, cap, rfl, hc, hm, hp⟩ := h
  refine ⟨ao, cap, rfl, hc, hm, fun h0 => ?_⟩
  obtain ⟨g, off, h1, h2, h3, h4⟩ := hp h0
  refine ⟨g, off, h1, (s.lab g h3).trans h2, Nat.lt_of_lt_of_le h3 s.size, fun j hj => ?_⟩
  have hc := fun k => s.cell h3 (by rw [h2]; exact hi) k
  exact ⟨(hc _).trans (h4 j hj).1, (hc _).trans (h4 j hj).2⟩
/-- How many are not in. -/
def cnt (b : Nat → Bool) (n : Nat) : Nat := ((List.range n).filter (fun v => !b v)).length
theorem cnt_lt {b c : Nat → Bool} {n u : Nat} (hu : u < n) (h1 : b u = false) (h2 : c u = true) (h : ∀ v, b v = true → c v = true) : cnt c n < cnt b n := by
  unfold cnt
  have hsub : ((List.range n).filter (fun v => !c v)) = ((List.range n).filter (fun v => !b v)).filter (fun v => !c v) := by
    rw [List.filter_filter]
    congr 1
    funext v
    by_cases e : b v = true
    · simp [e, h v e]
    · simp at e; simp [e]
  rw [hsub, List.length_filter_lt_length_iff_exists]
  exact ⟨u, List.mem_filter.2 ⟨by simpa using hu, by simp [h1]⟩, by simp [h2]⟩
/-- Only what must be in is in. -/
def Must (l : List (Nat × Nat)) (a : Nat) (b : Nat → Bool) : Prop := b a = true ∧ ∀ B : Nat → Prop, B a → (∀ s ∈ l, (B s.1 ↔ B s.2)) → ∀ v, b v = true → B v
theorem Must.more {l : List (Nat × Nat)} {a : Nat} {b : Nat → Bool} (h : Must l a b) {s : Nat × Nat} (hs : s ∈ l) (hne : b s.1 ≠ b s.2) : Must l a (fun w => if w = s.2 then true else (if w = s.1 then true else b w)) := by
  refine ⟨by simp [h.1], fun B hB hsh v hv => ?_⟩
  have k := hsh s hs
  have one : B s.1 := by
    by_cases e : b s.1 = true
    · exact h.2 B hB hsh _ e
    · exact k.2 (h.2 B hB hsh _ (by simp at e; rw [e] at hne; simpa using hne.symm))
  simp only at hv
  by_cases e2 : v = s.2
  · rw [e2]; exact k.1 one
  · rw [if_neg e2] at hv
    by_cases e1 : v = s.1
    · rw [e1]; exact one
    · rw [if_neg e1] at hv; exact h.2 B hB hsh v hv
/-- What it leaves. -/
def JoinOut (w : World) (o : Nat → Nat) (lb n a : Nat) (l : List (Nat × Nat)) (e : Ending) (w' : World) : Prop :=
  ∃ g cap b o', e = .returned (.slice (some ⟨g, 0, none⟩) n cap) ∧ Row w' o' lb 4 1 (.slice (some ⟨g, 0, none⟩) n cap) n (boolsL b n) ∧ Least l a (fun v => b v = true) ∧ Step (fun k => k = lb) w o w' o'

/-- The state. -/
def JnS (w : World) (o : Nat → Nat) (lb g n a : Nat) (l : List (Nat × Nat)) (b : Nat → Bool) (wr : World) : Prop :=
  ∃ o', Row wr o' lb 4 1 (.slice (some ⟨g, 0, none⟩) n n) n (boolsL b n) ∧ Must l a b ∧ Step (fun k => k = lb) w o wr o'
theorem JnS.drewN {w : World} {o : Nat → Nat} {lb g n a : Nat} {l : List (Nat × Nat)} {b : Nat → Bool} {wr : World} (h : JnS w o lb g n a l b wr) (m : Nat) : JnS w o lb g n a l b (wr.drewN m) := by
  obtain ⟨o', r, hm, s⟩ := h
  exact ⟨o', r.step ((Step.refl (fun _ => False) _ _).drewN m) id, hm, s.drewN m⟩
/-- How many rounds there are left. -/
def left2 (b : Nat → Bool) (n : Nat) (m : Bool) : Nat := cnt b n + (if m then 1 else 0)

set_option maxRecDepth 100000 in
set_option maxHeartbeats 8000000 in
theorem joined_any (w : World) (o : Nat → Nat) (lb la n a : Nat) (vl : Value) (l : List (Nat × Nat)) (hv : VwP w o la vl l) (hne : la ≠ lb) (ha : a < n) (hn : n ≤ 64) (hl : l.length ≤ 1000) (hlt : ∀ s ∈ l, s.1 < n ∧ s.2 < n) :
    Calls Try.prog 13 #[.int .i64 n, vl, .int .i64 a] w fun e w' => JoinOut w o lb n a l e w' := by
  obtain ⟨ii, hii, hzi0, hzi1, hzi2⟩ := info_parts infoBool
  have HV : Hid (VwP w o la vl l) := hv
  obtain ⟨ao, cap, rfl, hc, hmx, hp⟩ := hv
  unfold maxLen at hmx
  clear hp
  go_enter Try.func13, Try.ntmps13
  go_wp2_with (at_make; refine wpList_make_full _ rfl _ _ 42 rfl w.heap.size 4 ii (.bool false) 1 Try.underlying42 hii hzi0 hzi1 .i64 .i64 _ _ n rfl rfl rfl rfl ?b2 ?b3 (Nat.le_refl _) ?_)
  case b2 => rw [hzi2]; omega
  case b3 => unfold maxLen; omega
  intro w1 hown hgr
  have r1 : Row w1 (newLab w o lb) lb 4 1 (.slice (some ⟨w.heap.size, 0, none⟩) n n) n (boolsL (fun _ => false) n) := by
    refine ⟨?_, fun k hk => ?_⟩
    · have := ownsRow_base0 hown
      rw [← made_bools]; exact this
    · simp [Value.ownBlock] at hk; subst hk; exact newLab_new (Nat.le_refl _)
  have s1 : Step (fun k => k = lb) w o w1 (newLab w o lb) := ⟨hgr.os, hgr.tape, hgr.output, hgr.size, fun k hk => newLab_old hk, fun k hk _ => hgr.block k hk (by simp)⟩
  obtain ⟨g1, c1, hv1, hg1, hg2, hg3, hg4, hg5, hg6⟩ := r1.pos (by omega)
  simp only [Value.slice.injEq, Option.some.injEq, Addr.mk.injEq, and_true, true_and] at hv1
  obtain ⟨rfl, rfl⟩ := hv1
  have ca := (hg5 a (by omega)).trans (boolsL_get _ ha)
  have START : JnS w o lb w.heap.size n a l (fun v => if v = a then true else false) (w1.setCell ⟨w.heap.size, a, none⟩ (.bool true)) := by
    refine ⟨newLab w o lb, ?_, ⟨by simp, fun B hB _ v hv => ?_⟩, s1.setCell ⟨w.heap.size, a, none⟩ _ hg1⟩
    · have := r1.store a (.bool true)
      rw [boolsL_set _ ha] at this
      exact this
    · by_cases e : v = a
      · rw [e]; exact hB
      · simp [e] at hv
  have haI : (a : Int) < (n : Int) := by omega
  obtain ⟨g, hg⟩ : ∃ g, g = w.heap.size := ⟨_, rfl⟩
  rw [← hg] at START ca ⊢
  have hfr := hg6 a
  rw [← hg] at hfr
  clear hown hgr r1 s1 hg5 hg6 hg hg4 hg1
  go_wp2
  go_loopg [8] (left2 (fun v => if v = a then true else false) n true) (fun gh vm wr => ∃ (b : Nat → Bool) (m : Bool), vm = .bool m ∧ gh = left2 b n m ∧ JnS w o lb g n a l b wr ∧ (m = false → ∀ s ∈ l, b s.1 = b s.2))
  case atStart => exact ⟨_, true, rfl, rfl, START, fun h => by cases h⟩
  case round =>
    clear START ca hfr
    obtain ⟨b, m, rfl, rfl, J, hend⟩ := hrel
    cases m with
    | false =>
      obtain ⟨o', r, hm, s⟩ := J
      have HL : Hid (Least l a (fun v => b v = true)) := ⟨hm.1, fun s hs => by rw [hend rfl s hs], hm.2⟩
      clear hend hm
      go_wp2
      go_ret
      exact ⟨g, n, b, o', rfl, r, HL.out, s⟩
    | true =>
      clear hend
      go_wp2
      go_loopg [8, 9] l.length (fun gh2 vm vi wx => ∃ (j : Nat) (m2 : Bool) (b2 : Nat → Bool), vm = .bool m2 ∧ vi = .int .i64 (j : Nat) ∧ j ≤ l.length ∧ gh2 = l.length - j ∧ JnS w o lb g n a l b2 wx ∧ ((m2 = false ∧ b2 = b ∧ ∀ s ∈ l.take j, b s.1 = b s.2) ∨ (m2 = true ∧ cnt b2 n < cnt b n)))
      case atStart => exact ⟨0, false, b, rfl, by go_num, by omega, by omega, J, .inl ⟨rfl, rfl, by simp⟩⟩
      case round =>
        clear J
        obtain ⟨j, m2, b2, rfl, rfl, hj, rfl, J2, hcase⟩ := hrel
        by_cases hjl : j < l.length
        · obtain ⟨o2, r2, hm2, s2⟩ := J2
          obtain ⟨ao', cap', hvv, q1, q2, hp⟩ := HV.out.step s2 hne
          simp only [Value.slice.injEq, true_and] at hvv
          obtain ⟨rfl, rfl⟩ := hvv
          obtain ⟨gl, off, rfl, q3, q4, q5⟩ := hp (by omega)
          clear hp
          obtain ⟨x1, x2⟩ := q5 j hjl
          have hsl := List.getElem_mem hjl
          obtain ⟨lt1, lt2⟩ := hlt _ hsl
          obtain ⟨g1, c1, hv1, hg1, hg2', hg3', hg4, hg5, hg6⟩ := r2.pos (by omega)
          simp only [Value.slice.injEq, Option.some.injEq, Addr.mk.injEq, and_true, true_and] at hv1
          obtain ⟨rfl, rfl⟩ := hv1
          have cu := (hg5 _ (by omega)).trans (boolsL_get b2 lt1)
          have cv := (hg5 _ (by omega)).trans (boolsL_get b2 lt2)
          have HS : Hid (∃ (hh : j < l.length), True) := ⟨hjl, trivial⟩
          have et : l.take (j + 1) = l.take j ++ [l[j]] := List.take_succ_eq_append_getElem hjl
          obtain ⟨u, hu⟩ : ∃ u, u = l[j].1 := ⟨_, rfl⟩
          obtain ⟨v, hv⟩ : ∃ v, v = l[j].2 := ⟨_, rfl⟩
          rw [← hu] at x1 cu lt1
          rw [← hv] at x2 cv lt2
          have hjI : (j : Int) < (l.length : Int) := by omega
          have huI : (u : Int) < (n : Int) := by omega
          have hvI : (v : Int) < (n : Int) := by omega
          by_cases e : b2 u = b2 v
          · have HC : Hid ((m2 = false ∧ b2 = b ∧ ∀ s ∈ l.take (j + 1), b s.1 = b s.2) ∨ (m2 = true ∧ cnt b2 n < cnt b n)) := by
              rcases hcase with ⟨a1, a2, a3⟩ | a1
              · refine .inl ⟨a1, a2, fun s hs => ?_⟩
                rw [et] at hs
                rcases List.mem_append.1 hs with hs | hs
                · exact a3 s hs
                · simp at hs; rw [hs, ← hu, ← hv, ← a2]; exact e
              · exact .inr a1
            have R : JnS w o lb g n a l b2 wr := ⟨o2, r2, hm2, s2⟩
            rw [← e] at cv
            obtain ⟨bb, hbb⟩ : ∃ bb, bb = b2 u := ⟨_, rfl⟩
            rw [← hbb] at cu cv
            clear hcase e et hu hv hbb hm2 s2 r2 hg5 hg6 q5
            go_wp2
            go_quiet (fail)
            go_wp2
            go_roundg (l.length - (j + 1))
            case measure => omega
            case rel => (try ((repeat apply Exists.intro); refine ⟨?_, rfl⟩)); exact ⟨j + 1, m2, b2, rfl, by go_num, by omega, rfl, R.drewN _, HC.out⟩
          · have huv : u ≠ v := fun x => e (by rw [x])
            have hcnt : cnt (fun w => if w = v then true else (if w = u then true else b2 w)) n < cnt b2 n := by
              by_cases q : b2 u = true
              · exact cnt_lt lt2 (by rw [q] at e; cases h : b2 v with | true => exact absurd h.symm e | false => rfl) (by simp) (fun x hx => by simp [hx])
              · exact cnt_lt lt1 (by simpa using q) (by simp) (fun x hx => by simp [hx])
            have HC : Hid (cnt (fun w => if w = v then true else (if w = u then true else b2 w)) n < cnt b n) := by
              show _ < _
              rcases hcase with ⟨_, a2, _⟩ | ⟨_, a2⟩
              · rw [← a2]; exact hcnt
              · omega
            have hmm := hm2.more hsl (by rw [← hu, ← hv]; exact e)
            rw [← hu, ← hv] at hmm
            have HR : Hid (∀ nq, JnS w o lb g n a l (fun w => if w = v then true else (if w = u then true else b2 w)) (((wr.drewN nq).setCell ⟨g, u, none⟩ (.bool true)).setCell ⟨g, v, none⟩ (.bool true))) := fun nq => by
              refine ⟨o2, ?_, hmm, ((s2.drewN nq).setCell ⟨g, u, none⟩ _ hg1).setCell ⟨g, v, none⟩ _ hg1⟩
              have := ((r2.step ((Step.refl (fun _ => False) _ _).drewN nq) id).store u (.bool true)).store v (.bool true)
              rw [boolsL_set _ lt1, boolsL_set _ lt2] at this
              exact this
            have fu := hg6 u
            have fv := hg6 v
            have hne3 : gl ≠ g := fun x => by rw [x, hg1] at q3; exact hne q3.symm
            have hne4 := hne3.symm
            cases hb1 : b2 u <;> cases hb2 : b2 v <;> (try exact absurd (hb1.trans hb2.symm) e)
            all_goals
              rw [hb1] at cu
              rw [hb2] at cv
              clear hcase e et hu hv hm2 s2 r2 hg5 hg6 q5 hcnt hmm
              go_wp2
              go_quiet (fail)
              go_wp2
              go_roundg (l.length - (j + 1))
              case measure => omega
              case rel => (try ((repeat apply Exists.intro); refine ⟨?_, rfl⟩)); exact ⟨j + 1, true, _, rfl, by go_num, by omega, rfl, HR.out _, .inr ⟨rfl, HC.out⟩⟩
        · obtain rfl : j = l.length := by omega
          rcases hcase with ⟨rfl, rfl, hall⟩ | ⟨rfl, hlt2⟩
          · have HA : Hid (∀ s ∈ l, b2 s.1 = b2 s.2) := by rw [List.take_length] at hall; exact hall
            clear hall
            go_wp2
            go_roundg (left2 b2 n false)
            case measure => simp [left2]
            case rel => exact ⟨b2, false, rfl, rfl, J2, fun _ => HA.out⟩
          · go_wp2
            go_roundg (left2 b2 n true)
            case measure => simp [left2]; omega
            case rel => exact ⟨b2, true, rfl, rfl, J2, fun h => by cases h⟩

end Go.Proofs.Ytnpfagpgploolaa
namespace Go.Proofs.Ytnpfagpgploolaa
open Go.ChangeShapes Go.WideShapes Go.ChangeAt Go.RowKit Go.Maps
set_option linter.unusedVariables false

/-- Where an edge stands, whichever way it is told. -/
def PlaceOut (w : World) (l : List (Nat × Nat)) (u v : Nat) (e : Ending) (w' : World) : Prop :=
  ∃ r : Int, e = .returned (.int .i64 r) ∧ (∃ m, w' = w.drewN m) ∧ ((r = -1 ∧ ∀ s ∈ l, s ≠ (u, v) ∧ s ≠ (v, u)) ∨ ∃ k, ∃ (hk : k < l.length), r = (k : Int) ∧ (l[k] = (u, v) ∨ l[k] = (v, u)))

set_option maxRecDepth 100000 in
set_option maxHeartbeats 8000000 in
theorem place_l (w : World) (o : Nat → Nat) (la u v : Nat) (vl : Value) (l : List (Nat × Nat)) (hv : VwP w o la vl l) (hl : l.length ≤ 1000) :
    Calls Try.prog 15 #[vl, .int .i64 u, .int .i64 v] w fun e w' => PlaceOut w l u v e w' := by
  obtain ⟨ao, cap, rfl, hc, hmx, hp⟩ := hv
  unfold maxLen at hmx
  have HP : Hid (0 < l.length → ∃ g off, ao = some ⟨g, off, none⟩ ∧ o g = la ∧ g < w.heap.size ∧ ∀ j (hj : j < l.length), w.cell? ⟨g, off + j * 2, none⟩ = some (.int .i64 (l[j].1 : Nat)) ∧ w.cell? ⟨g, off + j * 2 + 1, none⟩ = some (.int .i64 (l[j].2 : Nat))) := hp
  clear hp
  go_enter Try.func15, Try.ntmps15
  go_wp2
  go_loopg [7] l.length (fun gh i wr => ∃ j : Nat, i = .int .i64 (j : Nat) ∧ j ≤ l.length ∧ gh = l.length - j ∧ wr = w ∧ ∀ s ∈ l.take j, s ≠ (u, v) ∧ s ≠ (v, u))
  case atStart => exact ⟨0, by go_num, by omega, by omega, rfl, by simp⟩
  case round =>
    obtain ⟨j, rfl, hj, rfl, rfl, hall⟩ := hrel
    have HA : Hid (∀ s ∈ l.take j, s ≠ (u, v) ∧ s ≠ (v, u)) := hall
    clear hall
    by_cases hjl : j < l.length
    · obtain ⟨g, off, rfl, q3, q4, q5⟩ := HP.out (by omega)
      obtain ⟨c1, c2⟩ := q5 j hjl
      have HT : Hid (∀ x y, l[j] = (x, y) → (x, y) ≠ (u, v) → (x, y) ≠ (v, u) → ∀ s ∈ l.take (j + 1), s ≠ (u, v) ∧ s ≠ (v, u)) := fun x y he h1 h2 s hs => by
        rw [List.take_succ_eq_append_getElem hjl] at hs
        rcases List.mem_append.1 hs with hs | hs
        · exact HA.out s hs
        · simp at hs; rw [hs, he]; exact ⟨h1, h2⟩
      obtain ⟨x, hx⟩ : ∃ x, x = l[j].1 := ⟨_, rfl⟩
      obtain ⟨y, hy⟩ : ∃ y, y = l[j].2 := ⟨_, rfl⟩
      have HXY : Hid (l[j] = (x, y)) := by
        show _ = _
        rw [hx, hy]
      rw [← hx] at c1
      rw [← hy] at c2
      have hjI : (j : Int) < (l.length : Int) := by omega
      clear hx hy q5
      cases b1 : ((x : Int) == (u : Int)) <;> cases b2 : ((y : Int) == (v : Int)) <;> cases b3 : ((x : Int) == (v : Int)) <;> cases b4 : ((y : Int) == (u : Int))
      all_goals
        go_wp2
        first
          | (go_ret
             refine ⟨(j : Int), rfl, ⟨0, rfl⟩, .inr ⟨j, hjl, rfl, ?_⟩⟩
             rw [HXY.out]
             simp only [beq_iff_eq] at b1 b2 b3 b4
             first
               | exact .inl (by rw [show x = u by omega, show y = v by omega])
               | exact .inr (by rw [show x = v by omega, show y = u by omega]))
          | (go_roundg (l.length - (j + 1))
             case measure => omega
             case rel =>
               refine ⟨j + 1, by go_num, by omega, rfl, rfl, HT.out x y HXY.out (fun e => ?_) (fun e => ?_)⟩
               all_goals
                 simp only [Prod.mk.injEq] at e
                 simp only [beq_iff_eq, beq_eq_false_iff_ne, ne_eq] at b1 b2 b3 b4
                 omega)
    · obtain rfl : j = l.length := by omega
      go_wp2
      go_ret
      refine ⟨-1, rfl, ⟨0, rfl⟩, .inl ⟨rfl, ?_⟩⟩
      have := HA.out
      rw [List.take_length] at this
      exact this

end Go.Proofs.Ytnpfagpgploolaa

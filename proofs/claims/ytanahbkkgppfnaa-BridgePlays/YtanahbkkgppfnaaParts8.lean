/- Components by a list of edges: the walk. -/
import Derived.Test.YtanahbkkgppfnaaElv8
import Derived.Deep.LoopGhost
namespace Go.Proofs.Ytanahbkkgppfnaa
open Go.ChangeShapes Go.WideShapes Go.ChangeAt Go.RowKit
set_option linter.unusedVariables false

theorem made_nats (n : Nat) : (madeCells (Value.int .i64 0).cells n).toList = natsF (fun _ => 0) n := by
  apply List.ext_getElem?
  intro i
  by_cases hi : i < n
  · simp [madeCells, natsF, Value.cells, hi, Nat.mod_one]
  · simp [madeCells, natsF, Value.cells, Nat.mod_one]
/-- Each number is of the component that it stands for. -/
def Stn (l : List (Nat × Nat)) (n : Nat) (b : Nat → Nat) : Prop := ∀ v, v < n → b v ≤ v ∧ Cj l v (b v)
/-- Between two rounds. -/
def PtS (w : World) (o : Nat → Nat) (lb g n : Nat) (l : List (Nat × Nat)) (b : Nat → Nat) (wr : World) : Prop :=
  ∃ o', Row wr o' lb 3 1 (.slice (some ⟨g, 0, none⟩) n n) n (natsF b n) ∧ Stn l n b ∧ Step (fun k => k = lb) w o wr o'
def left3 (b : Nat → Nat) (n : Nat) (m : Bool) : Nat := sumN b n + (if m then 1 else 0)
theorem Stn.less {l : List (Nat × Nat)} {n : Nat} {b : Nat → Nat} (h : Stn l n b) {s : Nat × Nat} (hs : s ∈ l) (h1 : s.1 < n) (h2 : s.2 < n) (hne : b s.1 ≠ b s.2) {x : Nat} (hx : x = min (b s.1) (b s.2)) :
    Stn l n (fun w => if w = s.2 then x else (if w = s.1 then x else b w)) ∧ sumN (fun w => if w = s.2 then x else (if w = s.1 then x else b w)) n < sumN b n := by
  have c1 : Cj l s.1 x := by
    rcases Nat.le_total (b s.1) (b s.2) with q | q
    · rw [hx, Nat.min_eq_left q]; exact (h _ h1).2
    · rw [hx, Nat.min_eq_right q]; exact (Cj.edge hs).trans (h _ h2).2
  have c2 : Cj l s.2 x := (Cj.edge' hs).trans c1
  have b1 := (h _ h1).1
  have b2 := (h _ h2).1
  refine ⟨fun v hv => ?_, sumN_lt n (fun v hv => ?_) ?_⟩
  · by_cases e2 : v = s.2
    · subst e2; simp only [if_true]; exact ⟨by omega, c2⟩
    · by_cases e1 : v = s.1
      · subst e1; simp only [if_neg e2, if_true]; exact ⟨by omega, c1⟩
      · simp only [if_neg e2, if_neg e1]; exact h v hv
  · by_cases e2 : v = s.2
    · subst e2; simp only [if_true]; omega
    · by_cases e1 : v = s.1
      · subst e1; simp only [if_neg e2, if_true]; omega
      · simp only [if_neg e2, if_neg e1]; omega
  · by_cases q : b s.1 < b s.2
    · exact ⟨s.2, h2, by simp only [if_true]; omega⟩
    · by_cases e : s.1 = s.2
      · exact absurd (by rw [e]) hne
      · exact ⟨s.1, h1, by simp only [if_neg e, if_true]; omega⟩
/-- What it leaves. -/
def PtOut (w : World) (o : Nat → Nat) (lb n : Nat) (l : List (Nat × Nat)) (e : Ending) (w' : World) : Prop :=
  ∃ g b o', e = .returned (.slice (some ⟨g, 0, none⟩) n n) ∧ Row w' o' lb 3 1 (.slice (some ⟨g, 0, none⟩) n n) n (natsF b n) ∧ ((∀ x y, x < n → y < n → (b x = b y ↔ Cj l x y)) ∧ Stn l n b) ∧ Step (fun k => k = lb) w o w' o'

set_option maxRecDepth 100000 in
set_option maxHeartbeats 8000000 in
theorem parts_in (w : World) (o : Nat → Nat) (lb la n : Nat) (vl : Value) (l : List (Nat × Nat)) (hv : VwP w o la vl l) (hne : la ≠ lb) (hn1 : 1 ≤ n) (hn : n ≤ 64) (hl : l.length ≤ 1000) (hlt : ∀ s ∈ l, s.1 < n ∧ s.2 < n) :
    Calls Try.prog 15 #[.int .i64 n, vl] w fun e w' => PtOut w o lb n l e w' := by
  obtain ⟨ii, hii, hzi0, hzi1, hzi2⟩ := info_parts infoInt
  have HV : Hid (VwP w o la vl l) := hv
  obtain ⟨ao, cap, rfl, hc, hmx, hp⟩ := hv
  unfold maxLen at hmx
  clear hp
  go_enter Try.func15, Try.ntmps15
  go_wp2_with (at_make; refine wpList_make_full _ rfl _ _ 38 rfl w.heap.size 3 ii (.int .i64 0) 1 Try.underlying38 hii hzi0 hzi1 .i64 .i64 _ _ n rfl rfl rfl rfl ?b2 ?b3 (Nat.le_refl _) ?_)
  case b2 => rw [hzi2]; omega
  case b3 => unfold maxLen; omega
  intro w1 hown hgr
  have r1 : Row w1 (newLab w o lb) lb 3 1 (.slice (some ⟨w.heap.size, 0, none⟩) n n) n (natsF (fun _ => 0) n) := by
    refine ⟨?_, fun k hk => ?_⟩
    · have := ownsRow_base0 hown
      rw [← made_nats]; exact this
    · simp [Value.ownBlock] at hk; subst hk; exact newLab_new (Nat.le_refl _)
  have s1 : Step (fun k => k = lb) w o w1 (newLab w o lb) := ⟨hgr.os, hgr.tape, hgr.output, hgr.size, fun k hk => newLab_old hk, fun k hk _ => hgr.block k hk (by simp)⟩
  obtain ⟨g, hg⟩ : ∃ g, g = w.heap.size := ⟨_, rfl⟩
  rw [← hg] at r1 ⊢
  generalize newLab w o lb = o1 at r1 s1
  clear hown hgr hg
  go_wp2
  go_loopg [6] n (fun gh vi wr => ∃ (k : Nat), vi = .int .i64 (k : Nat) ∧ k ≤ n ∧ gh = n - k ∧ ∃ o', Row wr o' lb 3 1 (.slice (some ⟨g, 0, none⟩) n n) n (natsF (fun v => if v < k then v else 0) n) ∧ Step (fun k => k = lb) w o wr o')
  case atStart => exact ⟨0, by go_num, by omega, by omega, o1, by simpa using r1, s1⟩
  case round =>
    clear r1 s1
    obtain ⟨k, rfl, hk, rfl, o2, r2, s2⟩ := hrel
    by_cases hkn : k < n
    · obtain ⟨g1, c1, hv1, hg1, hg2, hg3, hg4, hg5, hg6⟩ := r2.pos (by omega)
      simp only [Value.slice.injEq, Option.some.injEq, Addr.mk.injEq, and_true, true_and] at hv1
      obtain ⟨rfl, rfl⟩ := hv1
      have ck := (hg5 k (by omega)).trans (natsF_get _ hkn)
      have fk := hg6 k
      have hkI : (k : Int) < (n : Int) := by omega
      have RR : ∃ o', Row (wr.setCell ⟨g, k, none⟩ (.int .i64 (k : Nat))) o' lb 3 1 (.slice (some ⟨g, 0, none⟩) n n) n (natsF (fun v => if v < k + 1 then v else 0) n) ∧ Step (fun k => k = lb) w o (wr.setCell ⟨g, k, none⟩ (.int .i64 (k : Nat))) o' := by
        refine ⟨o2, ?_, s2.setCell ⟨g, k, none⟩ _ hg1⟩
        have := r2.store k (.int .i64 (k : Nat))
        rw [natsF_set _ hkn] at this
        have e : (fun w => if w = k then k else if w < k then w else 0) = fun v => if v < k + 1 then v else 0 := by
          funext v
          by_cases q : v = k
          · subst q; simp
          · by_cases q2 : v < k
            · rw [if_neg q, if_pos q2, if_pos (by omega)]
            · rw [if_neg q, if_neg q2, if_neg (by omega)]
        rw [e] at this
        exact this
      clear r2 s2 hg5 hg6
      go_wp2
      go_roundg (n - (k + 1))
      case measure => omega
      case rel => exact ⟨k + 1, by go_num, by omega, rfl, RR⟩
    · obtain rfl : k = n := by omega
      have START : PtS w o lb g k l (fun v => if v < k then v else 0) wr := ⟨o2, r2, fun v hv => by simp only [if_pos hv]; exact ⟨Nat.le_refl _, Cj.refl⟩, s2⟩
      clear r2 s2 hkn hk
      go_wp2
      go_loopg [7] (left3 (fun v => if v < k then v else 0) k true) (fun gh vm wr => ∃ (b : Nat → Nat) (m : Bool), vm = .bool m ∧ gh = left3 b k m ∧ PtS w o lb g k l b wr ∧ (m = false → ∀ s ∈ l, b s.1 = b s.2))
      case atStart => exact ⟨_, true, rfl, rfl, START, fun h => by cases h⟩
      case round =>
        clear START
        obtain ⟨b, m, rfl, rfl, J, hend⟩ := hrel
        cases m with
        | false =>
          obtain ⟨o', r, hm, s⟩ := J
          have HL : Hid ((∀ x y, x < k → y < k → (b x = b y ↔ Cj l x y)) ∧ Stn l k b) := (fun q => ⟨q, hm⟩) fun x y hx hy => by
            constructor
            · intro e
              exact (hm x hx).2.trans (e ▸ (hm y hy).2.symm)
            · intro c
              exact c (fun z => b x = b z) rfl (fun s hs => by rw [hend rfl s hs])
          clear hend hm
          go_wp2
          go_ret
          exact ⟨g, b, o', rfl, r, HL.out, s⟩
        | true =>
          clear hend
          go_wp2
          go_loopg [7, 8] l.length (fun gh2 vm vi wx => ∃ (j : Nat) (m2 : Bool) (b2 : Nat → Nat), vm = .bool m2 ∧ vi = .int .i64 (j : Nat) ∧ j ≤ l.length ∧ gh2 = l.length - j ∧ PtS w o lb g k l b2 wx ∧ ((m2 = false ∧ b2 = b ∧ ∀ s ∈ l.take j, b s.1 = b s.2) ∨ (m2 = true ∧ sumN b2 k < sumN b k)))
          case atStart => exact ⟨0, false, b, rfl, by go_num, by omega, by omega, J, .inl ⟨rfl, rfl, by simp⟩⟩
          case round =>
            clear J
            obtain ⟨j, m2, b2, rfl, rfl, hj, rfl, J2, hcase⟩ := hrel
            by_cases hjl : j < l.length
            · obtain ⟨o2, r2, hm2, s2⟩ := J2
              obtain ⟨ao', cap', hvv, q1, q2, hp⟩ := HV.out.step s2 hne
              simp only [Value.slice.injEq, true_and] at hvv
              obtain ⟨rfl, rfl⟩ := hvv
              obtain ⟨gl, off, rfl, q3, q4, q5⟩ := hp (by omega)
              clear hp
              obtain ⟨x1, x2⟩ := q5 j hjl
              have hsl := List.getElem_mem hjl
              obtain ⟨lt1, lt2⟩ := hlt _ hsl
              obtain ⟨g1, c1, hv1, hg1, hg2', hg3', hg4, hg5, hg6⟩ := r2.pos (by omega)
              simp only [Value.slice.injEq, Option.some.injEq, Addr.mk.injEq, and_true, true_and] at hv1
              obtain ⟨rfl, rfl⟩ := hv1
              have cu := (hg5 _ (by omega)).trans (natsF_get b2 lt1)
              have cv := (hg5 _ (by omega)).trans (natsF_get b2 lt2)
              have et : l.take (j + 1) = l.take j ++ [l[j]] := List.take_succ_eq_append_getElem hjl
              obtain ⟨u, hu⟩ : ∃ u, u = l[j].1 := ⟨_, rfl⟩
              obtain ⟨v, hv⟩ : ∃ v, v = l[j].2 := ⟨_, rfl⟩
              have hjI : (j : Int) < (l.length : Int) := by omega
              by_cases e : b2 l[j].1 = b2 l[j].2
              · have HC : Hid ((m2 = false ∧ b2 = b ∧ ∀ s ∈ l.take (j + 1), b s.1 = b s.2) ∨ (m2 = true ∧ sumN b2 k < sumN b k)) := by
                  rcases hcase with ⟨a1, a2, a3⟩ | a1
                  · refine .inl ⟨a1, a2, fun s hs => ?_⟩
                    rw [et] at hs
                    rcases List.mem_append.1 hs with hs | hs
                    · exact a3 s hs
                    · simp at hs; rw [hs, ← a2]; exact e
                  · exact .inr a1
                have R : PtS w o lb g k l b2 wr := ⟨o2, r2, hm2, s2⟩
                rw [← e] at cv
                rw [← hu] at x1 cu lt1 cv
                rw [← hv] at x2 lt2 cv
                obtain ⟨bb, hbb⟩ : ∃ bb, bb = b2 u := ⟨_, rfl⟩
                rw [← hbb] at cu cv
                have huI : (u : Int) < (k : Int) := by omega
                have hvI : (v : Int) < (k : Int) := by omega
                clear hcase e et hu hv hbb hm2 s2 r2 hg5 hg6 q5
                go_wp2
                go_roundg (l.length - (j + 1))
                case measure => omega
                case rel => exact ⟨j + 1, m2, b2, rfl, by go_num, by omega, rfl, R, HC.out⟩
              · obtain ⟨x, hx⟩ : ∃ x, x = min (b2 l[j].1) (b2 l[j].2) := ⟨_, rfl⟩
                obtain ⟨hst, hsum⟩ := hm2.less hsl lt1 lt2 e hx
                have HC : Hid (sumN (fun w => if w = l[j].2 then x else (if w = l[j].1 then x else b2 w)) k < sumN b k) := by
                  show _ < _
                  rcases hcase with ⟨_, a2, _⟩ | ⟨_, a2⟩
                  · rw [← a2]; exact hsum
                  · omega
                have R : PtS w o lb g k l (fun w => if w = l[j].2 then x else (if w = l[j].1 then x else b2 w)) ((wr.setCell ⟨g, l[j].1, none⟩ (.int .i64 (x : Nat))).setCell ⟨g, l[j].2, none⟩ (.int .i64 (x : Nat))) := by
                  refine ⟨o2, ?_, hst, (s2.setCell ⟨g, l[j].1, none⟩ _ hg1).setCell ⟨g, l[j].2, none⟩ _ hg1⟩
                  have := (r2.store l[j].1 (.int .i64 (x : Nat))).store l[j].2 (.int .i64 (x : Nat))
                  rw [natsF_set _ lt1, natsF_set _ lt2] at this
                  exact this
                have fu := hg6 l[j].1
                have fv := hg6 l[j].2
                have hne3 : gl ≠ g := fun x => by rw [x, hg1] at q3; exact hne q3.symm
                have hne4 := hne3.symm
                have hxI : (x : Int) = min (b2 l[j].1 : Int) (b2 l[j].2 : Int) := by rw [hx]; omega
                have hbne : ((b2 l[j].1 : Int) == (b2 l[j].2 : Int)) = false := by simp only [beq_eq_false_iff_ne, ne_eq]; omega
                rw [← hu] at x1 cu lt1 R fu hxI hbne
                rw [← hv] at x2 cv lt2 R fv hxI hbne
                rw [← hu, ← hv] at HC
                obtain ⟨bu, hbu⟩ : ∃ bu, bu = b2 u := ⟨_, rfl⟩
                obtain ⟨bv, hbv⟩ : ∃ bv, bv = b2 v := ⟨_, rfl⟩
                rw [← hbu] at cu hxI hbne
                rw [← hbv] at cv hxI hbne
                have huI : (u : Int) < (k : Int) := by omega
                have hvI : (v : Int) < (k : Int) := by omega
                have huv : u ≠ v := fun z => e (by rw [← hu, ← hv, z])
                have hvu := Ne.symm huv
                have hbb : bu ≠ bv := by rw [hbu, hbv, hu, hv]; exact e
                have hxx : x = min bu bv := by omega
                clear hcase e et hu hv hm2 s2 r2 hg5 hg6 q5 hst hsum hx hbu hbv hxI hbne
                rcases Nat.lt_or_gt_of_ne hbb with qq | qq
                · obtain rfl : x = bu := by omega
                  have d1 : (x : Int) < (bv : Int) := by omega
                  have d2 : ((x : Int) == (bv : Int)) = false := by simp only [beq_eq_false_iff_ne, ne_eq]; omega
                  clear hxx hbb qq
                  go_wp2
                  have hmin : min (x : Int) (bv : Int) = (x : Int) := by omega
                  try rw [hmin]
                  go_roundg (l.length - (j + 1))
                  case measure => omega
                  case rel => exact ⟨j + 1, true, _, rfl, by go_num, by omega, rfl, R, .inr ⟨rfl, HC.out⟩⟩
                · obtain rfl : x = bv := by omega
                  have d1 : (x : Int) < (bu : Int) := by omega
                  have d2 : ((bu : Int) == (x : Int)) = false := by simp only [beq_eq_false_iff_ne, ne_eq]; omega
                  clear hxx hbb qq
                  go_wp2
                  have hmin : min (bu : Int) (x : Int) = (x : Int) := by omega
                  try rw [hmin]
                  go_roundg (l.length - (j + 1))
                  case measure => omega
                  case rel => exact ⟨j + 1, true, _, rfl, by go_num, by omega, rfl, R, .inr ⟨rfl, HC.out⟩⟩
            · obtain rfl : j = l.length := by omega
              rcases hcase with ⟨rfl, rfl, hall⟩ | ⟨rfl, hlt2⟩
              · have HA : Hid (∀ s ∈ l, b2 s.1 = b2 s.2) := by rw [List.take_length] at hall; exact hall
                clear hall
                go_wp2
                go_roundg (left3 b2 k false)
                case measure => simp [left3]
                case rel => exact ⟨b2, false, rfl, rfl, J2, fun _ => HA.out⟩
              · go_wp2
                go_roundg (left3 b2 k true)
                case measure => simp [left3]; omega
                case rel => exact ⟨b2, true, rfl, rfl, J2, fun h => by cases h⟩

end Go.Proofs.Ytanahbkkgppfnaa

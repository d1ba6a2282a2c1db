/- The law BridgeOrder: the walk. -/
import Derived.Test.YtkhjodihlkfkdaaOrderM
import Derived.Test.YtkhjodihlkfkdaaApp0
import Derived.Deep.RegionHeld3
namespace Go.Proofs.Ytkhjodihlkfkdaa
open Go.ChangeShapes Go.WideShapes Go.ChangeAt Go.RowKit
set_option linter.unusedVariables false

theorem new_four_at {w : World} {s : Nat} (hs : w.heap.size = s) (x y z t : Value) (ty : TypeId) : ∀ j u, [x, y, z, t][j]? = some u → (w.alloc (.cells #[x, y, z, t] ty)).cell? ((⟨s, 0, none⟩ : Addr).add j) = some u := by
  subst hs
  intro j u hj
  match j, hj with
  | 0, hj => simp at hj; subst hj; simp [Addr.add]
  | 1, hj => simp at hj; subst hj; simp [Addr.add]
  | 2, hj => simp at hj; subst hj; simp [Addr.add]
  | 3, hj => simp at hj; subst hj; simp [Addr.add]
/-- What stands in memory from round to round. -/
def OrS (w : World) (es : List EdT) (vl : Value) (k : Nat) (vo : Value) (wr : World) : Prop :=
  ∃ fs o', fs.length = k ∧ fs.Perm (twL es k) ∧ Row wr o' 2000 42 4 vl es.length (eev es) ∧ Row wr o' (3999 + k) 42 4 vo k (eev fs) ∧ Step Pos w o0 wr o'

theorem OrS.next {w w' : World} {es fs : List EdT} {vl v : Value} {k a : Nat} {x : EdT} {o' : Nat → Nat} (RL : Row w' o' 2000 42 4 vl es.length (eev es)) (R : Row w' o' (4000 + k) 42 4 v (k + 1) (eev (fs.take a ++ x :: fs.drop a))) (hp : (fs.take a ++ x :: fs.drop a).Perm (twL es (k + 1))) (hl : fs.length = k) (ha : a ≤ k) (S : Step Pos w o0 w' o') : OrS w es vl (k + 1) v w' := by
  refine ⟨_, o', ?_, hp, RL, ?_, S⟩
  · rw [List.length_append, List.length_cons, List.length_take, List.length_drop]; omega
  · rw [show 3999 + (k + 1) = 4000 + k by omega]; exact R
set_option maxRecDepth 100000 in
set_option maxHeartbeats 8000000 in
theorem order_walk (w : World) (c0 : Int) (a1 a2 : Option Addr) (len1 cap1 len2 cap2 : Nat) (f1 : Nat → Int × Int) (f2 : Nat → Int) (ha1 : ArgP w o0 a1 len1 f1) (ha2 : ArgI w o0 a2 len2 f2) (hlen : len1 ≤ 1048576) (hlen2 : len2 ≤ 1048576) (hc0 : i64 c0) :
    Calls Try.prog 7 #[.int .i64 c0, .slice a1 len1 cap1, .slice a2 len2 cap2] w fun e w' => e = .returned (.bool true) ∧ Below w.heap.size w w' := by
  have hw1 := awake_w w o0 1000 (by omega)
  have hp0 := fun wx => pick_any c0 64 wx hc0.1 hc0.2 (by omega) (by omega)
  have HA2 : Hid (ArgI w o0 a2 len2 f2) := ha2
  have n0 : ¬ Pos 0 := fun h => by simp [Pos] at h
  clear ha2
  go_enter Try.func7, Try.ntmps7
  go_wp2_with fail
  refine hw1.mono ?_
  rintro e w1 ⟨rfl, o1, s1⟩
  have S1 : Step Pos w o0 w1 o1 := s1.mono fun k hk => (show 0 < k by omega)
  clear hw1 s1
  go_wp2_with fail
  refine (hp0 _).mono ?_
  rintro e w2 ⟨r, hr, rfl, rfl⟩
  clear hp0
  obtain ⟨n, hn⟩ : ∃ n, n = r + 1 := ⟨_, rfl⟩
  have hnI : (1 : Int) + (r : Int) = (n : Int) := by omega
  have hn1 : 1 ≤ n := by omega
  have hn64 : n ≤ 64 := by omega
  clear hn
  have hgr := graph_w w2 o1 2000 n len1 cap1 150 a1 f1 (ha1.step S1 n0) (by omega) (by omega) (by omega) hlen (by omega) (by omega)
  go_wp2_with fail
  refine hgr.mono ?_
  rintro e w3 ⟨vl, es, o3, rfl, R3, hes, G, s3⟩
  have S3 : Step Pos w o0 w3 o3 := S1.trans (s3.mono fun k hk => (show 0 < k by omega))
  obtain ⟨al, cl, rfl⟩ := R3.form
  have START : OrS w es (.slice al es.length cl) 0 (.slice none 0 0) w3 := ⟨[], o3, rfl, List.Perm.refl _, R3, Row.nil _ _ _ _ _, S3⟩
  clear hgr s3 S1 hnI hr R3 S3
  go_wp2_with fail
  go_loopg [9, 10] es.length (fun gh vo vi wr => ∃ k, k ≤ es.length ∧ gh = es.length - k ∧ vi = .int .i64 (k : Nat) ∧ OrS w es (.slice al es.length cl) k vo wr)
  case atStart => exact ⟨0, by omega, by omega, by go_num, START⟩
  case round =>
    clear START
    obtain ⟨k, hk, rfl, rfl, fs, o4, hfl, hfp, RL, RO, S4⟩ := hrel
    obtain ⟨ao, co, rfl⟩ := RO.form
    by_cases hkn : k < es.length
    · have hkI : (k : Int) < (es.length : Int) := by omega
      have hkco : k ≤ co := by
        rcases RO.1.2 with ⟨hh, hk0⟩ | ⟨gx, cx, _, hh, _, _, hle, _⟩
        · omega
        · simp only [Value.slice.injEq] at hh
          obtain ⟨_, _, rfl⟩ := hh
          exact hle
      go_upto_if 41 with fail
      go_cut [11] (fun va wx => ∃ a : Nat, a ≤ k ∧ va = .int .i64 (a : Nat) ∧ wx = wr)
      case first =>
        by_cases hko : k < len2
        · have hkoI : (k : Int) < (len2 : Int) := by omega
          obtain ⟨b, off, rfl, hb1, hb2, x0, ⟨y1, y2⟩⟩ := HA2.out.step S4 n0 k hko
          have hp := fun wx => pick_any (f2 k) (k + 1) wx y1 y2 (by omega) (by omega)
          have hkk : ((k + 1 : Nat) : Int) = (k : Int) + 1 := by omega
          rw [hkk] at hp
          generalize f2 k = z at x0 hp
          clear y1 y2 hkk RL RO S4 hfp
          go_wp2_with fail
          refine (hp _).mono ?_
          rintro e w5 ⟨a, ha, rfl, rfl⟩
          clear hp
          go_wp2
          go_meet
          exact ⟨a, by omega, rfl, rfl⟩
        · have hkoI : ¬ ((k : Int) < (len2 : Int)) := by omega
          clear RL RO S4 hfp
          go_wp2
          go_meet
          exact ⟨k, by omega, rfl, rfl⟩
      case rest =>
      obtain ⟨a, hak, rfl, rfl⟩ := hcut
      obtain ⟨ie, hie, hze0, hze1, hze2⟩ := info_parts infoEdge
      have haI : (a : Int) ≤ (k : Int) := by omega
      have hac : a ≤ co := by omega
      have hLt : (fs.take a).length = a := by rw [List.length_take]; omega
      have hLd : (fs.drop a).length = k - a := by rw [List.length_drop, hfl]
      have RO' : Row wc o4 (3999 + k) 42 4 (.slice ao fs.length co) fs.length (eev fs) := by rw [hfl]; exact RO
      have n1 : ∀ go, ao = some ⟨go, 0, none⟩ → ∀ j u, (eev (fs.take a))[j]? = some u → wc.cell? ((⟨go, 0, none⟩ : Addr).add j) = some u := fun go hgo => by
        subst hgo
        have := eev_cells (A := []) (M := fs.take a) (Z := fs.drop a) RO' (by rw [List.nil_append, List.take_append_drop])
        simpa using this
      have n2 : ∀ go, ao = some ⟨go, 0, none⟩ → ∀ {w' : World} {o' : Nat → Nat}, Row w' o' (3999 + k) 42 4 (.slice ao fs.length co) fs.length (eev fs) → ∀ j u, (eev (fs.drop a))[j]? = some u → w'.cell? ((⟨go, a * 4, none⟩ : Addr).add j) = some u := fun go hgo w' o' h => by
        subst hgo
        have := eev_cells (A := fs.take a) (M := fs.drop a) (Z := []) h (by rw [List.append_nil, List.take_append_drop])
        rw [hLt] at this
        exact this
      have hao : 0 < k → ∃ go, ao = some ⟨go, 0, none⟩ := fun h0 => by
        obtain ⟨g', cap', hv', _⟩ := RO.pos h0
        simp only [Value.slice.injEq] at hv'
        exact ⟨g', hv'.1⟩
      have hform : (ao = none ∧ co = 0 ∧ k = 0) ∨ ∃ go, ao = some ⟨go, 0, none⟩ := by
        rcases RO.1.2 with ⟨hh, hk0⟩ | ⟨gx, cx, _, hh, _⟩
        · simp only [Value.slice.injEq] at hh
          exact .inl ⟨hh.1, hh.2.2, hk0⟩
        · simp only [Value.slice.injEq] at hh
          exact .inr ⟨gx, hh.1⟩
      have HF : Hid (fs.length = k) := hfl
      clear hfl
      generalize wc = wB at RL RO RO' S4 n1 ⊢
      go_upto_region 12 with fail
      go_cut [12] (fun vm wx => ∃ o', Row wx o' (4000 + k) 42 4 vm a (eev (fs.take a)) ∧ Step (fun j => j = 4000 + k) wB o4 wx o')
      case first =>
        by_cases ha0 : a = 0
        · subst ha0
          have HR : ∃ o', Row wB o' (4000 + k) 42 4 (.slice none 0 0) 0 (eev (fs.take 0)) ∧ Step (fun j => j = 4000 + k) wB o4 wB o' := ⟨o4, Row.nil _ _ _ _ _, Step.refl _ _ _⟩
          clear RL RO S4 n1 n2 hfp RO' hLt hLd hao
          go_wp2_with (first | (at_builtin; refine wpList_append_zero rfl (.tmp 50) (.tmp 53) 22 rfl 42 ie Try.underlying22 hie none 0 0 _ _ rfl rfl (Nat.le_refl _) ?_) | go_in)
          go_wp2
          go_meet
          exact HR
        · obtain ⟨go, rfl⟩ := hao (by omega)
          have n1' := n1 go rfl
          clear RL RO S4 n1 n2 hfp RO' hao
          go_wp2_with (first | (at_builtin; refine wpList_append_lab rfl (.tmp 50) (.tmp 53) 22 rfl 42 ie (.agg #[.int .i64 0, .int .i64 0, .int .i64 0, .int .i64 0]) 4 32 Try.underlying22 hie hze0 hze1 hze2 rfl (by decide) o4 (4000 + k) _ 0 [] rfl (Row.nil _ _ _ _ _) ⟨go, 0, none⟩ a co (eev (fs.take a)) rfl ?c1 n1' (eev_one _) (by omega) ?c3 ?c4 ?_) | go_in)
          case c1 => rw [eev_len, hLt]
          case c3 => unfold maxLen; omega
          case c4 => omega
          intro g7 c7 w7' o7' r7 s7
          have HR : ∃ o', Row w7' o' (4000 + k) 42 4 (.slice (some ⟨g7, 0, none⟩) a c7) a (eev (fs.take a)) ∧ Step (fun j => j = 4000 + k) wB o4 w7' o' := by
            refine ⟨o7', ?_, s7⟩
            exact r7
          clear r7 s7 n1'
          try simp only [Nat.zero_add]
          go_wp2
          go_meet
          exact HR
      case rest =>
      obtain ⟨o5, RM, s5⟩ := hcut
      have RL5 := RL.step s5 (by omega)
      have RO5 := RO'.step s5 (by omega)
      have S5 : Step Pos w o0 wc o5 := S4.trans (s5.mono fun j hj => (show 0 < j by omega))
      clear RL RO RO' S4 s5 n1
      obtain ⟨am, cm, rfl⟩ := RM.form
      obtain ⟨gl, cl', hvl, hgl, hcl, hml, hltl, hcellL, _⟩ := RL5.pos (by omega)
      simp only [Value.slice.injEq] at hvl
      obtain ⟨rfl, _, rfl⟩ := hvl
      have x0 := hcellL (k * 4 + 0) (by omega)
      have x1 := hcellL (k * 4 + 1) (by omega)
      have x2 := hcellL (k * 4 + 2) (by omega)
      rw [eev_get es k 0 hkn (by omega)] at x0
      rw [eev_get es k 1 hkn (by omega)] at x1
      rw [eev_get es k 2 hkn (by omega)] at x2
      replace x0 : wc.cell? ⟨gl, k * 4, none⟩ = some (.int .i64 es[k].id) := x0
      replace x1 : wc.cell? ⟨gl, k * 4 + 1, none⟩ = some (.int .i64 es[k].u) := x1
      replace x2 : wc.cell? ⟨gl, k * 4 + 2, none⟩ = some (.int .i64 es[k].v) := x2
      have HP : Hid ((fs.take a ++ ⟨es[k].id, es[k].v, es[k].u, (k : Int)⟩ :: fs.drop a).Perm (twL es (k + 1))) := tw_put hkn hfp
      clear hcellL hfp
      generalize es[k].id = xi at x0 HP
      generalize es[k].u = xu at x1 HP
      generalize es[k].v = xv at x2 HP
      unfold maxLen at hml
      generalize wc = wD at RL5 RO5 S5 RM x0 x1 x2 hltl ⊢
      have hone : ∀ z ∈ ([.int .i64 xi, .int .i64 xv, .int .i64 xu, .int .i64 (k : Int)] : List Value), z.oneCell' = true := fun z hz => by simp at hz; rcases hz with rfl | rfl | rfl | rfl <;> rfl
      have b1 : a + 1 ≤ maxLen := by unfold maxLen; omega
      have b2 : (a + 1) * 32 ≤ 140737488355328 := by omega
      go_upto_region 13 with fail
      go_cut [12] (fun vm wx => ∃ o', Row wx o' (4000 + k) 42 4 vm (a + 1) (eev (fs.take a) ++ [.int .i64 xi, .int .i64 xv, .int .i64 xu, .int .i64 (k : Int)]) ∧ Step (fun j => j = 4000 + k) wD o5 wx o')
      case first =>
        go_wp2_with fail
        go_region_held3 (fun wx => wx.cell? ⟨gl, k * 4, none⟩ = some (.int .i64 xi) ∧ wx.cell? ⟨gl, k * 4 + 1, none⟩ = some (.int .i64 xu) ∧ wx.cell? ⟨gl, k * 4 + 2, none⟩ = some (.int .i64 xv)) (first | exact ⟨e0, e1, e2⟩ | go_keep) (first | (refine step_append_lab rfl (.tmp 55) (.tmp 73) 22 rfl 42 ie (.agg #[.int .i64 0, .int .i64 0, .int .i64 0, .int .i64 0]) 4 32 Try.underlying22 hie hze0 hze1 hze2 rfl (by decide) o5 (4000 + k) (.slice am a cm) a (eev (fs.take a)) (by simp [Act.eval]) (RM.step (((Step.refl (fun _ => False) wD o5).alloc _).drew) (by simp)) ⟨wD.heap.size, 0, none⟩ 1 1 [.int .i64 xi, .int .i64 xv, .int .i64 xu, .int .i64 (k : Int)] (by simp [Act.eval]) rfl (new_four_at (by simp) _ _ _ _ _) hone (by decide) b1 b2 ?_; intro g7 c7 w7 o7 r7 s7; have u7 := (((Step.refl (fun x => x = 4000 + k) wD o5).alloc _).drew).trans s7; have e0 := (u7.cell hltl (by rw [hgl]; omega) (k * 4)).trans x0; have e1 := (u7.cell hltl (by rw [hgl]; omega) (k * 4 + 1)).trans x1; have e2 := (u7.cell hltl (by rw [hgl]; omega) (k * 4 + 2)).trans x2))
        all_goals (
          have HR : ∃ o', Row w7 o' (4000 + k) 42 4 (.slice (some ⟨g7, 0, none⟩) (a + 1) c7) (a + 1) (eev (fs.take a) ++ [.int .i64 xi, .int .i64 xv, .int .i64 xu, .int .i64 (k : Int)]) ∧ Step (fun j => j = 4000 + k) wD o5 w7 o' := ⟨o7, r7, u7⟩
          clear r7 u7 s7
          go_wp2
          go_meet
          exact HR)
      case rest =>
      obtain ⟨o6, RN, s6⟩ := hcut
      have RL6 := RL5.step s6 (by omega)
      have RO6 := RO5.step s6 (by omega)
      have S6 : Step Pos w o0 wc o6 := S5.trans (s6.mono fun j hj => (show 0 < j by omega))
      clear RL5 RO5 S5 s6 RM x0 x1 x2 hone b1 b2
      obtain ⟨an, cn, rfl⟩ := RN.form
      have hcn : a + 1 ≤ cn := by
        rcases RN.1.2 with ⟨hh, hk0⟩ | ⟨gx, cx, _, hh, _, _, hle, _⟩
        · omega
        · simp only [Value.slice.injEq] at hh
          obtain ⟨_, _, rfl⟩ := hh
          exact hle
      generalize wc = wE at RL6 RO6 S6 RN ⊢
      have hev : eev (fs.take a ++ ⟨xi, xv, xu, (k : Int)⟩ :: fs.drop a) = (eev (fs.take a) ++ [.int .i64 xi, .int .i64 xv, .int .i64 xu, .int .i64 (k : Int)]) ++ eev (fs.drop a) := by
        rw [eev_append, List.append_assoc]; rfl
      by_cases hak2 : a = k
      · have HN : Hid (OrS w es (.slice (some ⟨gl, 0, none⟩) es.length cl) (k + 1) (.slice an (k + 1) cn) wE) := by
          refine OrS.next (o' := o6) (fs := fs) (a := a) RL6 ?_ HP.out HF.out hak S6
          have e : fs.drop a = [] := List.drop_eq_nil_of_le (by have := HF.out; omega)
          rw [hev, e]
          have := RN
          rw [hak2] at this ⊢
          simpa [eev] using this
        have hkka : k - a = 0 := by omega
        clear RL6 RO6 S6 RN n2 HP hev hLt hLd hao
        rcases hform with ⟨rfl, rfl, rfl⟩ | ⟨go, rfl⟩
        · obtain rfl : a = 0 := by omega
          go_wp2_with (first | (at_builtin; refine wpList_append_zero rfl (.tmp 75) (.tmp 78) 22 rfl 42 ie Try.underlying22 hie an _ cn _ _ rfl rfl hcn ?_) | go_in)
          go_roundg (es.length - (0 + 1))
          case measure => omega
          case rel => exact ⟨0 + 1, by omega, rfl, by go_num, by simpa using HN.out⟩
        · by_cases hcq : co = a
          · go_wp2_with (first | (at_builtin; refine wpList_append_zero rfl (.tmp 75) (.tmp 78) 22 rfl 42 ie Try.underlying22 hie an _ cn _ _ rfl rfl hcn ?_) | go_in)
            go_roundg (es.length - (k + 1))
            case measure => omega
            case rel => exact ⟨k + 1, by omega, rfl, by go_num, HN.out⟩
          · go_wp2_with (first | (at_builtin; refine wpList_append_zero rfl (.tmp 75) (.tmp 78) 22 rfl 42 ie Try.underlying22 hie an _ cn _ _ rfl rfl hcn ?_) | go_in)
            go_roundg (es.length - (k + 1))
            case measure => omega
            case rel => exact ⟨k + 1, by omega, rfl, by go_num, HN.out⟩
      · obtain ⟨go, rfl⟩ := hao (by omega)
        have n2' := n2 go rfl RO6
        have hcq : ¬ (co = a) := by omega
        have hz : k - a ≠ 0 := by omega
        clear n2 RO6 hao hform
        go_wp2_with (first | (at_builtin; refine wpList_append_lab rfl (.tmp 75) (.tmp 78) 22 rfl 42 ie (.agg #[.int .i64 0, .int .i64 0, .int .i64 0, .int .i64 0]) 4 32 Try.underlying22 hie hze0 hze1 hze2 rfl (by decide) o6 (4000 + k) _ (a + 1) _ rfl RN ⟨go, a * 4, none⟩ (k - a) _ (eev (fs.drop a)) rfl ?c1 n2' (eev_one _) (by omega) ?c3 ?c4 ?_) | go_in)
        case c1 => rw [eev_len, hLd]
        case c3 => unfold maxLen; omega
        case c4 => omega
        intro g8 c8 w8 o8 r8 s8
        have HN : Hid (OrS w es (.slice (some ⟨gl, 0, none⟩) es.length cl) (k + 1) (.slice (some ⟨g8, 0, none⟩) (a + 1 + (k - a)) c8) w8) := by
          refine OrS.next (o' := o8) (fs := fs) (a := a) (RL6.step s8 (by omega)) ?_ HP.out HF.out hak (S6.trans (s8.mono fun j hj => (show 0 < j by omega)))
          rw [hev]
          have e1 : a + 1 + (k - a) = k + 1 := by omega
          have := r8
          rw [e1] at this ⊢
          rw [List.append_assoc]
          exact this
        clear r8 s8 RL6 S6 RN n2' HP hev
        go_wp2
        go_roundg (es.length - (k + 1))
        case measure => omega
        case rel => exact ⟨k + 1, by omega, rfl, by go_num, HN.out⟩
    · obtain rfl : k = es.length := by omega
      obtain ⟨okf, twf⟩ := tw_done G hlen (by omega) hfp
      have oke := G.ok hlen
      have RO' : Row wr o4 (3999 + es.length) 42 4 (.slice ao es.length co) fs.length (eev fs) := by rw [hfl]; exact RO
      have hof := of_w newWalk_ok wr o4 5000 n 2000 _ es RL.vwe (by omega) (by omega) (by omega) (by omega) oke
      have VF : VwE wr o4 (3999 + es.length) (.slice ao es.length co) fs := RO'.vwe
      clear RO RO' hfp
      have hkI : ¬ ((es.length : Int) < (es.length : Int)) := by omega
      go_wp2_with fail
      refine hof.mono ?_
      rintro e w5 ⟨q, o5, B, bl, rfl, R5, A5, s5⟩
      have VF5 := VF.step s5 (fun h => by have := h.1; omega)
      have S5 : Step Pos w o0 w5 o5 := S4.trans (s5.mono fun j hj => (show 0 < j by have := hj.1; omega))
      have hof2 := of_w newWalk_ok w5 o5 6000 n (3999 + es.length) _ fs VF5 (by omega) (by omega) (by omega) (by omega) okf
      clear hof VF VF5 s5 RL S4
      go_wp2_with fail
      refine hof2.mono ?_
      rintro e w6 ⟨q2, o6, B2, bl2, rfl, R6, A6, s6⟩
      obtain ⟨hBB, hbb, hcc⟩ := twf.ans oke okf A5 A6
      subst hBB
      have hBl := A5.len
      have R56 := R5.step s6 (fun j hj h => by have := hj.2; have := h.1; omega)
      have S6 : Step Pos w o0 w6 o6 := S5.trans (s6.mono fun j hj => (show 0 < j by have := hj.1; omega))
      clear hof2 s6 R5 S5 A5 A6 twf oke okf
      have hbo := fun x hx => block_w w6 o6 5000 q n x B bl R56 hx hn64
      have hbp := fun x hx => block_w w6 o6 6000 q2 n x B bl2 R6 hx hn64
      have HBB : Hid (∀ x, x < n → bl x = bl2 x) := hbb
      clear hbb
      go_wp2_with fail
      go_loopg [17] n (fun gh vi wx => ∃ j, j ≤ n ∧ gh = n - j ∧ vi = .int .i64 (j : Nat) ∧ wx = w6)
      case atStart => exact ⟨0, by omega, by omega, by go_num, rfl⟩
      case round =>
        obtain ⟨j, hj, rfl, rfl, rfl⟩ := hrel
        by_cases hjn : j < n
        · have hjI : (j : Int) < (n : Int) := by omega
          have h1 := hbo j hjn
          have h2 := hbp j hjn
          rw [← HBB.out j hjn] at h2
          obtain ⟨x, hx⟩ : ∃ x, x = bl j := ⟨_, rfl⟩
          rw [← hx] at h1 h2
          clear hx hbo hbp R56 R6 S6
          go_wp2_with fail
          refine h1.mono ?_
          rintro e w7 ⟨rfl, rfl⟩
          go_wp2_with fail
          refine h2.mono ?_
          rintro e w8 ⟨rfl, rfl⟩
          clear h1 h2
          go_wp2
          go_roundg (n - (j + 1))
          case measure => omega
          case rel => exact ⟨j + 1, by omega, rfl, by go_num, by trivial⟩
        · obtain rfl : j = n := by omega
          have hjI : ¬ ((j : Int) < (j : Int)) := by omega
          have hb1 := bridges_w wr o6 5000 q j 7000 B bl R56 (by omega)
          clear hbo hbp
          go_wp2_with fail
          refine hb1.mono ?_
          rintro e w7 ⟨v7, o7, rfl, r7, s7⟩
          have R57 := R56.step s7 (fun i hi h => by have := hi.2; omega)
          have R67 := R6.step s7 (fun i hi h => by have := hi.2; omega)
          have hb2 := bridges_w w7 o7 6000 q2 j 7001 B bl2 R67 (by omega)
          obtain ⟨av, cv, rfl⟩ := r7.form
          clear hb1 R56 R6
          go_wp2_with fail
          refine hb2.mono ?_
          rintro e w8 ⟨v8, o8, rfl, r8, s8⟩
          have V7 := (r7.step s8 (by omega)).vw
          have V8 := r8.vw
          have R58 := R57.step s8 (fun i hi h => by have := hi.2; omega)
          have R68 := R67.step s8 (fun i hi h => by have := hi.2; omega)
          have hsm := same_w w8 o8 o8 7000 7001 _ v8 B B V7 V8 (by omega) (by omega)
          have hd : decide (B = B) = true := by simp
          rw [hd] at hsm
          obtain ⟨av8, cv8, rfl⟩ := r8.form
          have S8 : Step Pos w o0 w8 o8 := (S6.trans (s7.mono fun i hi => (show 0 < i by omega))).trans (s8.mono fun i hi => (show 0 < i by omega))
          clear hb2 r7 r8 V7 V8 s7 s8 R57 R67 hd
          go_wp2_with fail
          refine hsm.mono ?_
          rintro e w9 ⟨rfl, s9⟩
          have h1 := blocks_w w9 o8 5000 q j B bl (R58.step s9 (fun _ _ h => h)) (by omega) hn64
          have h2 := blocks_w w9 o8 6000 q2 j B bl2 (R68.step s9 (fun _ _ h => h)) (by omega) hn64
          rw [← hcc] at h2
          obtain ⟨x, hx⟩ : ∃ x, x = cntB bl j := ⟨_, rfl⟩
          rw [← hx] at h1 h2
          have hBel : Below w.heap.size w w9 := (S8.trans (s9.mono fun _ h => h.elim)).old
          clear hx hcc hsm R58 R68 S8 s9
          go_wp2_with fail
          refine h1.mono ?_
          rintro e w10 ⟨rfl, rfl⟩
          go_wp2_with fail
          refine h2.mono ?_
          rintro e w11 ⟨rfl, rfl⟩
          clear h1 h2
          go_wp2
          go_ret
          exact ⟨rfl, hBel⟩
end Go.Proofs.Ytkhjodihlkfkdaa

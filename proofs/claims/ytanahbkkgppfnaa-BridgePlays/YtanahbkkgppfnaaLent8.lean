/- Lists that are lent, and whether they are kept. -/
import Derived.Test.YtanahbkkgppfnaaRef8M
import Derived.Test.YtanahbkkgppfnaaApp1
import Derived.Test.YtanahbkkgppfnaaElv8
import Derived.Deep.LoopGhost
namespace Go.Proofs.Ytanahbkkgppfnaa
open Go.ChangeShapes Go.WideShapes Go.ChangeAt Go.RowKit
set_option linter.unusedVariables false
set_option linter.unusedSimpArgs false

/-- The two that stand behind. -/
def two8 : List EdT := [⟨7001, 0, 0, 0⟩, ⟨7002, 0, 0, 0⟩]
theorem VwE.cells {w : World} {o : Nat → Nat} {i : Nat} {ao : Option Addr} {len cap : Nat} {es : List EdT} (h : VwE w o i (.slice ao len cap) es) : 0 < es.length → ∃ ad, ao = some ad ∧ ∀ j u, (eev es)[j]? = some u → w.cell? (ad.add j) = some u := fun h0 => by
  obtain ⟨ao', cap', hv, _, _, hp⟩ := h
  simp only [Value.slice.injEq] at hv
  obtain ⟨rfl, rfl, rfl⟩ := hv
  obtain ⟨g, off, rfl, h1, h2, h3⟩ := hp h0
  refine ⟨_, rfl, fun j u hj => ?_⟩
  have hjl := (List.getElem?_eq_some_iff.1 hj).1
  rw [eev_len] at hjl
  have e : j = j / 4 * 4 + j % 4 := by omega
  have hq : j / 4 < es.length := by omega
  obtain ⟨c0, c1, c2, c3⟩ := h3 (j / 4) hq
  have hg := eev_get es (j / 4) (j % 4) hq (by omega)
  rw [← e, hj] at hg
  have hadd : (⟨g, off, none⟩ : Addr).add j = ⟨g, off + j, none⟩ := by
    unfold Addr.add
    by_cases j0 : j = 0
    · subst j0; simp
    · simp [j0]
  rw [hadd]
  have h4 : j % 4 < 4 := by omega
  have e2 : off + j = off + j / 4 * 4 + j % 4 := by omega
  rw [e2]
  match hm : j % 4, h4 with
  | 0, _ => rw [hm] at hg; simp [ev8] at hg; rw [hg]; exact c0
  | 1, _ => rw [hm] at hg; simp [ev8] at hg; rw [hg]; exact c1
  | 2, _ => rw [hm] at hg; simp [ev8] at hg; rw [hg]; exact c2
  | 3, _ => rw [hm] at hg; simp [ev8] at hg; rw [hg]; exact c3
def LentOut (w : World) (o : Nat → Nat) (lb : Nat) (es : List EdT) (e : Ending) (w' : World) : Prop := ∃ g c o', e = .returned (.slice (some ⟨g, 0, none⟩) es.length c) ∧ Row w' o' lb 36 4 (.slice (some ⟨g, 0, none⟩) (es.length + 2) c) (es.length + 2) (eev (es ++ two8)) ∧ Step (fun k => k = lb) w o w' o'
set_option maxRecDepth 100000 in
set_option maxHeartbeats 4000000 in
theorem lent_w (w : World) (o : Nat → Nat) (la lb : Nat) (vl : Value) (es : List EdT) (h : VwE w o la vl es) (hes : es.length ≤ 2000) :
    Calls Try.prog 6 #[vl] w fun e w' => LentOut w o lb es e w' := by
  obtain ⟨ie, hie, hze0, hze1, hze2⟩ := info_parts infoEdge
  have hf : ∃ ao cap, vl = .slice ao es.length cap := by
    obtain ⟨ao, cap, hv, _⟩ := h
    exact ⟨ao, cap, hv⟩
  obtain ⟨ao, cap, rfl⟩ := hf
  have hnews := h.cells
  clear h
  go_enter Try.func6, Try.ntmps6
  go_upto_region 2 with fail
  go_cut [3] (fun v3 wx => ∃ o', Row wx o' lb 36 4 v3 es.length (eev es) ∧ Step (fun k => k = lb) w o wx o')
  case first =>
    go_wp2_with (first | (at_builtin; refine wpList_append_any rfl (.tmp 4) (.tmp 5) 22 rfl 36 ie (.agg #[.int .i64 0, .int .i64 0, .int .i64 0, .int .i64 0]) 4 32 Try.underlying22 hie hze0 hze1 hze2 rfl (by decide) o lb _ 0 [] rfl (Row.nil _ _ _ _ _) ao es.length cap (eev es) rfl (eev_len es) hnews (eev_one es) ?c3 ?c4 ?_) | go_in)
    case c3 => unfold maxLen; omega
    case c4 => omega
    intro a7 c7 w7 o7 r7 s7
    have HR : ∃ o', Row w7 o' lb 36 4 (.slice a7 es.length c7) es.length (eev es) ∧ Step (fun k => k = lb) w o w7 o' := by
      refine ⟨o7, ?_, s7⟩
      try simp only [Nat.zero_add, List.nil_append] at r7
      exact r7
    clear r7 s7 hnews
    try simp only [Nat.zero_add]
    go_wp2
    go_meet
    exact HR
  case rest =>
  obtain ⟨o1, R1, s1⟩ := hcut
  obtain ⟨a1, c1, rfl⟩ := R1.form
  clear hnews
  generalize wc = w1 at R1 s1 ⊢
  have s2 := allocStep (fun _ => False) w1 o1 (.cells #[.int .i64 7001, .int .i64 0, .int .i64 0, .int .i64 0, .int .i64 7002, .int .i64 0, .int .i64 0, .int .i64 0] 36)
  go_upto_region 3 with fail
  go_cut [3] (fun v3 wx => ∃ g c o', v3 = .slice (some ⟨g, 0, none⟩) (es.length + 2) c ∧ Row wx o' lb 36 4 v3 (es.length + 2) (eev (es ++ two8)) ∧ Step (fun k => k = lb) w o wx o')
  case first =>
    go_wp2_with (first | (at_builtin; refine wpList_append_lab rfl (.tmp 7) (.tmp 10) 22 rfl 36 ie (.agg #[.int .i64 0, .int .i64 0, .int .i64 0, .int .i64 0]) 4 32 Try.underlying22 hie hze0 hze1 hze2 rfl (by decide) o1 lb _ es.length (eev es) rfl (R1.step s2 (by simp)) ⟨w1.heap.size, 0, none⟩ 2 2 (eev two8) rfl rfl ?c1 (eev_one _) (by decide) ?c3 ?c4 ?_) | go_in)
    case c1 =>
      intro j u' hj
      match j, hj with
      | 0, hj => simp [eev, two8, ev8] at hj; subst hj; simp [Addr.add]
      | 1, hj => simp [eev, two8, ev8] at hj; subst hj; simp [Addr.add]
      | 2, hj => simp [eev, two8, ev8] at hj; subst hj; simp [Addr.add]
      | 3, hj => simp [eev, two8, ev8] at hj; subst hj; simp [Addr.add]
      | 4, hj => simp [eev, two8, ev8] at hj; subst hj; simp [Addr.add]
      | 5, hj => simp [eev, two8, ev8] at hj; subst hj; simp [Addr.add]
      | 6, hj => simp [eev, two8, ev8] at hj; subst hj; simp [Addr.add]
      | 7, hj => simp [eev, two8, ev8] at hj; subst hj; simp [Addr.add]
    case c3 => unfold maxLen; omega
    case c4 => omega
    intro g7 c7 w7 o7 r7 s7
    have HR : ∃ g c o', Value.slice (some ⟨g7, 0, none⟩) (es.length + 2) c7 = .slice (some ⟨g, 0, none⟩) (es.length + 2) c ∧ Row w7 o' lb 36 4 (.slice (some ⟨g7, 0, none⟩) (es.length + 2) c7) (es.length + 2) (eev (es ++ two8)) ∧ Step (fun k => k = lb) w o w7 o' := by
      refine ⟨g7, c7, o7, rfl, ?_, s1.trans ((s2.mono fun _ h => h.elim).trans s7)⟩
      rw [eev_append]; exact r7
    clear r7 s7 R1 s1 s2
    go_wp2
    go_meet
    exact HR
  case rest =>
  obtain ⟨g, c, o3, rfl, R3, s3⟩ := hcut
  have hc := R3.cap.2
  have hcI : (es.length : Int) ≤ (c : Int) := by omega
  have HF : Hid (LentOut w o lb es (.returned (.slice (some ⟨g, 0, none⟩) es.length c)) wc) := ⟨g, c, o3, rfl, R3, s3⟩
  unfold maxLen at hc
  obtain ⟨hc1, hc2⟩ := hc
  clear R3 s3 R1 s1 s2
  go_wp2
  go_ret
  exact HF.out
end Go.Proofs.Ytanahbkkgppfnaa

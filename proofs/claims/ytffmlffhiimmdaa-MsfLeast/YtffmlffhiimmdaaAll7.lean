/- All: the IDs of the forest, collected and sorted. -/
import Derived.Test.YtffmlffhiimmdaaWgt7
import Derived.Test.YtffmlffhiimmdaaSrt7
namespace Go.Proofs.Ytffmlffhiimmdaa
open Go.ChangeShapes Go.WideShapes Go.ChangeAt Go.RowKit Go.Maps
set_option linter.unusedVariables false

/-- Between two rounds of All: the IDs that came lie in a slice. -/
def AlS (w : World) (o : Nat → Nat) (L lb li p n bm r : Nat) (D ed : Nat → Option Ed) (m c : Nat) (DD : DataW Unit) (pre : List Nat) (cnt : Nat) (sv : Value) (wr : World) : Prop :=
  ∃ o' left, wr.ranges Try.prog 3 msElem bm r m DD left cnt ∧ Rgd (msF D ed) left pre ∧ pre.length + cnt ≤ m ∧ Mx wr o' L p n D ed m c ∧ o' r = lb ∧ o' bm = L + 1 ∧ Row wr o' li 3 1 sv pre.length (intsL pre) ∧ Step (fun k => k = lb ∨ k = li) w o wr o'

set_option maxRecDepth 100000 in
set_option maxHeartbeats 4000000 in
theorem all_in (w : World) (o : Nat → Nat) (L lb li p n : Nat) (D ed : Nat → Option Ed) (m c : Nat) (X : Mx w o L p n D ed m c) (hm : m ≤ 192) (hlb : ¬ ML L lb) (hli : ¬ ML L li) (hne : lb ≠ li) :
    Calls Try.prog 18 #[.pointer (some ⟨p, 0, none⟩)] w fun e w' => ∃ l v o', e = .returned v ∧ Ids ed l ∧ l.Pairwise (· < ·) ∧ l.length ≤ 192 ∧ Row w' o' li 3 1 v l.length (intsL l) ∧ Mx w' o' L p n D ed m c ∧ Step (fun k => k = lb ∨ k = li) w o w' o' := by
  have X0 := X
  have hok := X.ok
  obtain ⟨ii, hii, hzi0, hzi1, hzi2⟩ := info_parts infoInt
  obtain ⟨⟨hM, hokD⟩, R, bm, q, B, MM, T⟩ := X
  obtain ⟨DD, hown, hsz, hbl, h4, h5⟩ := MM
  obtain ⟨⟨p0, p1, p2⟩, pf⟩ := B.cell3
  have nl : ∀ k, ML L k → ¬ (k = lb ∨ k = li) := fun k hk e => e.elim (fun e => hlb (e ▸ hk)) (fun e => hli (e ▸ hk))
  have nb : ∀ k, ML L k → ¬ (k = lb) := fun k hk e => hlb (e ▸ hk)
  have ni : ∀ k, ML L k → ¬ (k = li) := fun k hk e => hli (e ▸ hk)
  have m1 : ML L (L + 1) := ⟨by omega, by omega⟩
  clear T B
  go_enter Try.func18, Try.ntmps18
  go_wp2_with (first | (at_range; refine wpList_range_own _ rfl _ 66 rfl 3 73 intLaw Try.underlying66 _ bm m _ rfl hown ?_; intro w0 hrg0 hg0 hs0) | go_in)
  have s0 : Step (fun k => k = lb) w o w0 (newLab w o lb) := Step.appended hg0 rfl (fun k hk => by cases hk)
  have START : AlS w o L lb li p n bm w.heap.size D ed m c DD [] m (.slice none 0 0) w0 := by
    have hb0 := hown.lt
    refine ⟨newLab w o lb, _, (by rw [hsz] at hrg0; exact hrg0), ⟨fun k hk => h5 k hk, by simp, fun i hi => by simp at hi, fun i x hi => .inr (h4 i x true hi).1⟩, by simp, X0.step s0 nb, newLab_new (Nat.le_refl _), (newLab_old hb0).trans hbl, Row.nil _ _ _ _ _, s0.mono fun k hk => .inl hk⟩
  clear hg0 hs0 hrg0 s0 X0 hown p0 p1 p2 pf
  generalize w.heap.size = r at *
  go_frame
  go_loopg [3] m (fun g sv wr => ∃ pre cnt, g = cnt ∧ AlS w o L lb li p n bm r D ed m c DD pre cnt sv wr)
  case atStart => exact ⟨[], m, rfl, START⟩
  case round =>
    clear START
    obtain ⟨pre, cnt, rfl, o1, left, hrg, hR, hle, X1, hor, hob, rw1, s1⟩ := hrel
    have hpl : pre.length ≤ 192 := by omega
    obtain ⟨ao, cap, rfl⟩ := rw1.form
    go_wp2_with (first | (at_next; refine wpList_next_ranges _ rfl _ rfl 3 intLaw msElem msK msV msK_inv msV_inv bm r m _ _ _ rfl hrg ?_ ?_; all_goals first | (intro x cc kl y w2 cnt' hkey hlk hv hat hrg2 hlt hgr hsz2 hen; obtain ⟨j, z, s, rfl, rfl, hf, rfl⟩ := rgd_came hR h4 hkey hlk hv hat; have hen2 : (Instr.entry (.pointer (some ⟨r, 0, none⟩))).run Try.prog w2 = .ok (.tuple #[.int .i64 (j : Nat), .agg #[.int .i64 (j : Nat), .int .i64 (z.u : Nat), .int .i64 (z.v : Nat), .int .i64 z.w, .bool s]]) w2 := hen; have s2 := grown_step hgr hor; have r2 := rw1.step s2 (Ne.symm hne); clear hen hkey hv hat hrg; unfold msK msV; cases s) | (intro h0 hl0)) | (at_builtin; refine wpList_append_lab rfl (.tmp 18) (.tmp 20) 41 rfl 3 ii (.int .i64 0) 1 8 Try.underlying41 hii hzi0 hzi1 hzi2 rfl (by decide) o1 li _ pre.length (intsL pre) rfl ((r2.step (allocStep (fun _ => False) _ o1 _) (by simp)).step (allocStep (fun _ => False) _ o1 _) (by simp)) ⟨wr.heap.size + 1, 0, none⟩ 1 1 [.int .i64 (j : Nat)] rfl rfl ?d1 ?d2 (by decide) ?d3 ?d4 ?_) | fail)
    case d1 => exact new_one_at (by simp [hsz2]) _ _
    case d2 => intro u hu; simp at hu; subst hu; rfl
    case d3 => unfold maxLen; omega
    case d4 => omega
    · have hsr := sort_in wr o1 li pre ao cap rw1 hpl
      have RI := hR.ids X1.1.1 hl0
      refine hsr.mono ?_
      rintro e w2 ⟨rfl, o2, l2, r2, hp, hso, s2⟩
      have RR : ∃ l v o', (.slice ao pre.length cap : Value) = v ∧ Ids ed l ∧ l.Pairwise (· < ·) ∧ l.length ≤ 192 ∧ Row w2 o' li 3 1 v l.length (intsL l) ∧ Mx w2 o' L p n D ed m c ∧ Step (fun k => k = lb ∨ k = li) w o w2 o' := by
        refine ⟨l2, _, o2, rfl, ⟨hp.nodup_iff.2 RI.1, fun i => (hp.mem_iff).trans (RI.2 i)⟩, ?_, by rw [hp.length_eq]; exact hpl, r2, X1.step s2 ni, s1.trans (s2.mono fun k hk => .inr hk)⟩
        exact (List.pairwise_and_iff.2 ⟨hso, hp.nodup_iff.2 RI.1⟩).imp fun q => by omega
      clear hsr r2 hp hso s2 hrg hR X1 s1 rw1 hl0
      go_wp2
      go_ret
      obtain ⟨l, v, o', rfl, h1, h2, h3, h4, h5, h6⟩ := RR
      exact ⟨l, _, o', rfl, h1, h2, h3, h4, h5, h6⟩
    · have n3 := newB5 w2 o1 (.cells #[.int .i64 (j : Nat), .int .i64 (z.u : Nat), .int .i64 (z.v : Nat), .int .i64 z.w, .bool false] 73)
      have RR : AlS w o L lb li p n bm r D ed m c DD pre cnt' (.slice ao pre.length cap) (w2.alloc (.cells #[.int .i64 (j : Nat), .int .i64 (z.u : Nat), .int .i64 (z.v : Nat), .int .i64 z.w, .bool false] 73)) := ⟨o1, _, hrg2.alloc _, hR.skip hf, by omega, (X1.step s2 nb).step n3 (fun _ _ => id), hor, hob, r2.step n3 id, (s1.trans (s2.mono fun k hk => .inl hk)).trans (n3.mono fun _ h => h.elim)⟩
      go_roundg cnt'
      case measure => exact hlt
      case rel => exact ⟨pre, cnt', rfl, RR⟩
    · intro g9 cap9 w4 o4 hr9 hs9
      have n3 := newB5 w2 o1 (.cells #[.int .i64 (j : Nat), .int .i64 (z.u : Nat), .int .i64 (z.v : Nat), .int .i64 z.w, .bool true] 73)
      have n4 := newB5 (w2.alloc (.cells #[.int .i64 (j : Nat), .int .i64 (z.u : Nat), .int .i64 (z.v : Nat), .int .i64 z.w, .bool true] 73)) o1 (.cells #[.int .i64 (j : Nat)] 3)
      have hrg3 := (hrg2.alloc (.cells #[.int .i64 (j : Nat), .int .i64 (z.u : Nat), .int .i64 (z.v : Nat), .int .i64 z.w, .bool true] 73)).alloc (.cells #[.int .i64 (j : Nat)] 3)
      have l1 := hrg3.owns.lt
      have l2 := hrg3.lt
      have RR : AlS w o L lb li p n bm r D ed m c DD (pre ++ [j]) cnt' (.slice (some ⟨g9, 0, none⟩) (pre.length + 1) cap9) w4 := by
        refine ⟨o4, _, ranges_step hrg3 hs9 (by rw [hob]; exact ni _ m1) (by rw [hor]; exact hne), hR.take hf hlk, by simp; omega, (((X1.step s2 nb).step n3 (fun _ _ => id)).step n4 (fun _ _ => id)).step hs9 ni, (hs9.lab r l2).trans hor, (hs9.lab bm l1).trans hob, ?_, ?_⟩
        · have e1 : intsL (pre ++ [j]) = intsL pre ++ [.int .i64 (j : Nat)] := by simp [intsL]
          have e2 : (pre ++ [j]).length = pre.length + 1 := by simp
          rw [e1, e2]; exact hr9
        · exact (((s1.trans (s2.mono fun k hk => .inl hk)).trans (n3.mono fun _ h => h.elim)).trans (n4.mono fun _ h => h.elim)).trans (hs9.mono fun k hk => .inr hk)
      clear hr9 hs9 n3 n4 hrg3 hrg2 X1 s1 s2 r2 rw1 hR
      go_wp2
      go_roundg cnt'
      case measure => exact hlt
      case rel => exact ⟨pre ++ [j], cnt', rfl, RR⟩

end Go.Proofs.Ytffmlffhiimmdaa

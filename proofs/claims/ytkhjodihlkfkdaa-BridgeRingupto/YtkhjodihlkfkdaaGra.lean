/- A graph out of raw pairs. -/
import Derived.Test.YtkhjodihlkfkdaaElv8
namespace Go.Proofs.Ytkhjodihlkfkdaa
open Go.ChangeShapes Go.WideShapes Go.ChangeAt Go.RowKit
set_option linter.unusedVariables false

def i64 (x : Int) : Prop := -9223372036854775808 ≤ x ∧ x ≤ 9223372036854775807
/-- Pairs that came in, only read. -/
def ArgP (w : World) (o : Nat → Nat) (ao : Option Addr) (len : Nat) (f : Nat → Int × Int) : Prop :=
  ∀ j, j < len → ∃ b off, ao = some ⟨b, off, none⟩ ∧ b < w.heap.size ∧ o b = 0 ∧ (w.cell? ⟨b, off + j * 2, none⟩ = some (.int .i64 (f j).1) ∧ w.cell? ⟨b, off + j * 2 + 1, none⟩ = some (.int .i64 (f j).2)) ∧ i64 (f j).1 ∧ i64 (f j).2
theorem ArgP.step {I : Nat → Prop} {w w' : World} {o o' : Nat → Nat} {ao : Option Addr} {len : Nat} {f : Nat → Int × Int} (h : ArgP w o ao len f) (s : Step I w o w' o') (hi : ¬ I 0) : ArgP w' o' ao len f := by
  intro j hj
  obtain ⟨b, off, h1, h2, h3, ⟨c0, c1⟩, hb⟩ := h j hj
  have hc := fun k => s.cell h2 (by rw [h3]; exact hi) k
  exact ⟨b, off, h1, Nat.lt_of_lt_of_le h2 s.size, (s.lab b h2).trans h3, ⟨(hc _).trans c0, (hc _).trans c1⟩, hb⟩
/-- Edges as 'graph' makes them; k: how many pairs were looked at. -/
def GrE (n k : Nat) (es : List EdT) : Prop := (∀ x, x ∈ es → (0 ≤ x.u ∧ x.u < n) ∧ (0 ≤ x.v ∧ x.v < n) ∧ x.u ≠ x.v ∧ (10 ≤ x.id ∧ x.id < 10 + (k : Int)) ∧ x.wt = 0) ∧ es.Pairwise (fun a b => a.id < b.id)
theorem GrE.mono {n k k' : Nat} {es : List EdT} (h : GrE n k es) (hk : k ≤ k') : GrE n k' es :=
  ⟨fun x hx => by obtain ⟨a, b, c, d, e⟩ := h.1 x hx; exact ⟨a, b, c, ⟨d.1, by have := d.2; omega⟩, e⟩, h.2⟩
theorem GrE.snoc {n k u v : Nat} {es : List EdT} (h : GrE n k es) (hu : u < n) (hv : v < n) (huv : u ≠ v) : GrE n (k + 1) (es ++ [⟨10 + (k : Int), (u : Int), (v : Int), 0⟩]) := by
  refine ⟨fun x hx => ?_, ?_⟩
  · rcases List.mem_append.1 hx with q | q
    · exact (h.mono (Nat.le_succ k)).1 x q
    · simp only [List.mem_singleton] at q
      subst q
      exact ⟨⟨by simp only; omega, by simp only; omega⟩, ⟨by simp only; omega, by simp only; omega⟩, by simp only; omega, ⟨by simp only; omega, by simp only; omega⟩, rfl⟩
  · rw [List.pairwise_append]
    refine ⟨h.2, by simp, fun a ha b hb => ?_⟩
    simp only [List.mem_singleton] at hb
    subst hb
    exact (h.1 a ha).2.2.2.1.2
theorem GrE.ok {n k : Nat} {es : List EdT} (h : GrE n k es) (hk : k ≤ 1048576) : OkE n es := by
  intro j hj
  obtain ⟨a, b, c, d, e⟩ := h.1 _ (List.getElem_mem hj)
  refine ⟨⟨a, b, c, ⟨by have := d.1; omega, by have := d.2; omega⟩, by rw [e]; exact ⟨by decide, by decide⟩⟩, fun x hx => ?_⟩
  obtain ⟨i, hi, rfl⟩ := List.mem_take_iff_getElem.1 hx
  have := List.pairwise_iff_getElem.1 h.2 i j (by omega) hj (by omega)
  omega

/-- What 'graph' leaves. -/
def GraOut (w : World) (o : Nat → Nat) (lb n len most : Nat) (e : Ending) (w' : World) : Prop := ∃ v es o', e = .returned v ∧ Row w' o' lb 42 4 v es.length (eev es) ∧ es.length ≤ most ∧ GrE n len es ∧ Step (fun k => k = lb) w o w' o'
set_option maxRecDepth 100000 in
theorem graph_w (w : World) (o : Nat → Nat) (lb n len cap most : Nat) (ao : Option Addr) (f : Nat → Int × Int) (hA : ArgP w o ao len f) (hlb : lb ≠ 0) (hn1 : 1 ≤ n) (hn : n ≤ 64) (hlen : len ≤ 1048576) (hm1 : 1 ≤ most) (hmost : most ≤ 200) :
    Calls Try.prog 16 #[.int .i64 (n : Nat), .slice ao len cap, .int .i64 (most : Nat)] w fun e w' => GraOut w o lb n len most e w' := by
  have HA : Hid (ArgP w o ao len f) := hA
  obtain ⟨ie, hie, hze0, hze1, hze2⟩ := info_parts infoEdge
  clear hA
  go_enter Try.func16, Try.ntmps16
  go_wp2
  go_loopg [7, 8] (len + 1) (fun gh vl vi wr => ∃ k es o', k ≤ len ∧ gh = len + 1 - k ∧ vi = .int .i64 (k : Nat) ∧ Row wr o' lb 42 4 vl es.length (eev es) ∧ es.length ≤ most ∧ GrE n k es ∧ Step (fun k => k = lb) w o wr o')
  case atStart => exact ⟨0, [], o, by omega, by omega, by go_num, Row.nil _ _ _ _ _, by simp, ⟨by simp, by simp⟩, Step.refl _ _ _⟩
  case round =>
    obtain ⟨k, es, o', hk, rfl, rfl, R, hes, G, sk⟩ := hrel
    obtain ⟨av, cv, rfl⟩ := R.form
    by_cases hkl : k < len
    · by_cases hms : es.length < most
      · obtain ⟨b, off, rfl, hb1, hb2, ⟨x0, x1⟩, ⟨y1, y2⟩, ⟨y3, y4⟩⟩ := HA.out.step sk (fun h => hlb h.symm) k hkl
        have hkI : (k : Int) < (len : Int) := by omega
        have hmI : (es.length : Int) < (most : Int) := by omega
        have hp1 := fun wx => pick_any (f k).1 n wx y1 y2 (by omega) (by omega)
        have hp2 := fun wx => pick_any (f k).2 n wx y3 y4 (by omega) (by omega)
        generalize (f k).1 = f1 at x0 hp1
        generalize (f k).2 = f2 at x1 hp2
        clear y1 y2 y3 y4
        go_wp2_with fail
        refine (hp1 _).mono ?_
        rintro e w2 ⟨u, hu, rfl, rfl⟩
        go_wp2_with fail
        refine (hp2 _).mono ?_
        rintro e w3 ⟨v, hv, rfl, rfl⟩
        clear hp1 hp2
        by_cases huv : u = v
        · subst huv
          have HN : Hid (Row w3 o' lb 42 4 (.slice av es.length cv) es.length (eev es) ∧ GrE n (k + 1) es ∧ Step (fun k => k = lb) w o w3 o') := ⟨R, G.mono (Nat.le_succ k), sk⟩
          clear R G sk
          go_wp2
          go_roundg (len + 1 - (k + 1))
          case measure => omega
          case rel => exact ⟨k + 1, es, o', by omega, rfl, by go_num, HN.out.1, hes, HN.out.2.1, HN.out.2.2⟩
        · have hne : ((u : Int) != (v : Int)) = true := by simp only [bne_iff_ne, ne_eq]; omega
          have G' : Hid (GrE n (k + 1) (es ++ [⟨10 + (k : Int), (u : Int), (v : Int), 0⟩])) := G.snoc hu hv huv
          clear G
          go_wp2_with (first | (at_builtin; refine wpList_append_lab rfl (.tmp 40) (.tmp 46) 22 rfl 42 ie (.agg #[.int .i64 0, .int .i64 0, .int .i64 0, .int .i64 0]) 4 32 Try.underlying22 hie hze0 hze1 hze2 rfl (by decide) o' lb _ es.length (eev es) rfl (R.step (allocStep (fun _ => False) _ o' _) (by simp)) ⟨w3.heap.size, 0, none⟩ 1 1 [.int .i64 (10 + (k : Int)), .int .i64 (u : Nat), .int .i64 (v : Nat), .int .i64 0] rfl rfl ?c1 ?c2 (by decide) ?c3 ?c4 ?_) | go_in)
          case c1 =>
            intro j u' hj
            match j, hj with
            | 0, hj => simp at hj; subst hj; simp [Addr.add]
            | 1, hj => simp at hj; subst hj; simp [Addr.add]
            | 2, hj => simp at hj; subst hj; simp [Addr.add]
            | 3, hj => simp at hj; subst hj; simp [Addr.add]
          case c2 => intro z hz; simp at hz; rcases hz with rfl | rfl | rfl | rfl <;> rfl
          case c3 => unfold maxLen; omega
          case c4 => omega
          intro g7 c7 w7 o7 r7 s7
          have HN : Hid (Row w7 o7 lb 42 4 (.slice (some ⟨g7, 0, none⟩) (es.length + 1) c7) (es ++ [(⟨10 + (k : Int), (u : Int), (v : Int), 0⟩ : EdT)]).length (eev (es ++ [(⟨10 + (k : Int), (u : Int), (v : Int), 0⟩ : EdT)])) ∧ Step (fun k => k = lb) w o w7 o7) := by
            refine ⟨?_, sk.trans ((allocStep _ w3 o' _).trans s7)⟩
            rw [List.length_append, eev_append]; exact r7
          clear r7 s7 R sk
          go_wp2
          go_roundg (len + 1 - (k + 1))
          case measure => omega
          case rel => exact ⟨k + 1, _, o7, by omega, rfl, by go_num, HN.out.1, by simp; omega, G'.out, HN.out.2⟩
      · have hkI : (k : Int) < (len : Int) := by omega
        have hmI : ¬ ((es.length : Int) < (most : Int)) := by omega
        have HN : Hid (Row wr o' lb 42 4 (.slice av es.length cv) es.length (eev es) ∧ GrE n len es ∧ Step (fun k => k = lb) w o wr o') := ⟨R, G.mono hk, sk⟩
        clear R G sk
        go_wp2
        go_ret
        exact ⟨_, es, o', rfl, HN.out.1, hes, HN.out.2.1, HN.out.2.2⟩
    · have hkI : ¬ ((k : Int) < (len : Int)) := by omega
      have HN : Hid (Row wr o' lb 42 4 (.slice av es.length cv) es.length (eev es) ∧ GrE n len es ∧ Step (fun k => k = lb) w o wr o') := ⟨R, G.mono hk, sk⟩
      clear R G sk
      go_wp2
      go_ret
      exact ⟨_, es, o', rfl, HN.out.1, hes, HN.out.2.1, HN.out.2.2⟩
end Go.Proofs.Ytkhjodihlkfkdaa

/- A script that came in: what its cells hold; what its calls answer. -/
import Derived.Test.YthnocaiehhcdeaaTold
import Derived.Test.YthnocaiehhcdeaaOneSeq
namespace Go.Proofs.Ythnocaiehhcdeaa
open Go.ChangeShapes Go.WideShapes Go.ChangeAt Go.RowKit
set_option linter.unusedVariables false

/-- A script that came in, only read. -/
def ArgOps (w : World) (o : Nat → Nat) (ao : Option Addr) (len : Nat) (f : Nat → OpR) : Prop :=
  ∀ j, j < len → ∃ b off, ao = some ⟨b, off, none⟩ ∧ b < w.heap.size ∧ o b = 0 ∧ w.cell? ⟨b, off + j * 7, none⟩ = some (.int .i64 (f j).kd) ∧ w.cell? ⟨b, off + j * 7 + 1, none⟩ = some (.int .i64 (f j).a) ∧ w.cell? ⟨b, off + j * 7 + 2, none⟩ = some (.int .i64 (f j).b) ∧ w.cell? ⟨b, off + j * 7 + 3, none⟩ = some (.int .i64 (f j).v) ∧ w.cell? ⟨b, off + j * 7 + 4, none⟩ = some (.bool (f j).c) ∧ w.cell? ⟨b, off + j * 7 + 5, none⟩ = some (.int .i64 (f j).f) ∧ w.cell? ⟨b, off + j * 7 + 6, none⟩ = some (.bool (f j).ot)
theorem ArgOps.step {I : Nat → Prop} {w w' : World} {o o' : Nat → Nat} {ao : Option Addr} {len : Nat} {f : Nat → OpR} (h : ArgOps w o ao len f) (s : Step I w o w' o') (hi : ¬ I 0) : ArgOps w' o' ao len f := by
  intro j hj
  obtain ⟨b, off, h1, h2, h3, c0, c1, c2, c3, c4, c5, c6⟩ := h j hj
  have hc := fun k => s.cell h2 (by rw [h3]; exact hi) k
  exact ⟨b, off, h1, Nat.lt_of_lt_of_le h2 s.size, (s.lab b h2).trans h3, (hc _).trans c0, (hc _).trans c1, (hc _).trans c2, (hc _).trans c3, (hc _).trans c4, (hc _).trans c5, (hc _).trans c6⟩

theorem toldSpec {w0 : World} {o0' : Nat → Nat} {L0 p0 room : Nat} {s : Sta} (F0 : FoS w0 o0' L0 p0 room s) (q : OpR) : ∃ (r1 r2 : Int) (t : Sta), Told room s q true r1 r2 t := by
  by_cases h3 : q.kd = 3
  · obtain ⟨y, r, h⟩ := getSpec F0 q.a; exact ⟨_, _, _, told3_true q y r h3 h⟩
  by_cases h7 : q.kd = 7
  · obtain ⟨y, r, h⟩ := sameSpec F0 q.a q.b; exact ⟨_, _, _, told7_true q y r h7 h⟩
  by_cases h8 : q.kd = 8
  · obtain ⟨y, r, h⟩ := rankSpec F0 q.a; exact ⟨_, _, _, told8_true q y r h8 h⟩
  by_cases h9 : q.kd = 9
  · obtain ⟨y, r, h⟩ := atSpec F0 q.a q.b; exact ⟨_, _, _, told9_true q y r h9 h⟩
  by_cases h10 : q.kd = 10
  · obtain ⟨y, r, h⟩ := sumSpec F0 q.a; exact ⟨_, _, _, told10_true q y r h10 h⟩
  by_cases h11 : q.kd = 11
  · obtain ⟨y, r, h⟩ := flagSpec F0 q.a q.b; exact ⟨_, _, _, told11_true q y r h11 h⟩
  by_cases h1 : q.kd = 1
  · obtain ⟨m, r, t, h⟩ := makeSpec F0 q.v q.c q.f; exact ⟨_, _, _, told1_true q m r h1 h⟩
  by_cases h2 : q.kd = 2
  · obtain ⟨r, t, h⟩ := freeSpec F0 q.a; exact ⟨_, _, _, told2_true q r h2 h⟩
  by_cases h4 : q.kd = 4
  · obtain ⟨r, t, h⟩ := setSpec F0 q.a q.v q.c q.f; exact ⟨_, _, _, told4_true q r h4 h⟩
  by_cases h5 : q.kd = 5
  · obtain ⟨r, t, h⟩ := joinSpec F0 q.a q.b; exact ⟨_, _, _, told5_true q r h5 h⟩
  by_cases h6 : q.kd = 6
  · obtain ⟨r, t, h⟩ := splitSpec F0 q.a; exact ⟨_, _, _, told6_true q r h6 h⟩
  exact ⟨0, 0, s, toldNo_true q ⟨h3, h7, h8, h9, h10, h11, h1, h2, h4, h5, h6⟩⟩
theorem toldQuiet {w0 : World} {o0' : Nat → Nat} {L0 p0 room : Nat} {s : Sta} (F0 : FoS w0 o0' L0 p0 room s) (q : OpR) : ∃ (r1 r2 : Int), Told room s q false r1 r2 s := by
  by_cases h3 : q.kd = 3
  · obtain ⟨y, r, h⟩ := getSpec F0 q.a; exact ⟨_, _, told3_false q y r h3 h⟩
  by_cases h7 : q.kd = 7
  · obtain ⟨y, r, h⟩ := sameSpec F0 q.a q.b; exact ⟨_, _, told7_false q y r h7 h⟩
  by_cases h8 : q.kd = 8
  · obtain ⟨y, r, h⟩ := rankSpec F0 q.a; exact ⟨_, _, told8_false q y r h8 h⟩
  by_cases h9 : q.kd = 9
  · obtain ⟨y, r, h⟩ := atSpec F0 q.a q.b; exact ⟨_, _, told9_false q y r h9 h⟩
  by_cases h10 : q.kd = 10
  · obtain ⟨y, r, h⟩ := sumSpec F0 q.a; exact ⟨_, _, told10_false q y r h10 h⟩
  by_cases h11 : q.kd = 11
  · obtain ⟨y, r, h⟩ := flagSpec F0 q.a q.b; exact ⟨_, _, told11_false q y r h11 h⟩
  exact ⟨0, 0, toldNo_false q ⟨h3, h7, h8, h9, h10, h11⟩⟩
theorem Vw.nought (w : World) (o : Nat → Nat) (i : Nat) : Vw w o i (.slice none 0 0) [] := ⟨Option.none, 0, rfl, by simp, by unfold maxLen; omega, fun h => by simp at h⟩
theorem allSpec {w0 : World} {o0' : Nat → Nat} {L0 p0 room : Nat} {s : Sta} (F0 : FoS w0 o0' L0 p0 room s) (x : Int) : ∃ (xs : List Nat) (r : Int), xs.length ≤ 1024 ∧ ∀ w o L p lb, ¬ FL L lb → FoS w o L p room s → Calls Try.prog 32 #[.pointer (some ⟨p, 0, none⟩), .int .i64 x] w fun e w' => ∃ va o', e = .returned (.tuple #[va, .int .i64 r]) ∧ Vw w' o' lb va xs ∧ FoS w' o' L p room s ∧ Step (fun k => FL L k ∨ k = lb) w o w' o' := by
  by_cases hb : hasB s.n s.free x = true
  · obtain ⟨h, rfl, hl⟩ := Live.of hb
    refine ⟨s.S h, 0, Fo.len F0 hl, fun w o L p lb hlb F => ?_⟩
    refine (allInF w o L p room s.n lb s.free s.it s.S h F hl hlb).mono ?_
    rintro e w' ⟨va, o', rfl, R, F', S'⟩
    exact ⟨va, o', rfl, R.vw, F', S'⟩
  · refine ⟨[], 31, by simp, fun w o L p lb hlb F => ?_⟩
    refine (allOutF w o L p room s.n s.free s.it s.S x F (by simpa using hb)).mono ?_
    rintro e w' ⟨rfl, rfl⟩
    exact ⟨_, o, rfl, Vw.nought _ _ _, F, Step.refl _ _ _⟩

end Go.Proofs.Ythnocaiehhcdeaa

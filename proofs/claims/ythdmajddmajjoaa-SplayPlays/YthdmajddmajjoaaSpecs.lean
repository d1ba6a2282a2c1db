/- Of each call: what it answers hangs on the plain state alone, not on the memory or on how the trees stand. -/
import Derived.Test.YthdmajddmajjoaaLaw
import Derived.Test.YthdmajddmajjoaaSetF
import Derived.Test.YthdmajddmajjoaaCut
import Derived.Test.YthdmajddmajjoaaFree
import Derived.Test.YthdmajddmajjoaaMake2
namespace Go.Proofs.Ythdmajddmajjoaa
open Go.ChangeShapes Go.WideShapes Go.ChangeAt Go.RowKit
set_option linter.unusedVariables false

/-- A forest's plain state. -/
structure Sta where
  n : Nat
  free : List Nat
  it : Nat → It
  S : Nat → List Nat
def FoS (w : World) (o : Nat → Nat) (L p room : Nat) (s : Sta) : Prop := Fo w o L p room s.n s.free s.it s.S
theorem FoS.quiet {w w' : World} {o o' : Nat → Nat} {L p room : Nat} {s : Sta} (h : FoS w o L p room s) (st : Step (fun _ => False) w o w' o') : FoS w' o' L p room s := Fo.quiet h st
theorem FoS.step {I : Nat → Prop} {w w' : World} {o o' : Nat → Nat} {L p room : Nat} {s : Sta} (h : FoS w o L p room s) (st : Step I w o w' o') (hi : ∀ k, FL L k → ¬ I k) : FoS w' o' L p room s := Fo.step h st hi
/-- A call answers e, and leaves the state t, whatever the memory. -/
def Acts (room : Nat) (s : Sta) (fn : FuncId) (args : Nat → Array Value) (v : Value) (t : Sta) : Prop :=
  ∀ w o L p, FoS w o L p room s → Calls Try.prog fn (args p) w fun e w' => e = .returned v ∧ ∃ o', FoS w' o' L p room t ∧ Step (FL L) w o w' o'
theorem Step.ffs {L : Nat} {w w' : World} {o o' : Nat → Nat} (s : Step (fun _ => False) w o w' o') : Step (FL L) w o w' o' := s.ff

def pv (p : Nat) : Value := .pointer (some ⟨p, 0, none⟩)
theorem quietAct {room : Nat} {s : Sta} {fn : FuncId} {args : Nat → Array Value} {v : Value} (h : ∀ w o L p, FoS w o L p room s → Calls Try.prog fn (args p) w fun e w' => e = .returned v ∧ Step (fun _ => False) w o w' o) : Acts room s fn args v s := fun w o L p F => by
  refine (h w o L p F).mono ?_
  rintro e w' ⟨rfl, st⟩
  exact ⟨rfl, o, F.quiet st, st.ff⟩
theorem stillAct {room : Nat} {s : Sta} {fn : FuncId} {args : Nat → Array Value} {v : Value} (h : ∀ w o L p, FoS w o L p room s → Calls Try.prog fn (args p) w fun e w' => e = .returned v ∧ w' = w) : Acts room s fn args v s := fun w o L p F => by
  refine (h w o L p F).mono ?_
  rintro e w' ⟨rfl, rfl⟩
  exact ⟨rfl, o, F, Step.refl _ _ _⟩

theorem getSpec {w0 : World} {o0' : Nat → Nat} {L0 p0 room : Nat} {s : Sta} (F0 : FoS w0 o0' L0 p0 room s) (x : Int) : ∃ (y : It) (r : Int), Acts room s 25 (fun p => #[pv p, .int .i64 x]) (.tuple #[itemV y, .int .i64 r]) s := by
  by_cases hb : hasB s.n s.free x = true
  · obtain ⟨h, rfl, hl⟩ := Live.of hb
    exact ⟨s.it h, 0, quietAct fun w o L p F => getInF w o L p room s.n s.free s.it s.S h F hl⟩
  · exact ⟨⟨0, false, 0⟩, 31, quietAct fun w o L p F => getOutF w o L p room s.n s.free s.it s.S x F (by simpa using hb)⟩
theorem sumSpec {w0 : World} {o0' : Nat → Nat} {L0 p0 room : Nat} {s : Sta} (F0 : FoS w0 o0' L0 p0 room s) (x : Int) : ∃ (G : Ag) (r : Int), Acts room s 12 (fun p => #[pv p, .int .i64 x]) (.tuple #[aggV G, .int .i64 r]) s := by
  by_cases hb : hasB s.n s.free x = true
  · obtain ⟨h, rfl, hl⟩ := Live.of hb
    exact ⟨agg ((s.S h).map s.it), 0, fun w o L p F => sumInF w o L p room s.n s.free s.it s.S h F hl⟩
  · exact ⟨Ag.zero, 31, quietAct fun w o L p F => sumOutF w o L p room s.n s.free s.it s.S x F (by simpa using hb)⟩
theorem sameSpec {w0 : World} {o0' : Nat → Nat} {L0 p0 room : Nat} {s : Sta} (F0 : FoS w0 o0' L0 p0 room s) (x y : Int) : ∃ (b : Bool) (r : Int), Acts room s 27 (fun p => #[pv p, .int .i64 x, .int .i64 y]) (.tuple #[.bool b, .int .i64 r]) s := by
  by_cases hb : hasB s.n s.free x = true
  · obtain ⟨h, rfl, hl⟩ := Live.of hb
    by_cases hb2 : hasB s.n s.free y = true
    · obtain ⟨h2, rfl, hl2⟩ := Live.of hb2
      exact ⟨_, 0, fun w o L p F => sameInF w o L p room s.n s.free s.it s.S h h2 F hl hl2⟩
    · exact ⟨false, 31, stillAct fun w o L p F => sameOutB w o L p room s.n s.free s.it s.S h y F hl (by simpa using hb2)⟩
  · exact ⟨false, 31, stillAct fun w o L p F => sameOutA w o L p room s.n s.free s.it s.S x y F (by simpa using hb)⟩
theorem rankSpec {w0 : World} {o0' : Nat → Nat} {L0 p0 room : Nat} {s : Sta} (F0 : FoS w0 o0' L0 p0 room s) (x : Int) : ∃ (m r : Int), Acts room s 13 (fun p => #[pv p, .int .i64 x]) (.tuple #[.int .i64 m, .int .i64 r]) s := by
  by_cases hb : hasB s.n s.free x = true
  · obtain ⟨h, rfl, hl⟩ := Live.of hb
    obtain ⟨A, B, hAB⟩ := List.append_of_mem (Fo.self F0 hl)
    exact ⟨(A.length : Nat), 0, fun w o L p F => rankInF w o L p room s.n s.free s.it s.S h A B F hl hAB⟩
  · exact ⟨0, 31, stillAct fun w o L p F => rankOutF w o L p room s.n s.free s.it s.S x F (by simpa using hb)⟩
theorem atSpec {w0 : World} {o0' : Nat → Nat} {L0 p0 room : Nat} {s : Sta} (F0 : FoS w0 o0' L0 p0 room s) (x k : Int) : ∃ (m r : Int), Acts room s 30 (fun p => #[pv p, .int .i64 x, .int .i64 k]) (.tuple #[.int .i64 m, .int .i64 r]) s := by
  by_cases hb : hasB s.n s.free x = true
  · obtain ⟨h, rfl, hl⟩ := Live.of hb
    by_cases hk : k < 0
    · exact ⟨0, 34, stillAct fun w o L p F => atNegF w o L p room s.n s.free s.it s.S h k F hl hk⟩
    · by_cases hk2 : ((s.S h).length : Int) ≤ k
      · exact ⟨0, 34, fun w o L p F => atBigF w o L p room s.n s.free s.it s.S h k F hl hk2⟩
      · obtain ⟨j, rfl⟩ : ∃ j : Nat, k = j := ⟨k.toNat, by omega⟩
        have hj : j < (s.S h).length := by omega
        exact ⟨((s.S h)[j] : Nat), 0, fun w o L p F => atInF w o L p room s.n s.free s.it s.S h j _ F hl (List.getElem?_eq_getElem hj)⟩
  · exact ⟨0, 31, stillAct fun w o L p F => atOutF w o L p room s.n s.free s.it s.S x k F (by simpa using hb)⟩
theorem first_of (P : Nat → Prop) (dec : ∀ k, P k ∨ ¬ P k) : ∀ l : List Nat, (∀ k ∈ l, ¬ P k) ∨ ∃ A b B, l = A ++ b :: B ∧ (∀ k ∈ A, ¬ P k) ∧ P b
  | [] => .inl (by simp)
  | a :: l => by
    rcases dec a with h | h
    · exact .inr ⟨[], a, l, rfl, by simp, h⟩
    · rcases first_of P dec l with h2 | ⟨A, b, B, e, h2, h3⟩
      · exact .inl (fun k hk => by rcases List.mem_cons.1 hk with rfl | hk; exact h; exact h2 k hk)
      · exact .inr ⟨a :: A, b, B, by rw [e]; rfl, fun k hk => by rcases List.mem_cons.1 hk with rfl | hk; exact h; exact h2 k hk, h3⟩
theorem flagSpec {w0 : World} {o0' : Nat → Nat} {L0 p0 room : Nat} {s : Sta} (F0 : FoS w0 o0' L0 p0 room s) (x f : Int) : ∃ (m r : Int), Acts room s 14 (fun p => #[pv p, .int .i64 x, .int .i64 f]) (.tuple #[.int .i64 m, .int .i64 r]) s := by
  by_cases hb : hasB s.n s.free x = true
  · obtain ⟨h, rfl, hl⟩ := Live.of hb
    by_cases hf : f < 0 ∨ 255 < f
    · exact ⟨0, 1, stillAct fun w o L p F => flagBadF w o L p room s.n s.free s.it s.S h f F hl hf⟩
    · obtain ⟨g, rfl⟩ : ∃ g : Nat, f = g := ⟨f.toNat, by omega⟩
      rcases first_of (fun k => (s.it k).f &&& g ≠ 0) (fun k => Classical.em _) (s.S h) with hn | ⟨A, b, B, e, hn, hb'⟩
      · exact ⟨0, 35, fun w o L p F => flagNoneF w o L p room s.n s.free s.it s.S h g F hl (by omega) (fun k hk => Classical.byContradiction (hn k hk))⟩
      · exact ⟨(b : Nat), 0, fun w o L p F => flagInF w o L p room s.n s.free s.it s.S h g b A B F hl (by omega) e (fun k hk => Classical.byContradiction (hn k hk)) hb'⟩
  · exact ⟨0, 31, stillAct fun w o L p F => flagOutF w o L p room s.n s.free s.it s.S x f F (by simpa using hb)⟩
theorem splitSpec {w0 : World} {o0' : Nat → Nat} {L0 p0 room : Nat} {s : Sta} (F0 : FoS w0 o0' L0 p0 room s) (x : Int) : ∃ (r : Int) (t : Sta), Acts room s 23 (fun p => #[pv p, .int .i64 x]) (.int .i64 r) t := by
  by_cases hb : hasB s.n s.free x = true
  · obtain ⟨h, rfl, hl⟩ := Live.of hb
    obtain ⟨A, B, hAB⟩ := List.append_of_mem (Fo.self F0 hl)
    exact ⟨0, ⟨s.n, s.free, s.it, splitS s.S A h B⟩, fun w o L p F => splitInF w o L p room s.n s.free s.it s.S h A B F hl hAB⟩
  · exact ⟨31, s, stillAct fun w o L p F => splitOutF w o L p room s.n s.free s.it s.S x F (by simpa using hb)⟩
theorem joinSpec {w0 : World} {o0' : Nat → Nat} {L0 p0 room : Nat} {s : Sta} (F0 : FoS w0 o0' L0 p0 room s) (x y : Int) : ∃ (r : Int) (t : Sta), Acts room s 11 (fun p => #[pv p, .int .i64 x, .int .i64 y]) (.int .i64 r) t := by
  by_cases hb : hasB s.n s.free x = true
  · obtain ⟨h, rfl, hl⟩ := Live.of hb
    by_cases hb2 : hasB s.n s.free y = true
    · obtain ⟨h2, rfl, hl2⟩ := Live.of hb2
      by_cases hs : s.S h = s.S h2
      · exact ⟨33, s, fun w o L p F => joinSameF w o L p room s.n s.free s.it s.S h h2 F hl hl2 hs⟩
      · exact ⟨0, ⟨s.n, s.free, s.it, joinS s.S h h2⟩, fun w o L p F => joinInF w o L p room s.n s.free s.it s.S h h2 F hl hl2 hs⟩
    · exact ⟨31, s, stillAct fun w o L p F => joinOutB w o L p room s.n s.free s.it s.S h y F hl (by simpa using hb2)⟩
  · exact ⟨31, s, stillAct fun w o L p F => joinOutA w o L p room s.n s.free s.it s.S x y F (by simpa using hb)⟩
theorem freeSpec {w0 : World} {o0' : Nat → Nat} {L0 p0 room : Nat} {s : Sta} (F0 : FoS w0 o0' L0 p0 room s) (x : Int) : ∃ (r : Int) (t : Sta), Acts room s 18 (fun p => #[pv p, .int .i64 x]) (.int .i64 r) t := by
  by_cases hb : hasB s.n s.free x = true
  · obtain ⟨h, rfl, hl⟩ := Live.of hb
    by_cases hs : s.S h = [h]
    · exact ⟨0, ⟨s.n, s.free ++ [h], s.it, s.S⟩, fun w o L p F => freeInF w o L p room s.n s.free s.it s.S h F hl hs⟩
    · exact ⟨32, s, stillAct fun w o L p F => freeBusyF w o L p room s.n s.free s.it s.S h F hl hs⟩
  · exact ⟨31, s, stillAct fun w o L p F => freeOutF w o L p room s.n s.free s.it s.S x F (by simpa using hb)⟩
theorem setSpec {w0 : World} {o0' : Nat → Nat} {L0 p0 room : Nat} {s : Sta} (F0 : FoS w0 o0' L0 p0 room s) (x v : Int) (c : Bool) (f : Int) : ∃ (r : Int) (t : Sta), Acts room s 20 (fun p => #[pv p, .int .i64 x, itemR v c f]) (.int .i64 r) t := by
  by_cases hb : hasB s.n s.free x = true
  · obtain ⟨h, rfl, hl⟩ := Live.of hb
    by_cases hm : mayB v f = true
    · obtain ⟨y, hy, _, _, _, e⟩ := mayB_it c hm
      rw [e]
      exact ⟨0, ⟨s.n, s.free, upd s.it h y, s.S⟩, fun w o L p F => setInF w o L p room s.n s.free s.it s.S h y F hl hy⟩
    · exact ⟨1, s, quietAct fun w o L p F => setBadF w o L p room s.n s.free s.it s.S h v c f F hl (by simpa using hm)⟩
  · exact ⟨31, s, quietAct fun w o L p F => setOutF w o L p room s.n s.free s.it s.S x v c f F (by simpa using hb)⟩
theorem makeSpec {w0 : World} {o0' : Nat → Nat} {L0 p0 room : Nat} {s : Sta} (F0 : FoS w0 o0' L0 p0 room s) (v : Int) (c : Bool) (f : Int) : ∃ (m r : Int) (t : Sta), Acts room s 10 (fun p => #[pv p, itemR v c f]) (.tuple #[.int .i64 m, .int .i64 r]) t := by
  by_cases hm : mayB v f = true
  · obtain ⟨y, hy, _, _, _, e⟩ := mayB_it c hm
    rw [e]
    have hwf : WF room s.n s.free := Fo.wf F0
    by_cases hfull : s.n - s.free.length = room
    · refine ⟨0, 30, s, fun w o L p F => ?_⟩
      refine (makeFullF w o L p room s.n s.free s.it s.S y F hy hfull).mono ?_
      rintro e w' ⟨rfl, o', st⟩
      exact ⟨rfl, o', F.quiet st, st.ff⟩
    · obtain ⟨n, free, it, S⟩ := s
      cases hr : free.reverse with
      | nil =>
        have hf : free = [] := by simpa using hr
        subst hf
        have hle : n ≤ room := hwf.le
        have hlt : n < room := by simp at hfull; omega
        exact ⟨(n + 1 : Nat), 0, ⟨n + 1, [], upd it (n + 1) y, upd S (n + 1) [n + 1]⟩, fun w o L p F => makePushF w o L p room n it S y F hy hlt⟩
      | cons a fs =>
        have hf : free = fs.reverse ++ [a] := by have := congrArg List.reverse hr; simpa using this
        have ha : 1 ≤ a := (hwf.mem a (by show a ∈ free; rw [hf]; simp)).1
        obtain ⟨k, rfl⟩ : ∃ k, a = k + 1 := ⟨a - 1, by omega⟩
        subst hf
        exact ⟨(k + 1 : Nat), 0, ⟨n, fs.reverse, upd it (k + 1) y, upd S (k + 1) [k + 1]⟩, fun w o L p F => makePopF w o L p room n fs.reverse k it S y F hy⟩
  · exact ⟨0, 1, s, quietAct fun w o L p F => makeBadF w o L p room s.n s.free s.it s.S v c f F (by simpa using hm)⟩

end Go.Proofs.Ythdmajddmajjoaa

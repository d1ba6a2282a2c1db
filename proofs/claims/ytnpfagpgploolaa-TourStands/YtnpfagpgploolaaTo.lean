/- Tours in memory: a struct, its forest, its vertices' nodes, its two maps; in plain terms: which step each node is, in which sequences they stand. No program. -/
import Derived.Test.YtnpfagpgploolaaTMap
import Derived.Test.YtnpfagpgploolaaAllF
import Derived.Test.YtnpfagpgploolaaCut
import Derived.Test.YtnpfagpgploolaaAt
import Derived.Test.YtnpfagpgploolaaJoin
import Derived.Test.YtnpfagpgploolaaFlag
import Derived.Test.YtnpfagpgploolaaFree
import Derived.Test.YtnpfagpgploolaaMake2
import Derived.Test.YtnpfagpgploolaaGetF
import Derived.Test.YtnpfagpgploolaaSetF
namespace Go.Proofs.Ytnpfagpgploolaa
open Go.ChangeShapes Go.WideShapes Go.ChangeAt Go.RowKit Go.Maps
set_option linter.unusedVariables false

/-- The labels of tours. -/
def TL (L : Nat) : Nat → Prop := fun k => L ≤ k ∧ k < L + 1110
theorem FL.tl {L k : Nat} (h : FL L k) : TL L k := ⟨h.1, by have := h.2; omega⟩
theorem Step.tl {L : Nat} {w w' : World} {o o' : Nat → Nat} (s : Step (FL L) w o w' o') : Step (TL L) w o w' o' := s.mono fun _ h => h.tl
theorem Step.tq {L : Nat} {w w' : World} {o o' : Nat → Nat} (s : Step (fun _ => False) w o w' o') : Step (TL L) w o w' o' := s.mono fun _ h => h.elim
theorem Step.t1 {L i : Nat} {w w' : World} {o o' : Nat → Nat} (s : Step (fun k => k = i) w o w' o') (h1 : L ≤ i) (h2 : i < L + 1110) : Step (TL L) w o w' o' := s.mono fun _ h => by rw [h]; exact ⟨h1, h2⟩

/-- The struct's block: it is never written behind New. -/
def Ts (w : World) (o : Nat → Nat) (L p n pf bs cap bm bg : Nat) : Prop :=
  Blk w o (L + 1100) p (.cells #[.pointer (some ⟨pf, 0, none⟩), .slice (some ⟨bs, 0, none⟩) n cap, .map (some bm), .map (some bg)] 72 (0, 0))
theorem Ts.step {I : Nat → Prop} {w w' : World} {o o' : Nat → Nat} {L p n pf bs cap bm bg : Nat} (h : Ts w o L p n pf bs cap bm bg) (s : Step I w o w' o') (hi : ¬ I (L + 1100)) : Ts w' o' L p n pf bs cap bm bg := Blk.step h s hi
theorem Ts.cells {w : World} {o : Nat → Nat} {L p n pf bs cap bm bg : Nat} (h : Ts w o L p n pf bs cap bm bg) :
    w.cell? ⟨p, 0, none⟩ = some (.pointer (some ⟨pf, 0, none⟩)) ∧ w.cell? ⟨p, 1, none⟩ = some (.slice (some ⟨bs, 0, none⟩) n cap) ∧ w.cell? ⟨p, 2, none⟩ = some (.map (some bm)) ∧ w.cell? ⟨p, 3, none⟩ = some (.map (some bg)) :=
  have c := Blk.cells4 h
  ⟨c.1, c.2.1, c.2.2.1, c.2.2.2.1⟩

/-- Tours' memory. N, free: which nodes live; it, S: their items and sequences; g: which step each is; f: a step's node (0: none); ms: how many steps; sts: the vertices' nodes. -/
def Tm (w : World) (o : Nat → Nat) (L p n N : Nat) (free : List Nat) (it : Nat → It) (S : Nat → List Nat) (g : Nat → Nat × Nat) (f : Nat → Nat → Nat) (ms : Nat) (sts : List Nat) : Prop :=
  ∃ pf bs cap bm bg, Ts w o L p n pf bs cap bm bg ∧ Fo w o L pf (n + 2 * (n - 1)) N free it S ∧ Row w o (L + 1101) 3 1 (.slice (some ⟨bs, 0, none⟩) n cap) n (intsL sts) ∧ StM w o (L + 1102) bm ms f ∧ GoM w o (L + 1103) bg (N - free.length) (Live N free) g
theorem Tm.step {I : Nat → Prop} {w w' : World} {o o' : Nat → Nat} {L p n N : Nat} {free : List Nat} {it : Nat → It} {S : Nat → List Nat} {g : Nat → Nat × Nat} {f : Nat → Nat → Nat} {ms : Nat} {sts : List Nat} (h : Tm w o L p n N free it S g f ms sts) (s : Step I w o w' o') (hi : ∀ k, TL L k → ¬ I k) : Tm w' o' L p n N free it S g f ms sts := by
  obtain ⟨pf, bs, cap, bm, bg, h1, h2, h3, h4, h5⟩ := h
  exact ⟨pf, bs, cap, bm, bg, h1.step s (hi _ ⟨by omega, by omega⟩), h2.step s (fun k hk => hi k hk.tl), h3.step s (hi _ ⟨by omega, by omega⟩), h4.step s (hi _ ⟨by omega, by omega⟩), h5.step s (hi _ ⟨by omega, by omega⟩)⟩
theorem Tm.quiet {w w' : World} {o o' : Nat → Nat} {L p n N : Nat} {free : List Nat} {it : Nat → It} {S : Nat → List Nat} {g : Nat → Nat × Nat} {f : Nat → Nat → Nat} {ms : Nat} {sts : List Nat} (h : Tm w o L p n N free it S g f ms sts) (s : Step (fun _ => False) w o w' o') : Tm w' o' L p n N free it S g f ms sts := h.step s (fun _ _ => id)
/-- A step of the forest alone. -/
theorem Tm.fo {w w' : World} {o o' : Nat → Nat} {L p n N pf bs cap bm bg : Nat} {free : List Nat} {it' : Nat → It} {S' : Nat → List Nat} {g : Nat → Nat × Nat} {f : Nat → Nat → Nat} {ms : Nat} {sts : List Nat}
    (h1 : Ts w o L p n pf bs cap bm bg) (h3 : Row w o (L + 1101) 3 1 (.slice (some ⟨bs, 0, none⟩) n cap) n (intsL sts)) (h4 : StM w o (L + 1102) bm ms f) (h5 : GoM w o (L + 1103) bg (N - free.length) (Live N free) g)
    (s : Step (FL L) w o w' o') (F : Fo w' o' L pf (n + 2 * (n - 1)) N free it' S') : Tm w' o' L p n N free it' S' g f ms sts :=
  have a : ∀ k, FL L k → k < L + 1100 := fun k hk => by have := hk.2; omega
  ⟨pf, bs, cap, bm, bg, h1.step s (fun h => by have := a _ h; omega), F, h3.step s (fun h => by have := a _ h; omega), h4.step s (fun h => by have := a _ h; omega), h5.step s (fun h => by have := a _ h; omega)⟩
theorem Tm.fo' {w w' : World} {o o' : Nat → Nat} {L p n N pf bs cap bm bg : Nat} {free : List Nat} {g : Nat → Nat × Nat} {f : Nat → Nat → Nat} {ms : Nat} {sts : List Nat}
    (h1 : Ts w o L p n pf bs cap bm bg) (h3 : Row w o (L + 1101) 3 1 (.slice (some ⟨bs, 0, none⟩) n cap) n (intsL sts)) (h4 : StM w o (L + 1102) bm ms f) (h5 : GoM w o (L + 1103) bg (N - free.length) (Live N free) g)
    (s : Step (FL L) w o w' o') : Ts w' o' L p n pf bs cap bm bg ∧ Row w' o' (L + 1101) 3 1 (.slice (some ⟨bs, 0, none⟩) n cap) n (intsL sts) ∧ StM w' o' (L + 1102) bm ms f ∧ GoM w' o' (L + 1103) bg (N - free.length) (Live N free) g :=
  have a : ∀ k, FL L k → k < L + 1100 := fun k hk => by have := hk.2; omega
  ⟨h1.step s (fun h => by have := a _ h; omega), h3.step s (fun h => by have := a _ h; omega), h4.step s (fun h => by have := a _ h; omega), h5.step s (fun h => by have := a _ h; omega)⟩

/-- What may be known of the plain state: each vertex' node, each step's. -/
structure Tp (n N : Nat) (free : List Nat) (S : Nat → List Nat) (g : Nat → Nat × Nat) (f : Nat → Nat → Nat) (ms : Nat) : Prop where
  pos : 1 ≤ n
  le : n ≤ 64
  stop : ∀ v, v < n → Live N free (v + 1) ∧ g (v + 1) = (v, v)
  rng : ∀ k, Live N free k → (g k).1 < n ∧ (g k).2 < n
  only : ∀ k, Live N free k → (g k).1 = (g k).2 → k = (g k).1 + 1
  edge : ∀ u v, u < 64 → v < 64 → f u v ≠ 0 → u ≠ v ∧ Live N free (f u v) ∧ g (f u v) = (u, v) ∧ f v u ≠ 0
  back : ∀ k, Live N free k → (g k).1 ≠ (g k).2 → f (g k).1 (g k).2 = k
  one : ∀ k, Live N free k → S k = S ((g k).1 + 1) ∧ S k = S ((g k).2 + 1)
  many : N - free.length = n + ms
/-- The vertices' nodes. -/
def stsOf (n : Nat) : List Nat := (List.range n).map (· + 1)
theorem stsOf_len (n : Nat) : (stsOf n).length = n := by simp [stsOf]
theorem stsOf_at {n v : Nat} (h : v < n) : (intsL (stsOf n))[v]? = some (.int .i64 (v + 1 : Nat)) := by simp [intsL, stsOf, h]
/-- Tours. -/
def To (w : World) (o : Nat → Nat) (L p n N : Nat) (free : List Nat) (it : Nat → It) (S : Nat → List Nat) (g : Nat → Nat × Nat) (f : Nat → Nat → Nat) (ms : Nat) : Prop := Tm w o L p n N free it S g f ms (stsOf n) ∧ Tp n N free S g f ms
theorem To.step {I : Nat → Prop} {w w' : World} {o o' : Nat → Nat} {L p n N : Nat} {free : List Nat} {it : Nat → It} {S : Nat → List Nat} {g : Nat → Nat × Nat} {f : Nat → Nat → Nat} {ms : Nat} (h : To w o L p n N free it S g f ms) (s : Step I w o w' o') (hi : ∀ k, TL L k → ¬ I k) : To w' o' L p n N free it S g f ms := ⟨h.1.step s hi, h.2⟩
theorem To.quiet {w w' : World} {o o' : Nat → Nat} {L p n N : Nat} {free : List Nat} {it : Nat → It} {S : Nat → List Nat} {g : Nat → Nat × Nat} {f : Nat → Nat → Nat} {ms : Nat} (h : To w o L p n N free it S g f ms) (s : Step (fun _ => False) w o w' o') : To w' o' L p n N free it S g f ms := h.step s (fun _ _ => id)

/-- Making a node where there is room: which handle comes, and who lives then. -/
theorem make_any (room N : Nat) (free : List Nat) (it : Nat → It) (S : Nat → List Nat) (x : It) (hx : x.may) (wf : WF room N free) (hroom : N - free.length < room) :
    ∃ h N' free', (¬ Live N free h) ∧ 1 ≤ h ∧ h ≤ N + 1 ∧ N ≤ N' ∧ (∀ j, Live N' free' j ↔ Live N free j ∨ j = h) ∧ N' - free'.length = N - free.length + 1 ∧ WF room N' free' ∧ (free = [] → h = N + 1 ∧ N' = N + 1 ∧ free' = []) ∧
      ∀ w o L p, Fo w o L p room N free it S → Calls Try.prog 58 #[.pointer (some ⟨p, 0, none⟩), itemV x] w fun e w' => e = .returned (.tuple #[.int .i64 h, .int .i64 0]) ∧ ∃ o', Fo w' o' L p room N' free' (upd it h x) (upd S h [h]) ∧ Step (FL L) w o w' o' := by
  rcases List.eq_nil_or_concat free with rfl | ⟨fs, a, rfl⟩
  · refine ⟨N + 1, N + 1, [], fun h => by have := h.2.1; omega, by omega, by omega, by omega, fun j => ?_, by simp, ⟨by simp, by simp, by simp at hroom; omega, wf.room⟩, fun _ => ⟨rfl, rfl, rfl⟩, fun w o L p F => makePushF w o L p room N it S x F hx (by simpa using hroom)⟩
    constructor
    · intro h; by_cases e : j = N + 1
      · exact .inr e
      · exact .inl ⟨h.1, by have := h.2.1; omega, by simp⟩
    · rintro (h | rfl)
      · exact ⟨h.1, by have := h.2.1; omega, by simp⟩
      · exact ⟨by omega, by omega, by simp⟩
  · rw [List.concat_eq_append] at *
    have ha := wf.mem a (by simp)
    obtain ⟨k, rfl⟩ : ∃ k, a = k + 1 := ⟨a - 1, by omega⟩
    have hnd := (List.nodup_append.1 wf.nodup)
    have hnf : k + 1 ∉ fs := fun hm => hnd.2.2 (k + 1) hm (k + 1) (by simp) rfl
    have hlen : (fs ++ [k + 1]).length ≤ N := len_le_of_nodup N _ wf.nodup (fun j hj => wf.mem j hj)
    refine ⟨k + 1, N, fs, fun h => h.2.2 (by simp), by omega, by omega, by omega, fun j => ?_, by simp at hlen ⊢; omega, ⟨hnd.1, fun j hj => wf.mem j (by simp [hj]), wf.le, wf.room⟩, fun e => by simp at e, fun w o L p F => makePopF w o L p room N fs k it S x F hx⟩
    constructor
    · intro h; by_cases e : j = k + 1
      · exact .inr e
      · exact .inl ⟨h.1, h.2.1, by simp [h.2.2, e]⟩
    · rintro (h | rfl)
      · exact ⟨h.1, h.2.1, fun hm => h.2.2 (by simp [hm])⟩
      · exact ⟨by omega, by omega, hnf⟩

/-- What is known of sequences. -/
structure Sq (N : Nat) (free : List Nat) (S : Nat → List Nat) : Prop where
  self : ∀ k, Live N free k → k ∈ S k
  mem : ∀ k, Live N free k → ∀ j ∈ S k, Live N free j ∧ S j = S k
  nodup : ∀ k, Live N free k → (S k).Nodup
theorem Fo.sq {w : World} {o : Nat → Nat} {L p room n : Nat} {free : List Nat} {it : Nat → It} {S : Nat → List Nat} (h : Fo w o L p room n free it S) : Sq n free S := ⟨fun k hk => h.self hk, fun k hk j hj => h.mem hk hj, fun k hk => h.nodup hk⟩
theorem Tm.sq {w : World} {o : Nat → Nat} {L p n N : Nat} {free : List Nat} {it : Nat → It} {S : Nat → List Nat} {g : Nat → Nat × Nat} {f : Nat → Nat → Nat} {ms : Nat} {sts : List Nat} (h : Tm w o L p n N free it S g f ms sts) : Sq N free S := by
  obtain ⟨pf, bs, cap, bm, bg, h1, h2, h3, h4, h5⟩ := h
  exact h2.sq
/-- Two sequences that are not one share no node. -/
theorem Sq.apart {N : Nat} {free : List Nat} {S : Nat → List Nat} (h : Sq N free S) {a b : Nat} (ha : Live N free a) (hb : Live N free b) (hne : S a ≠ S b) {k : Nat} (hk : k ∈ S a) : k ∉ S b := fun hk2 => hne ((h.mem a ha k hk).2.symm.trans (h.mem b hb k hk2).2)

end Go.Proofs.Ytnpfagpgploolaa

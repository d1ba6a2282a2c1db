/- Put on an arena of pairs, its ways told as one; the two ways of the law's invariant. -/
import Derived.Test.YtbcpifklnbaooaaKeepsParts
import Derived.Test.YtbcpifklnbaooaaKeepsMath
namespace Go.Proofs.Ytbcpifklnbaooaa
open Go.ChangeShapes Go.WideShapes Go.ChangeAt Go.RowKit
set_option linter.unusedVariables false

/-- What a Put that is taken does: the handle k + 1, not in use till then. -/
structure PutOK {α : Type} (n : Nat) (ts : List α) (free : List Nat) (x : α) (k n' : Nat) (ts' : List α) (free' : List Nat) : Prop where
  hold : k < n → useB free k = false
  hk : k < n'
  hn : n ≤ n'
  hts : ts'[k]? = some x
  hother : ∀ i, i ≠ k → i < n → ts'[i]? = ts[i]?
  huse : ∀ i, i < n' → i ≠ k → i < n ∧ useB free' i = useB free i
  hnew : useB free' k = true
  hcnt : n' - free'.length = n - free.length + 1

theorem PutOK.pop {α : Type} {room n : Nat} {ts : List α} {fs : List Nat} {k : Nat} (x : α) (hw : WF room n (fs ++ [k + 1])) (hl : ts.length = n) : PutOK n ts (fs ++ [k + 1]) x k n (ts.set k x) fs := by
  have h1 := hw.last
  have h2 := hw.free_le
  have h3 := hw.nodup
  rw [List.length_append, List.length_singleton] at h2
  refine ⟨fun _ => by simp [useB], by omega, Nat.le_refl _, by rw [List.getElem?_set, if_pos rfl, if_pos (by omega)], fun i hi _ => by rw [List.getElem?_set, if_neg (by omega)], fun i hi hne => ⟨hi, ?_⟩, ?_, ?_⟩
  · have : i + 1 ≠ k + 1 := by omega
    simp [useB, List.contains_eq_mem, hne]
  · have := (List.nodup_append.1 h3).2.2
    simp only [useB, Bool.not_eq_true', List.contains_eq_mem, decide_eq_false_iff_not]
    exact fun hm => this _ hm _ (by simp) rfl
  · rw [List.length_append, List.length_singleton]; omega
theorem PutOK.push {α : Type} {n : Nat} {ts : List α} (x : α) (hl : ts.length = n) : PutOK n ts [] x n (n + 1) (ts ++ [x]) [] := by
  refine ⟨fun h => by omega, by omega, by omega, by simp [← hl], fun i hi hin => by rw [List.getElem?_append_left (by omega)], fun i hi hne => ⟨by omega, rfl⟩, by simp [useB], by simp⟩

theorem flat2_len {TA E : Nat} {w : World} {o : Nat → Nat} {L p room n : Nat} {ts : List (Int × Int)} {free : List Nat} (h : Ar TA E 2 w o L p room n (flat2 ts) free) : ts.length = n := by
  obtain ⟨_, _, _, _, h1, _⟩ := h
  have := h1.len
  rw [flat2_length] at this
  omega

abbrev AP (w : World) (o : Nat → Nat) (L p room n : Nat) (ts : List (Int × Int)) (free : List Nat) : Prop := Ar 84 53 2 w o L p room n (flat2 ts) free

theorem putAnyArr (w : World) (o : Nat → Nat) (L p room n : Nat) (ts : List (Int × Int)) (free : List Nat) (a b : Int) (h : AP w o L p room n ts free) :
    Calls Try.prog 17 #[.pointer (some ⟨p, 0, none⟩), pr a b] w fun e w' => (n - free.length = room ∧ e = .returned (.tuple #[.int .i64 0, .int .i64 20]) ∧ Step (IL L) w o w' o ∧ AP w' o L p room n ts free) ∨
      ∃ k n' ts' free' o', e = .returned (.tuple #[.int .i64 (k + 1 : Nat), .int .i64 0]) ∧ AP w' o' L p room n' ts' free' ∧ Step (IL L) w o w' o' ∧ PutOK n ts free (a, b) k n' ts' free' := by
  have hl := flat2_len h
  by_cases hfull : n - free.length = room
  · refine (putFullArr w o L p room n _ free a b hfull h).mono ?_
    rintro e w' ⟨rfl, s⟩
    exact .inl ⟨hfull, rfl, s.mono (fun _ h => h.elim), h.step s (fun _ _ => id)⟩
  · rcases List.eq_nil_or_concat free with rfl | ⟨fs, q, rfl⟩
    · have hlt : n < room := by have := h.wf.le; simp at hfull; omega
      refine (putPushArr w o L p room n ts a b hlt h).mono ?_
      rintro e w' ⟨rfl, o', ha, s⟩
      exact .inr ⟨n, n + 1, _, _, o', rfl, ha, s, PutOK.push (a, b) hl⟩
    · rw [List.concat_eq_append] at h hfull ⊢
      obtain ⟨k, rfl⟩ : ∃ k, q = k + 1 := ⟨q - 1, by have := h.wf.last; omega⟩
      refine (putPopArr w o L p room n ts fs k a b h).mono ?_
      rintro e w' ⟨rfl, o', ha, s⟩
      exact .inr ⟨k, n, _, _, o', rfl, ha, s, PutOK.pop (a, b) h.wf hl⟩

theorem getD_snoc {α : Type} (l : List α) (x d : α) (i : Nat) : (l ++ [x]).getD i d = if i < l.length then l.getD i d else if i = l.length then x else d := by
  rw [List.getD_eq_getElem?_getD, List.getElem?_append]
  by_cases h : i < l.length
  · simp [h]
  · by_cases e : i = l.length
    · simp [e]
    · have : 0 < i - l.length := by omega
      simp [h, e, List.getElem?_eq_none (l := [x]) (i := i - l.length) (by simp; omega)]

/-- A pair is the same as itself. -/
theorem pair_eq_d (d : Nat) (a b : Int) (w : World) : (Op.equalIn (d + 1 + 1) 53 (.agg #[.int .i64 a, .int .i64 b]) (.agg #[.int .i64 a, .int .i64 b])).run Try.prog w = .ok true w := by
  obtain ⟨ii, hii, hzi0, hzi1, hzi2⟩ := info_parts infoInt
  have h1 := fun w => run_underlying (w := w) Try.underlying53
  have h3 : ∀ (x : Int) (w : World), (Op.equalIn (d + 1) 3 (.int .i64 x) (.int .i64 x)).run Try.prog w = .ok true w := fun x w => by
    rw [run_equalIn_int w d 3 .i64 .i64 x x Try.underlying3]; simp
  rw [Op.equalIn]
  simp only [Sem.run_bind, h1, Result.andThen_ok]
  have h4 : ∀ (w : World), (isAgg 3).run Try.prog w = .ok false w := fun w => by simp [isAgg, run_underlying (w := w) Try.underlying3]
  simp [sizeOf, typeInfo, hii, hzi1, part]
  rw [show List.range' 0 2 = [0, 1] from rfl]
  simp [h4, h3]

/-- Where the law's first loop stands: r rounds done. -/
def KSt (z : Nat → Int) (w : World) (room p r : Nat) (va vw : Value) (wr : World) : Prop :=
  ∃ o' n ts free at' what, AP wr o' 1 p room n ts free ∧ Row wr o' 5 3 1 va at'.length (intsL at') ∧ Row wr o' 6 3 1 vw at'.length (numsL what) ∧ what.length = at'.length ∧ at'.length ≤ r ∧ r ≤ 400 ∧
    KInv z r n ts free at'.length (fun i => at'.getD i 0) (fun i => what.getD i 0) ∧ Step Pos w o0 wr o'

end Go.Proofs.Ytbcpifklnbaooaa

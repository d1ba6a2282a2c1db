/- The document's own forest (isthmusref03) in memory; what its calls that ask answer. -/
import Derived.Test.YthdmajddmajjoaaRefA
namespace Go.Proofs.Ythdmajddmajjoaa
open Go.ChangeShapes Go.WideShapes Go.ChangeAt Go.RowKit
set_option linter.unusedVariables false

def itz : It := ⟨0, false, 0⟩
/-- The cells of items. -/
def itcells (l : List It) : List Value := l.flatMap fun x => [.int .i64 x.v, .bool x.c, .int .i64 (x.f : Nat)]
theorem itcells_at : ∀ (l : List It) (i : Nat) (h : i < l.length), (itcells l)[i * 3]? = some (.int .i64 (l[i]).v) ∧ (itcells l)[i * 3 + 1]? = some (.bool (l[i]).c) ∧ (itcells l)[i * 3 + 2]? = some (.int .i64 ((l[i]).f : Nat))
  | [], i, h => by cases h
  | p :: r, 0, h => ⟨rfl, rfl, rfl⟩
  | p :: r, i + 1, h => by
    have e : itcells (p :: r) = .int .i64 p.v :: .bool p.c :: .int .i64 (p.f : Nat) :: itcells r := rfl
    have e1 : (i + 1) * 3 = i * 3 + 1 + 1 + 1 := by omega
    have ih := itcells_at r i (by simpa using h)
    rw [e, e1]
    exact ih
/-- The labels of the document's forest. -/
def XL (R : Nat) : Nat → Prop := fun k => R ≤ k ∧ k < R + 7000000000000
/-- The document's forest, all told: M lists at most. -/
structure Rx (w : World) (o : Nat → Nat) (R q room n M : Nat) (free : List Nat) (it : Nat → It) (S : Nat → List Nat) (pa : Nat) (vi vn vl : Value) (its : List It) (inL : List Nat) (ls : List Value) (LL : List (List Nat)) : Prop where
  blk : Blk w o R q (.cells #[.pointer (some ⟨pa, 0, none⟩), vi, vn, vl] 62 (0, 0))
  ar : Rf w o (R + 1) pa room n free
  ri : Row w o (R + 4) 36 3 vi (n + 1) (itcells its)
  li : its.length = n + 1
  rn : Row w o (R + 5) 3 1 vn (n + 1) (intsL inL)
  ln : inL.length = n + 1
  rl : Row w o (R + 6) 60 1 vl LL.length ls
  ll : ls.length = LL.length
  rows : ∀ i, i < LL.length → Row w o (R + 10 + i) 3 1 (ls.getD i (.slice none 0 0)) (LL.getD i []).length (intsL (LL.getD i []))
  items : ∀ k, Live n free k → its.getD k itz = it k
  rp : RP (Live n free) S (fun k => inL.getD k 0) LL
  pl : Pl (Live n free) S
  small : n ≤ 1024
  many : LL.length ≤ M
  mny : M ≤ 5500000000000
theorem Rx.step {I : Nat → Prop} {w w' : World} {o o' : Nat → Nat} {R q room n M : Nat} {free : List Nat} {it : Nat → It} {S : Nat → List Nat} {pa : Nat} {vi vn vl : Value} {its : List It} {inL : List Nat} {ls : List Value} {LL : List (List Nat)}
    (h : Rx w o R q room n M free it S pa vi vn vl its inL ls LL) (s : Step I w o w' o') (hi : ∀ k, XL R k → ¬ I k) : Rx w' o' R q room n M free it S pa vi vn vl its inL ls LL := by
  have hm := h.many
  have hy := h.mny
  exact ⟨h.blk.step s (hi _ ⟨by omega, by omega⟩), h.ar.step s (fun k hk => hi _ ⟨by have := hk.1; omega, by have := hk.2; omega⟩), h.ri.step s (hi _ ⟨by omega, by omega⟩), h.li, h.rn.step s (hi _ ⟨by omega, by omega⟩), h.ln, h.rl.step s (hi _ ⟨by omega, by omega⟩), h.ll, fun i hl => (h.rows i hl).step s (hi _ ⟨by omega, by omega⟩), h.items, h.rp, h.pl, h.small, h.many, h.mny⟩
section
variable {w : World} {o : Nat → Nat} {R q room n M : Nat} {free : List Nat} {it : Nat → It} {S : Nat → List Nat} {pa : Nat} {vi vn vl : Value} {its : List It} {inL : List Nat} {ls : List Value} {LL : List (List Nat)}
theorem Rx.len (h : Rx w o R q room n M free it S pa vi vn vl its inL ls LL) {k : Nat} (hk : Live n free k) : (S k).length ≤ 1024 := by
  refine Nat.le_trans (len_le_of_nodup n (S k) (h.pl.nd k hk) (fun j hj => ?_)) h.small
  have := (h.pl.mem k hk j hj).1
  exact ⟨this.1, this.2.1⟩
theorem x_has (x : Int) (h : Rx w o R q room n M free it S pa vi vn vl its inL ls LL) :
    Calls Try.prog 48 #[.pointer (some ⟨q, 0, none⟩), .int .i64 x] w fun e w' => e = .returned (.bool (hasB n free x)) ∧ w' = w := by
  obtain ⟨c0, c1, c2, c3, hf⟩ := h.blk.cells4
  have ha := h.ar
  clear h
  go_enter Try.func48, Try.ntmps48
  go_wp2_with (go_at_call 62; refine (refHas _ o (R + 1) pa room n free x ha).mono ?_; rintro e w1 ⟨rfl, rfl⟩)
  go_ret
  exact ⟨rfl, rfl⟩
/-- Where a node's list lies. -/
theorem Rx.at (h : Rx w o R q room n M free it S pa vi vn vl its inL ls LL) {k : Nat} (hk : Live n free k) : ∃ gn cn gl cl : Nat, vn = .slice (some ⟨gn, 0, none⟩) (n + 1) cn ∧ vl = .slice (some ⟨gl, 0, none⟩) LL.length cl ∧ n + 1 ≤ cn ∧ cn ≤ 9223372036854775807 ∧ LL.length ≤ cl ∧ cl ≤ 9223372036854775807 ∧
    w.cell? ⟨gn, k, none⟩ = some (.int .i64 (inL.getD k 0 : Nat)) ∧ inL.getD k 0 < LL.length ∧ w.cell? ⟨gl, inL.getD k 0, none⟩ = some (ls.getD (inL.getD k 0) (.slice none 0 0)) ∧ LL.getD (inL.getD k 0) [] = S k := by
  obtain ⟨h1, h2⟩ := h.rp.own k hk
  obtain ⟨gn, cn, e1, _, a1, a2, _, a3, _⟩ := h.rn.pos (by omega)
  obtain ⟨gl, cl, e2, _, b1, b2, _, b3, _⟩ := h.rl.pos (by omega)
  have hln := h.ln
  have hll := h.ll
  unfold maxLen at a2 b2
  have hkn : k ≤ n := hk.2.1
  refine ⟨gn, cn, gl, cl, e1, e2, a1, a2, b1, b2, ?_, h1, ?_, h2⟩
  · rw [a3 k (by omega), intsL_get _ k (by omega)]
    simp [List.getD, List.getElem?_eq_getElem (show k < inL.length by omega)]
  · rw [b3 _ (by omega)]
    have hx : inL.getD k 0 < ls.length := by omega
    generalize inL.getD k 0 = ix at hx
    simp [List.getD, List.getElem?_eq_getElem hx]
theorem x_of (k : Nat) (h : Rx w o R q room n M free it S pa vi vn vl its inL ls LL) (hk : Live n free k) :
    Calls Try.prog 49 #[.pointer (some ⟨q, 0, none⟩), .int .i64 (k : Nat)] w fun e w' => e = .returned (ls.getD (inL.getD k 0) (.slice none 0 0)) ∧ ∃ m, w' = w.drewN m := by
  obtain ⟨c0, c1, c2, c3, hf⟩ := h.blk.cells4
  obtain ⟨gn, cn, gl, cl, rfl, rfl, a1, a2, b1, b2, d1, d2, d3, _⟩ := h.at hk
  have hkn : k ≤ n := hk.2.1
  have hkI : (k : Int) < (n : Int) + 1 := by omega
  generalize inL.getD k 0 = ix at *
  have hixI : (ix : Int) < (LL.length : Int) := by omega
  generalize ls.getD ix (.slice none 0 0) = vv at *
  generalize LL.length = nl at *
  clear h
  go_enter Try.func49, Try.ntmps49
  go_wp2
  go_quiet (fail)
  rename_i nq
  go_wp2
  go_ret
  exact ⟨rfl, nq, rfl⟩
end
end Go.Proofs.Ythdmajddmajjoaa

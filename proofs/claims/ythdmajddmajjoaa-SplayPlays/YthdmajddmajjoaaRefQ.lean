/- The document's own forest: Join. -/
import Derived.Test.YthdmajddmajjoaaRefP
namespace Go.Proofs.Ythdmajddmajjoaa
open Go.ChangeShapes Go.WideShapes Go.ChangeAt Go.RowKit
set_option linter.unusedVariables false
set_option linter.unusedSimpArgs false

theorem Pl.join {live : Nat → Prop} {S : Nat → List Nat} (p : Pl live S) {a b : Nat} (ha : live a) (hb : live b) (hne : S a ≠ S b) : Pl live (joinS S a b) := by
  have hab : ∀ k, k ∈ S a → k ∈ S b → False := fun k h1 h2 => hne ((p.mem a ha k h1).2.symm.trans (p.mem b hb k h2).2)
  have hin : ∀ k, k ∈ S a ∨ k ∈ S b → joinS S a b k = S a ++ S b := fun k hk => by unfold joinS; rw [if_pos hk]
  have hout : ∀ k, ¬ (k ∈ S a ∨ k ∈ S b) → joinS S a b k = S k := fun k hk => by unfold joinS; rw [if_neg hk]
  refine ⟨fun k hk => ?_, fun k hk j hj => ?_, fun k hk => ?_⟩
  · by_cases e : k ∈ S a ∨ k ∈ S b
    · rw [hin k e]; exact List.mem_append.2 e
    · rw [hout k e]; exact p.self k hk
  · by_cases e : k ∈ S a ∨ k ∈ S b
    · rw [hin k e] at hj ⊢
      have hj' := List.mem_append.1 hj
      exact ⟨hj'.elim (fun h => (p.mem a ha j h).1) (fun h => (p.mem b hb j h).1), hin j hj'⟩
    · rw [hout k e] at hj ⊢
      obtain ⟨h1, h2⟩ := p.mem k hk j hj
      refine ⟨h1, ?_⟩
      rw [hout j ?_]
      · exact h2
      · rintro (h3 | h3)
        · exact e (.inl (by rw [← (p.mem a ha j h3).2, h2]; exact p.self k hk))
        · exact e (.inr (by rw [← (p.mem b hb j h3).2, h2]; exact p.self k hk))
  · by_cases e : k ∈ S a ∨ k ∈ S b
    · rw [hin k e]
      exact List.nodup_append.2 ⟨p.nd a ha, p.nd b hb, fun x hx y hy exy => hab x hx (exy ▸ hy)⟩
    · rw [hout k e]; exact p.nd k hk
/-- In after the first j nodes of l were told: v. -/
def told (inL : List Nat) (l : List Nat) (v : Nat) : List Nat := l.foldl (fun x k => x.set k v) inL
theorem told_snoc (inL l : List Nat) (v k : Nat) : told inL (l ++ [k]) v = (told inL l v).set k v := by simp [told]
theorem told_length (v : Nat) : ∀ (l inL : List Nat), (told inL l v).length = inL.length
  | [], inL => rfl
  | k :: l, inL => by
    show (told (inL.set k v) l v).length = inL.length
    rw [told_length v l, List.length_set]
theorem told_get (v : Nat) : ∀ (l inL : List Nat) (j : Nat), (∀ k ∈ l, k < inL.length) → (told inL l v).getD j 0 = if j ∈ l then v else inL.getD j 0
  | [], inL, j, _ => by simp [told]
  | k :: l, inL, j, h => by
    show (told (inL.set k v) l v).getD j 0 = _
    rw [told_get v l _ j (fun x hx => by rw [List.length_set]; exact h x (by simp [hx]))]
    by_cases e : j ∈ l
    · rw [if_pos e, if_pos (by simp [e])]
    · rw [if_neg e]
      by_cases e2 : j = k
      · subst e2
        rw [getD_set_same _ _ _ _ (h j (by simp)), if_pos (by simp)]
      · rw [getD_set_other _ _ _ _ _ e2, if_neg (by simp [e, e2])]
section
variable {w : World} {o : Nat → Nat} {R q room n M : Nat} {free : List Nat} {it : Nat → It} {S : Nat → List Nat} {pa : Nat} {vi vn vl : Value} {its : List It} {inL : List Nat} {ls : List Value} {LL : List (List Nat)}
theorem x_join_out (x y : Int) (h : Rx w o R q room n M free it S pa vi vn vl its inL ls LL) (hb : hasB n free x = false ∨ hasB n free y = false) :
    Calls Try.prog 22 #[.pointer (some ⟨q, 0, none⟩), .int .i64 x, .int .i64 y] w fun e w' => e = .returned (.int .i64 31) ∧ Below w.heap.size w w' := by
  have c1 := x_has x h
  have c2 := x_has y h
  clear h
  generalize hasB n free x = p1 at *
  generalize hasB n free y = p2 at *
  cases p1 with
  | false =>
    go_enter Try.func22, Try.ntmps22
    go_wp2_with fail
    refine c1.mono ?_
    rintro e w1 ⟨rfl, rfl⟩
    go_wp2_with fail
    refine c2.mono ?_
    rintro e w2 ⟨rfl, rfl⟩
    go_wp2
    go_ret
    exact ⟨rfl, Below.refl _ _⟩
  | true =>
    obtain rfl : p2 = false := by simpa using hb
    go_enter Try.func22, Try.ntmps22
    go_wp2_with fail
    refine c1.mono ?_
    rintro e w1 ⟨rfl, rfl⟩
    go_wp2_with fail
    refine c2.mono ?_
    rintro e w2 ⟨rfl, rfl⟩
    go_wp2
    go_ret
    exact ⟨rfl, Below.refl _ _⟩
theorem x_join_same (a b : Nat) (h : Rx w o R q room n M free it S pa vi vn vl its inL ls LL) (ha : Live n free a) (hb : Live n free b) (hs : S a = S b) :
    Calls Try.prog 22 #[.pointer (some ⟨q, 0, none⟩), .int .i64 (a : Nat), .int .i64 (b : Nat)] w fun e w' => e = .returned (.int .i64 33) ∧ Below w.heap.size w w' := by
  have c1 := x_has (a : Int) h
  have c2 := x_has (b : Int) h
  rw [hasB_nat ha] at c1
  rw [hasB_nat hb] at c2
  obtain ⟨d0, d1, d2, d3, hf⟩ := h.blk.cells4
  obtain ⟨gn, cn, gl, cl, rfl, rfl, a1, a2, -, -, e1, -, -, -⟩ := h.at ha
  have e2 := h.cellN rfl hb.2.1
  have hi := (h.rp.same h.pl ha hb).2 hs
  have haI : (a : Int) < (n : Int) + 1 := by have := ha.2.1; omega
  have hbI : (b : Int) < (n : Int) + 1 := by have := hb.2.1; omega
  rw [← hi] at e2
  generalize inL.getD a 0 = ia at *
  clear h hi
  go_enter Try.func22, Try.ntmps22
  go_wp2_with fail
  refine c1.mono ?_
  rintro e w1 ⟨rfl, rfl⟩
  go_wp2_with fail
  refine c2.mono ?_
  rintro e w2 ⟨rfl, rfl⟩
  go_wp2
  go_ret
  exact ⟨rfl, Below.refl _ _⟩
end
end Go.Proofs.Ythdmajddmajjoaa

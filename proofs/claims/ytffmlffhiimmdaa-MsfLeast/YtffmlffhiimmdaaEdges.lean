/- The IDs of a path's edges, from above on. -/
import Derived.Test.YtffmlffhiimmdaaEvert
import Derived.Test.YtffmlffhiimmdaaArBase
namespace Go.Proofs.Ytffmlffhiimmdaa
open Go.ChangeShapes Go.WideShapes Go.ChangeAt Go.RowKit
set_option linter.unusedVariables false

theorem infoPN : (Try.prog.info? 87).map (fun i => (i.zero, i.size, i.bytes)) = some (some (.pointer none), 1, 8) := by kernel_rfl
theorem Gw.step {I : Nat → Prop} {w w' : World} {o o' : Nat → Nat} {L : Nat} {live : Nat → Prop} {pt : Nat → Nat} {E : Nat → Ed} {nd : Nat → Ln} {hv : Nat → Nat} {T S : Nat → List Nat} {P : Nat → Nat} (G : Gw w o L live pt E nd hv T S P) (s : Step I w o w' o') (hi : ∀ k, NL L k → ¬ I k) : Gw w' o' L live pt E nd hv T S P := ⟨G.m.step s G.s hi, G.s, G.c, G.v⟩
theorem Fg.step {I : Nat → Prop} {w w' : World} {o o' : Nat → Nat} {L : Nat} {live : Nat → Prop} {pt : Nat → Nat} {E : Nat → Ed} {R : Nat → List Nat} (F : Fg w o L live pt E R) (s : Step I w o w' o') (hi : ∀ k, NL L k → ¬ I k) : Fg w' o' L live pt E R := by
  obtain ⟨nd, hv, T, S, P, G, r⟩ := F
  exact ⟨nd, hv, T, S, P, G.step s hi, r⟩
/-- The IDs of a list's edges. -/
def idl (X : List Nat) : List Nat := (X.filter (fun k => k % 2 == 0)).map (fun k => (k - 2) / 2)
theorem idl_app (X Y : List Nat) : idl (X ++ Y) = idl X ++ idl Y := by simp [idl]
/-- What is left of the nodes that wait. -/
def rem (nd : Nat → Ln) (T : Nat → List Nat) : List Nat → List Nat
  | [] => []
  | h :: W => h :: T (nd h).r ++ rem nd T W
def ptrs (pt : Nat → Nat) (W : List Nat) : List Value := W.map fun h => .pointer (some ⟨pt h, 0, none⟩)
theorem ptrs_len (pt : Nat → Nat) (W : List Nat) : (ptrs pt W).length = W.length := by simp [ptrs]
theorem rem_len (nd : Nat → Ln) (T : Nat → List Nat) (W : List Nat) : W.length ≤ (rem nd T W).length := by
  induction W with
  | nil => simp [rem]
  | cons h W ih => simp [rem]; omega
theorem rem_mem (nd : Nat → Ln) (T : Nat → List Nat) (W : List Nat) {h : Nat} (m : h ∈ W) : h ∈ rem nd T W := by
  induction W with
  | nil => simp at m
  | cons x W ih =>
    rcases List.mem_cons.1 m with e | e
    · subst e; simp [rem]
    · simp [rem, ih e]
theorem rem_congr {nd nd' : Nat → Ln} {T T' : Nat → List Nat} (W : List Nat) (e : ∀ h ∈ W, T' (nd' h).r = T (nd h).r) : rem nd' T' W = rem nd T W := by
  induction W with
  | nil => rfl
  | cons h W ih => simp only [rem, e h (by simp), ih (fun x hx => e x (by simp [hx]))]
theorem small_len {live : Nat → Prop} (hs : Small live) (X : List Nat) (hn : X.Nodup) (hl : ∀ k ∈ X, live k) : X.length ≤ 3000000000000 :=
  len_le_of_nodup _ X hn fun k hk => by have := hs k (hl k hk); omega

end Go.Proofs.Ytffmlffhiimmdaa

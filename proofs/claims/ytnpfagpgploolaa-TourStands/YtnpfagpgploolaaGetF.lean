/- Get. -/
import Derived.Test.YtnpfagpgploolaaAsks
namespace Go.Proofs.Ytnpfagpgploolaa
open Go.ChangeShapes Go.WideShapes Go.ChangeAt Go.RowKit
set_option linter.unusedVariables false

theorem getOutF (w : World) (o : Nat → Nat) (L p room n : Nat) (free : List Nat) (it : Nat → It) (S : Nat → List Nat) (x : Int) (F : Fo w o L p room n free it S) (hb : hasB n free x = false) :
    Calls Try.prog 50 #[.pointer (some ⟨p, 0, none⟩), .int .i64 x] w fun e w' => e = .returned (.tuple #[itemV ⟨0, false, 0⟩, .int .i64 31]) ∧ Step (fun _ => False) w o w' o := by
  obtain ⟨pt, nd, T, F, H, e⟩ := F
  have hc := fun wx s => nodeOut wx o L p room n free pt nd x (F.quiet s) hb
  clear F H e
  go_enter Try.func50, Try.ntmps50
  go_wp2_with fail
  refine (hc _ (newB _ _ _)).mono ?_
  rintro e w1 ⟨rfl, rfl⟩
  go_wp2
  exact bodyPost_ret (v := .tuple #[itemV ⟨0, false, 0⟩, .int .i64 31]) (by simp [results, Try.results50, go_sem, itemV]) rfl ⟨rfl, newB _ _ _⟩

theorem getInF (w : World) (o : Nat → Nat) (L p room n : Nat) (free : List Nat) (it : Nat → It) (S : Nat → List Nat) (a : Nat) (F : Fo w o L p room n free it S) (hl : Live n free a) :
    Calls Try.prog 50 #[.pointer (some ⟨p, 0, none⟩), .int .i64 a] w fun e w' => e = .returned (.tuple #[itemV (it a), .int .i64 0]) ∧ Step (fun _ => False) w o w' o := by
  obtain ⟨pt, nd, T, F, H, e⟩ := F
  have hc := fun wx s => nodeIn wx o L p room n free pt nd a (F.quiet s) hl
  have hlt := (F.node hl).lt
  obtain ⟨⟨c0, c1, c2⟩, _, _, _, _, hf⟩ := (F.node hl).cells12
  rw [e a hl] at c0 c1 c2
  clear F H e
  go_enter Try.func50, Try.ntmps50
  go_wp2_with fail
  refine (hc _ (newB _ _ _)).mono ?_
  rintro e w1 ⟨rfl, rfl⟩
  go_wp2
  exact bodyPost_ret (v := .tuple #[itemV (it a), .int .i64 0]) (by simp [results, Try.results50, go_sem, itemV]) rfl ⟨rfl, newB _ _ _⟩


end Go.Proofs.Ytnpfagpgploolaa

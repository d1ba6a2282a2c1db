/- A node is hung at a side of another one. -/
import Derived.Test.YtnpfagpgploolaaNode
namespace Go.Proofs.Ytnpfagpgploolaa
open Go.ChangeShapes Go.WideShapes Go.ChangeAt Go.RowKit
set_option linter.unusedVariables false

def Nd.setCh (x : Nd) (s b : Nat) : Nd := if s = 0 then { x with l := b } else { x with r := b }
def Nd.setUp (x : Nd) (u : Nat) : Nd := { x with up := u }
def hangN (nd : Nat → Nd) (h s b : Nat) : Nat → Nd :=
  if b = 0 then upd nd h ((nd h).setCh s b) else upd (upd nd h ((nd h).setCh s b)) b (((upd nd h ((nd h).setCh s b)) b).setUp h)

theorem hang_any (w : World) (o : Nat → Nat) (L p room n : Nat) (free : List Nat) (pt : Nat → Nat) (nd : Nat → Nd) (h s b : Nat) (F : Fm w o L p room n free pt nd) (hl : Live n free h) (hs : s ≤ 1) (hb : b = 0 ∨ Live n free b) :
    Calls Try.prog 73 #[.pointer (some ⟨p, 0, none⟩), .int .i64 h, .int .i64 s, .int .i64 b] w fun e w' => e = .returned (.tuple #[]) ∧ Fm w' o L p room n free pt (hangN nd h s b) ∧ Step (NL L) w o w' o := by
  have hc := nodeIn w o L p room n free pt nd h F hl
  obtain ⟨_, c3, c4, c5, _, hf⟩ := (F.node hl).cells12
  have hcell : w.cell? ⟨pt h, 4 + s, none⟩ = some (.int .i64 (if s = 0 then (nd h).l else (nd h).r : Nat)) := by
    rcases (show s = 0 ∨ s = 1 by omega) with rfl | rfl
    · exact c4
    · exact c5
  obtain ⟨F1, S1⟩ := F.set hl (4 + s) (.int .i64 b) ((nd h).setCh s b) (by
    rcases (show s = 0 ∨ s = 1 by omega) with rfl | rfl <;> simp [Nd.cells, Nd.setCh])
  have hsi : (s : Int) < 2 := by omega
  rcases hb with rfl | hb
  · have e1 : hangN nd h s 0 = upd nd h ((nd h).setCh s 0) := by simp [hangN]
    rw [e1]
    have hc2 := nodeOut _ o L p room n free pt _ 0 F1 (has0 n free)
    clear F e1
    go_enter Try.func73, Try.ntmps73
    go_wp2_with fail
    refine hc.mono ?_
    rintro e w1 ⟨rfl, rfl⟩
    go_wp2_with fail
    refine hc2.mono ?_
    rintro e w2 ⟨rfl, rfl⟩
    go_wp2
    go_end0
    exact ⟨rfl, F1, S1⟩
  · have b0 : b ≠ 0 := by have := hb.1; omega
    have e1 : hangN nd h s b = upd (upd nd h ((nd h).setCh s b)) b (((upd nd h ((nd h).setCh s b)) b).setUp h) := by simp [hangN, b0]
    rw [e1]
    have hc2 := nodeIn _ o L p room n free pt _ b F1 hb
    obtain ⟨_, d3, d4, d5, _, hfd⟩ := (F1.node hb).cells12
    obtain ⟨F2, S2⟩ := F1.set hb 3 (.int .i64 h) (((upd nd h ((nd h).setCh s b)) b).setUp h) (by simp [Nd.cells, Nd.setUp])
    clear F e1 F1
    go_enter Try.func73, Try.ntmps73
    go_wp2_with fail
    refine hc.mono ?_
    rintro e w1 ⟨rfl, rfl⟩
    go_wp2_with fail
    refine hc2.mono ?_
    rintro e w2 ⟨rfl, rfl⟩
    go_wp2
    go_end0
    exact ⟨rfl, F2, S1.trans S2⟩

end Go.Proofs.Ytnpfagpgploolaa

/- What each law of package pack leans on: what the table of fields holds, how it stays, how a walk that only makes memory meets the row. -/
import Derived.Test.YtbpjpdnkebdanabDoorRows
import Derived.Test.YtbpjpdnkebdanabDoorMath
import Derived.WalkKit
import Derived.ProofKit
import Derived.OpenShut
import Derived.Deep.QuietTactic
import Derived.BigQuiet
import Derived.Lib.LaidTab
namespace Go.Proofs.YtbpjpdnkebdanabDoor
open Go.ChangeShapes Go.WideShapes Go.ChangeAt Go.RowKit
set_option linter.unusedVariables false

theorem own : ownKnob Tryd.prog.godebug = none := by kernel_rfl
theorem gTab : Tryd.prog.globalNamed "isthmus/pack.fields" = some 0 := by kernel_rfl
theorem gTabType : (Tryd.prog.globals[0]?).map (·.type) = some 44 := by kernel_rfl
theorem cellsTab : Tryd.prog.cellsOf 44 = 6 := by kernel_rfl
theorem cellsField : Tryd.prog.cellsOf 43 = 2 := by kernel_rfl
theorem cellsUint : Tryd.prog.cellsOf 37 = 1 := by kernel_rfl
theorem cellsUint64 : Tryd.prog.cellsOf 22 = 1 := by kernel_rfl

/-- The table's six cells. -/
def Tab (w : World) : Prop :=
  w.cell? ⟨0, 0, none⟩ = some (.int .u64 56) ∧ w.cell? ⟨0, 1, none⟩ = some (.int .u64 255) ∧ w.cell? ⟨0, 2, none⟩ = some (.int .u64 28) ∧
  w.cell? ⟨0, 3, none⟩ = some (.int .u64 268435455) ∧ w.cell? ⟨0, 4, none⟩ = some (.int .u64 0) ∧ w.cell? ⟨0, 5, none⟩ = some (.int .u64 268435455) ∧ 0 < w.heap.size

theorem Tab.below {w w' : World} (h : Tab w) (hb : Below w.heap.size w w') : Tab w' := by
  obtain ⟨h0, h1, h2, h3, h4, h5, hs⟩ := h
  refine ⟨?_, ?_, ?_, ?_, ?_, ?_, Nat.lt_of_lt_of_le hs hb.size⟩
  · exact (hb.cell (p := ⟨0, 0, none⟩) hs).trans h0
  · exact (hb.cell (p := ⟨0, 1, none⟩) hs).trans h1
  · exact (hb.cell (p := ⟨0, 2, none⟩) hs).trans h2
  · exact (hb.cell (p := ⟨0, 3, none⟩) hs).trans h3
  · exact (hb.cell (p := ⟨0, 4, none⟩) hs).trans h4
  · exact (hb.cell (p := ⟨0, 5, none⟩) hs).trans h5

theorem below_drewN (w : World) (n : Nat) : Below w.heap.size w (w.drewN n) := by
  have key : ∀ (n : Nat) (v : World), Below w.heap.size w v → Below w.heap.size w (v.drewN n) := by
    intro n
    induction n with
    | zero => intro v h; exact h
    | succ n ih => intro v h; exact (ih v h).drew
  exact key n w (Below.refl _ _)

/-- Two steps. -/
theorem bjoin {a b c : World} (h : Below a.heap.size a b) (k : Below b.heap.size b c) : Below a.heap.size a c := h.trans (k.mono h.size)

/-- The row's word on what is left, where a call has made memory and turned none. -/
theorem post_below {H : Type} {enc : TypeId × Value → H} {P : Program} {f : Func} {s : ChangeSpec} {W W' : World} {args : Array Value} {v : Value} {ds gs : List (DataW H)}
    (hW : DataW.Whole enc P f.params.toList s.vars false W args.toList ds gs [])
    (hres : ∀ (b : Nat) (sp : Nat → Bool) (hd : Bool), DataW.TrodAll enc P W' b sp hd f.resultTypes.toList (v.resultList f.resultTypes.size) (s.fn H (ds ++ gs)).results [])
    (hargs : ∀ sp : Nat → Bool, DataW.TrodAll enc P W' 0 sp true f.params.toList args.toList (s.fn H (ds ++ gs)).args [])
    (hvars : ∀ sp : Nat → Bool, DataW.TrodVars enc P W' sp s.vars (s.fn H (ds ++ gs)).vars [])
    (hb : Below W.heap.size W W') : s.post enc P f false true false false W args v W' :=
  ⟨ds, gs, [], [], [], [], hW, hres _ _ _, hargs _, hvars _, hb.frame _, fun h => by cases h⟩

theorem bd_u64 {a : Int} (h : (Lit.int .u64 a).wf = true) : 0 ≤ a ∧ a < 18446744073709551616 := by
  have h' : 0 ≤ a ∧ a ≤ 18446744073709551615 := by simpa [Lit.wf, IntKind.min, IntKind.max, IntKind.signed, IntKind.bits] using h
  omega
theorem bd_i64 {a : Int} (h : (Lit.int .i64 a).wf = true) : -9223372036854775808 ≤ a ∧ a ≤ 9223372036854775807 := by
  simpa [Lit.wf, IntKind.min, IntKind.max, IntKind.signed, IntKind.bits] using h

/-- A world for the witness: the settled one, the table holding what its initialiser lays. -/
def laidWorld (P : Program) (os : Os) : World :=
  { World.holding P os ⟨#[], #[], []⟩ with heap := (World.holding P os ⟨#[], #[], []⟩).heap.modify 0 fun
      | .cells _ t frozen => .cells #[.int .u64 56, .int .u64 255, .int .u64 28, .int .u64 268435455, .int .u64 0, .int .u64 268435455] t frozen
      | o => o }

end Go.Proofs.YtbpjpdnkebdanabDoor

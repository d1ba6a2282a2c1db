/- The first calls of the laws of package syntax. -/
import Derived.Test.YtfpmaeflmboalaaGreatDoorSynS
import Derived.Test.YtfpmaeflmboalaaGreatDoorSzJ
import Derived.Test.YtfpmaeflmboalaaGreatDoorGudM
namespace Go.Proofs.YtfpmaeflmboalaaGreatDoor
open Go.ChangeShapes Go.WideShapes Go.ChangeAt Go.RowKit
set_option linter.unusedVariables false
set_option linter.unusedSimpArgs false

/-- All that lies fast: tables, words, errors. -/
structure FixA (w : World) : Prop where
  fx : FixT w
  er : Ers w
theorem FixA.below {w w' : World} (h : FixA w) (b : Below w.heap.size w w') : FixA w' := ⟨h.fx.below b, h.er.below b⟩
theorem parse_a (s : ByteArray) (w : World) (FX : FixA w) (hs : s.size ≤ maxLen) : Calls Tryz.prog 7 #[.string s] w (PostR w (parseA s.data.toList)) :=
  parse_r s w FX.fx.fx.wd FX.er ⟨FX.fx.fx.tb.1, FX.fx.fx.tb.2.1, FX.fx.fx.tb.2.2⟩ hs
def awA : List UInt8 := [49, 45, 40, 50, 45, 51, 41]
def awB : List UInt8 := [97, 32, 61, 32, 98, 32, 61, 32, 99]
def awC : List UInt8 := [49, 32, 45, 32, 40, 50, 32, 45, 32, 51, 41]
theorem aw_one : (match parseA awA with | .ok x _ => writA x | _ => none) = some awC := by kernel_rfl
theorem aw_two : parseA awB = .bad 120 6 := by kernel_rfl
theorem aw_x : ∃ x t, parseA awA = .ok x t ∧ writA x = some awC := by
  have h := aw_one
  cases hp : parseA awA using Rs.on with
  | out => rw [hp] at h; cases h
  | bad e a => rw [hp] at h; cases h
  | ok x t => rw [hp] at h; exact ⟨x, t, rfl, h⟩
set_option maxRecDepth 100000 in
set_option maxHeartbeats 1000000 in
theorem awake_r (w : World) (FX : FixA w) : Calls Tryz.prog 5 #[] w fun e w' => e = .returned (.bool true) ∧ Below w.heap.size w w' := by
  obtain ⟨x, t, hx, hw⟩ := aw_x
  have hok := parse_okT hx
  have c1 := parse_a ⟨awA.toArray⟩ w FX (by decide)
  have e1 : (ByteArray.mk awA.toArray).data.toList = awA := by simp
  rw [e1, hx] at c1
  go_enter Tryz.func5, Tryz.ntmps5
  go_wp2_with fail
  refine c1.mono ?_
  rintro e w1 ⟨ao, cap, rfl, S1, b1⟩
  clear c1
  have b2 : Below w1.heap.size w1 (w1.alloc (.cells #[.int .i64 x.k, .int .i64 x.n, stv x.nm, .slice ao x.kids.len cap, .int .i64 x.a] 25)) := (Below.refl _ w1).alloc (Nat.le_refl _) _
  have X2 : (w1.alloc (.cells #[.int .i64 x.k, .int .i64 x.n, stv x.nm, .slice ao x.kids.len cap, .int .i64 x.a] 25)).heap[w1.heap.size]? = some (.cells #[.int .i64 x.k, .int .i64 x.n, stv x.nm, .slice ao x.kids.len cap, .int .i64 x.a] 25) := heap_alloc_new w1 _
  have B2 := b1.trans (b2.mono b1.size)
  have FX2 := (FX.below b1).below b2
  have S2 : SlT (w1.alloc (.cells #[.int .i64 x.k, .int .i64 x.n, stv x.nm, .slice ao x.kids.len cap, .int .i64 x.a] 25)) x.kids ao := SlT.below (Sl.all S1) b2
  rw [exV_out]
  go_upto_region 2 with fail
  generalize w1.alloc (.cells #[.int .i64 x.k, .int .i64 x.n, stv x.nm, .slice ao x.kids.len cap, .int .i64 x.a] 25) = w2 at *
  generalize w1.heap.size = bx at *
  have c3 := print_r x ao cap w2 hok.fit FX2.fx S2
  rw [hw, exV_out] at c3
  obtain ⟨p0, p1, p2, p3, p4, pf⟩ := box5 X2
  go_wp2_with fail
  refine c3.mono ?_
  rintro e w3 ⟨rfl, b3⟩
  clear c3 p0 p1 p2 p3 p4 pf
  have B3 := B2.trans (b3.mono B2.size)
  have FX3 := FX2.below b3
  simp only [Option.getD, Option.isSome, if_true]
  have c4 := parse_a ⟨awB.toArray⟩ w3 FX3 (by decide)
  have e4 : (ByteArray.mk awB.toArray).data.toList = awB := by simp
  rw [e4, aw_two] at c4
  go_upto_region 3 with fail
  go_wp2_with fail
  refine c4.mono ?_
  rintro e w4 ⟨rfl, b4⟩
  clear c4 e4
  have B4 := B3.trans (b4.mono B3.size)
  have B5 := B4.alloc B4.size (.cells #[.int .i64 0, .int .i64 0, .string ⟨#[]⟩, .slice none 0 0, .int .i64 0] 25)
  have eC : stv awC = .string ⟨#[49, 32, 45, 32, 40, 50, 32, 45, 32, 51, 41]⟩ := rfl
  rw [exV_out]
  simp only [noEx, Fs.len, eC]
  clear hw hx hok e1
  go_wp2
  go_ret
  exact ⟨rfl, B5⟩
end Go.Proofs.YtfpmaeflmboalaaGreatDoor

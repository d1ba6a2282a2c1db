/- Package lex: the token of a piece, or why it is none. -/
import Derived.Test.YtojleoionpnjpaaGreatDoorSynM
import Derived.Shelf.Strconv.ErrVarAll
import Derived.Ground.NamesProg
import Derived.Lib.OthersKept
namespace Go.Proofs.YtojleoionpnjpaaGreatDoor
open Go.ChangeShapes Go.WideShapes Go.ChangeAt Go.RowKit Go.Shelf
set_option linter.unusedVariables false

def atoiLay_ren : Go.Shelf.Ren := ⟨fun | 172 => 106 | 244 => 122 | 245 => 123 | 247 => 138 | 279 => 139 | 280 => 140 | 281 => 141 | 282 => 142 | 287 => 145 | 316 => 146 | 171 => 117 | 205 => 147 | 321 => 153 | 322 => 154 | 243 => 135 | 246 => 144 | 283 => 149 | 284 => 150 | 285 => 151 | 286 => 152 | 129 => 156 | 317 => 155 | 318 => 157 | 319 => 158 | 320 => 159 | 337 => 160 | 338 => 161 | n => n, fun | 9 => 9 | 3 => 3 | 75 => 122 | 76 => 123 | 4 => 4 | 5 => 5 | 167 => 149 | 37 => 87 | 0 => 0 | 85 => 150 | 2 => 2 | 168 => 152 | 53 => 156 | 175 => 157 | 46 => 159 | 210 => 161 | 127 => 170 | 145 => 173 | 143 => 171 | 21 => 21 | 171 => 164 | 173 => 167 | 212 => 175 | 51 => 176 | 20 => 20 | 213 => 177 | 232 => 180 | 233 => 181 | 80 => 182 | n => n, fun | 15 => 4 | 16 => 5 | 17 => 6 | 18 => 7 | 19 => 8 | n => n⟩
theorem atoiLay : Go.Proofs.LaysC.n172 Tryz.prog atoiLay_ren := {
  mixed := by kernel_rfl
  f129 := Tryz.func156.trans (congrArg some (by kernel_rfl))
  f171 := Tryz.func117.trans (congrArg some (by kernel_rfl))
  f172 := Tryz.func106.trans (congrArg some (by kernel_rfl))
  f205 := Tryz.func147.trans (congrArg some (by kernel_rfl))
  f243 := Tryz.func135.trans (congrArg some (by kernel_rfl))
  f244 := Tryz.func122.trans (congrArg some (by kernel_rfl))
  f245 := Tryz.func123.trans (congrArg some (by kernel_rfl))
  f246 := Tryz.func144.trans (congrArg some (by kernel_rfl))
  f247 := Tryz.func138.trans (congrArg some (by kernel_rfl))
  f279 := Tryz.func139.trans (congrArg some (by kernel_rfl))
  f280 := Tryz.func140.trans (congrArg some (by kernel_rfl))
  f281 := Tryz.func141.trans (congrArg some (by kernel_rfl))
  f282 := Tryz.func142.trans (congrArg some (by kernel_rfl))
  f283 := Tryz.func149.trans (congrArg some (by kernel_rfl))
  f284 := Tryz.func150.trans (congrArg some (by kernel_rfl))
  f285 := Tryz.func151.trans (congrArg some (by kernel_rfl))
  f286 := Tryz.func152.trans (congrArg some (by kernel_rfl))
  f287 := Tryz.func145.trans (congrArg some (by kernel_rfl))
  f316 := Tryz.func146.trans (congrArg some (by kernel_rfl))
  f317 := Tryz.func155.trans (congrArg some (by kernel_rfl))
  f318 := Tryz.func157.trans (congrArg some (by kernel_rfl))
  f319 := Tryz.func158.trans (congrArg some (by kernel_rfl))
  f320 := Tryz.func159.trans (congrArg some (by kernel_rfl))
  f321 := Tryz.func153.trans (congrArg some (by kernel_rfl))
  f322 := Tryz.func154.trans (congrArg some (by kernel_rfl))
  f337 := Tryz.func160.trans (congrArg some (by kernel_rfl))
  f338 := Tryz.func161.trans (congrArg some (by kernel_rfl))
  t0 := Tryz.underlying0
  a0 := Tryz.isAgg0
  z0 := Tryz.sizeOf0
  v0 := Tryz.zeroValue0
  t2 := Tryz.underlying2
  a2 := Tryz.isAgg2
  z2 := Tryz.sizeOf2
  v2 := Tryz.zeroValue2
  t3 := Tryz.underlying3
  a3 := Tryz.isAgg3
  z3 := Tryz.sizeOf3
  v3 := Tryz.zeroValue3
  t4 := Tryz.underlying4
  a4 := Tryz.isAgg4
  z4 := Tryz.sizeOf4
  v4 := Tryz.zeroValue4
  t5 := Tryz.underlying5
  a5 := Tryz.isAgg5
  z5 := Tryz.sizeOf5
  v5 := Tryz.zeroValue5
  t9 := Tryz.underlying9
  a9 := Tryz.isAgg9
  z9 := Tryz.sizeOf9
  v9 := Tryz.zeroValue9
  t20 := Tryz.underlying20
  a20 := Tryz.isAgg20
  z20 := Tryz.sizeOf20
  v20 := Tryz.zeroValue20
  t21 := Tryz.underlying21
  a21 := Tryz.isAgg21
  z21 := Tryz.sizeOf21
  v21 := Tryz.zeroValue21
  t37 := Tryz.underlying87
  a37 := Tryz.isAgg87
  z37 := Tryz.sizeOf87
  v37 := Tryz.zeroValue87
  t46 := Tryz.underlying159
  a46 := Tryz.isAgg159
  z46 := Tryz.sizeOf159
  v46 := Tryz.zeroValue159
  t51 := Tryz.underlying176
  a51 := Tryz.isAgg176
  z51 := Tryz.sizeOf176
  v51 := Tryz.zeroValue176
  t53 := Tryz.underlying156
  a53 := Tryz.isAgg156
  z53 := Tryz.sizeOf156
  v53 := Tryz.zeroValue156
  t75 := Tryz.underlying122
  a75 := Tryz.isAgg122
  z75 := Tryz.sizeOf122
  v75 := Tryz.zeroValue122
  t76 := Tryz.underlying123
  a76 := Tryz.isAgg123
  z76 := Tryz.sizeOf123
  v76 := Tryz.zeroValue123
  t85 := Tryz.underlying150
  a85 := Tryz.isAgg150
  z85 := Tryz.sizeOf150
  v85 := Tryz.zeroValue150
  t127 := Tryz.underlying170
  a127 := Tryz.isAgg170
  z127 := Tryz.sizeOf170
  v127 := Tryz.zeroValue170
  t143 := Tryz.underlying171
  a143 := Tryz.isAgg171
  z143 := Tryz.sizeOf171
  v143 := Tryz.zeroValue171
  t145 := Tryz.underlying173
  a145 := Tryz.isAgg173
  z145 := Tryz.sizeOf173
  v145 := Tryz.zeroValue173
  t167 := Tryz.underlying149
  a167 := Tryz.isAgg149
  z167 := Tryz.sizeOf149
  v167 := Tryz.zeroValue149
  t168 := Tryz.underlying152
  a168 := Tryz.isAgg152
  z168 := Tryz.sizeOf152
  v168 := Tryz.zeroValue152
  t171 := Tryz.underlying164
  a171 := Tryz.isAgg164
  z171 := Tryz.sizeOf164
  v171 := Tryz.zeroValue164
  t173 := Tryz.underlying167
  a173 := Tryz.isAgg167
  z173 := Tryz.sizeOf167
  v173 := Tryz.zeroValue167
  t175 := Tryz.underlying157
  a175 := Tryz.isAgg157
  z175 := Tryz.sizeOf157
  v175 := Tryz.zeroValue157
  t210 := Tryz.underlying161
  a210 := Tryz.isAgg161
  z210 := Tryz.sizeOf161
  v210 := Tryz.zeroValue161
  t212 := Tryz.underlying175
  a212 := Tryz.isAgg175
  z212 := Tryz.sizeOf175
  v212 := Tryz.zeroValue175
  t213 := Tryz.underlying177
  a213 := Tryz.isAgg177
  z213 := Tryz.sizeOf177
  t232 := Tryz.underlying180
  a232 := Tryz.isAgg180
  z232 := Tryz.sizeOf180
  v232 := Tryz.zeroValue180
  t233 := Tryz.underlying181
  a233 := Tryz.isAgg181
  z233 := Tryz.sizeOf181
  v233 := Tryz.zeroValue181
  g15 := by kernel_rfl
  g16 := by kernel_rfl
  g17 := by kernel_rfl
  g18 := by kernel_rfl
  g19 := by kernel_rfl
  t80 := Tryz.underlying182
  a80 := Tryz.isAgg182
  z80 := Tryz.sizeOf182
  v80 := Tryz.zeroValue182
  i0 := by kernel_rfl
  i2 := by kernel_rfl
  i3 := by kernel_rfl
  i4 := by kernel_rfl
  i5 := by kernel_rfl
  i9 := by kernel_rfl
  i20 := by kernel_rfl
  i21 := by kernel_rfl
  i37 := by kernel_rfl
  i46 := by kernel_rfl
  i51 := by kernel_rfl
  i53 := by kernel_rfl
  i75 := by kernel_rfl
  i76 := by kernel_rfl
  i80 := by kernel_rfl
  i85 := by kernel_rfl
  i127 := by kernel_rfl
  i143 := by kernel_rfl
  i145 := by kernel_rfl
  i167 := by kernel_rfl
  i168 := by kernel_rfl
  i171 := by kernel_rfl
  i173 := by kernel_rfl
  i175 := by kernel_rfl
  i210 := by kernel_rfl
  i212 := by kernel_rfl
  i232 := by kernel_rfl
  i233 := by kernel_rfl
  m15 := by kernel_rfl
  m16 := by kernel_rfl
  m17 := by kernel_rfl
  m18 := by kernel_rfl
  m19 := by kernel_rfl
  c0 := by kernel_rfl
  c2 := by kernel_rfl
  c3 := by kernel_rfl
  c4 := by kernel_rfl
  c5 := by kernel_rfl
  c9 := by kernel_rfl
  c20 := by kernel_rfl
  c21 := by kernel_rfl
  c37 := by kernel_rfl
  c46 := by kernel_rfl
  c51 := by kernel_rfl
  c53 := by kernel_rfl
  c75 := by kernel_rfl
  c76 := by kernel_rfl
  c80 := by kernel_rfl
  c85 := by kernel_rfl
  c127 := by kernel_rfl
  c143 := by kernel_rfl
  c145 := by kernel_rfl
  c167 := by kernel_rfl
  c168 := by kernel_rfl
  c171 := by kernel_rfl
  c173 := by kernel_rfl
  c175 := by kernel_rfl
  c210 := by kernel_rfl
  c212 := by kernel_rfl
  c213 := by kernel_rfl
  c232 := by kernel_rfl
  c233 := by kernel_rfl }

theorem gSyn : Tryz.prog.globalNamed "strconv.ErrSyntax" = some 4 := by kernel_rfl
theorem gRan : Tryz.prog.globalNamed "strconv.ErrRange" = some 5 := by kernel_rfl
/-- The two errors of the library lie where the program lays them, each an interface's value. -/
def Ers (w : World) : Prop := (∃ tp p, w.var? Tryz.prog "strconv.ErrSyntax" = some #[.iface tp p]) ∧ (∃ tp p, w.var? Tryz.prog "strconv.ErrRange" = some #[.iface tp p])
theorem var_below {w w' : World} {nm : String} {g : Nat} {cs : Array Value} (hg : Tryz.prog.globalNamed nm = some g) (h : w.var? Tryz.prog nm = some cs) (b : Below w.heap.size w w') : w'.var? Tryz.prog nm = some cs := by
  simp only [World.var?, hg, Option.bind_some] at h ⊢
  have hlt : g < w.heap.size := by
    by_cases hb : g < w.heap.size
    · exact hb
    · have h2 : w.heap[g]? = none := Array.getElem?_eq_none (by omega)
      rw [h2] at h
      cases h
  rw [b.block g hlt]
  exact h
theorem Ers.below {w w' : World} (h : Ers w) (b : Below w.heap.size w w') : Ers w' := by
  obtain ⟨⟨t1, p1, h1⟩, ⟨t2, p2, h2⟩⟩ := h
  exact ⟨⟨t1, p1, var_below gSyn h1 b⟩, ⟨t2, p2, var_below gRan h2 b⟩⟩
end Go.Proofs.YtojleoionpnjpaaGreatDoor
namespace Go.Proofs.YtojleoionpnjpaaGreatDoor
open Go.ChangeShapes Go.WideShapes Go.ChangeAt Go.RowKit
set_option linter.unusedVariables false

/-- The words of the language. -/
def wd (k : Nat) : ByteArray := ⟨(wordsL.getD k []).toArray⟩
def wordsA : Array Value := #[.string (wd 0), .string (wd 1), .string (wd 2), .string (wd 3), .string (wd 4), .string (wd 5), .string (wd 6), .string (wd 7), .string (wd 8), .string (wd 9), .string (wd 10), .string (wd 11), .string (wd 12), .string (wd 13), .string (wd 14), .string (wd 15), .string (wd 16), .string (wd 17), .string (wd 18), .string (wd 19), .string (wd 20), .string (wd 21), .string (wd 22), .string (wd 23), .string (wd 24), .string (wd 25), .string (wd 26)]
theorem wix0 (w : World) : (Instr.index 137 (.agg wordsA) (.int .i64 0)).run Tryz.prog w = .ok (.string (wd 0)) w := by kernel_rfl
theorem wix1 (w : World) : (Instr.index 137 (.agg wordsA) (.int .i64 1)).run Tryz.prog w = .ok (.string (wd 1)) w := by kernel_rfl
theorem wix2 (w : World) : (Instr.index 137 (.agg wordsA) (.int .i64 2)).run Tryz.prog w = .ok (.string (wd 2)) w := by kernel_rfl
theorem wix3 (w : World) : (Instr.index 137 (.agg wordsA) (.int .i64 3)).run Tryz.prog w = .ok (.string (wd 3)) w := by kernel_rfl
theorem wix4 (w : World) : (Instr.index 137 (.agg wordsA) (.int .i64 4)).run Tryz.prog w = .ok (.string (wd 4)) w := by kernel_rfl
theorem wix5 (w : World) : (Instr.index 137 (.agg wordsA) (.int .i64 5)).run Tryz.prog w = .ok (.string (wd 5)) w := by kernel_rfl
theorem wix6 (w : World) : (Instr.index 137 (.agg wordsA) (.int .i64 6)).run Tryz.prog w = .ok (.string (wd 6)) w := by kernel_rfl
theorem wix7 (w : World) : (Instr.index 137 (.agg wordsA) (.int .i64 7)).run Tryz.prog w = .ok (.string (wd 7)) w := by kernel_rfl
theorem wix8 (w : World) : (Instr.index 137 (.agg wordsA) (.int .i64 8)).run Tryz.prog w = .ok (.string (wd 8)) w := by kernel_rfl
theorem wix9 (w : World) : (Instr.index 137 (.agg wordsA) (.int .i64 9)).run Tryz.prog w = .ok (.string (wd 9)) w := by kernel_rfl
theorem wix10 (w : World) : (Instr.index 137 (.agg wordsA) (.int .i64 10)).run Tryz.prog w = .ok (.string (wd 10)) w := by kernel_rfl
theorem wix11 (w : World) : (Instr.index 137 (.agg wordsA) (.int .i64 11)).run Tryz.prog w = .ok (.string (wd 11)) w := by kernel_rfl
theorem wix12 (w : World) : (Instr.index 137 (.agg wordsA) (.int .i64 12)).run Tryz.prog w = .ok (.string (wd 12)) w := by kernel_rfl
theorem wix13 (w : World) : (Instr.index 137 (.agg wordsA) (.int .i64 13)).run Tryz.prog w = .ok (.string (wd 13)) w := by kernel_rfl
theorem wix14 (w : World) : (Instr.index 137 (.agg wordsA) (.int .i64 14)).run Tryz.prog w = .ok (.string (wd 14)) w := by kernel_rfl
theorem wix15 (w : World) : (Instr.index 137 (.agg wordsA) (.int .i64 15)).run Tryz.prog w = .ok (.string (wd 15)) w := by kernel_rfl
theorem wix16 (w : World) : (Instr.index 137 (.agg wordsA) (.int .i64 16)).run Tryz.prog w = .ok (.string (wd 16)) w := by kernel_rfl
theorem wix17 (w : World) : (Instr.index 137 (.agg wordsA) (.int .i64 17)).run Tryz.prog w = .ok (.string (wd 17)) w := by kernel_rfl
theorem wix18 (w : World) : (Instr.index 137 (.agg wordsA) (.int .i64 18)).run Tryz.prog w = .ok (.string (wd 18)) w := by kernel_rfl
theorem wix19 (w : World) : (Instr.index 137 (.agg wordsA) (.int .i64 19)).run Tryz.prog w = .ok (.string (wd 19)) w := by kernel_rfl
theorem wix20 (w : World) : (Instr.index 137 (.agg wordsA) (.int .i64 20)).run Tryz.prog w = .ok (.string (wd 20)) w := by kernel_rfl
theorem wix21 (w : World) : (Instr.index 137 (.agg wordsA) (.int .i64 21)).run Tryz.prog w = .ok (.string (wd 21)) w := by kernel_rfl
theorem wix22 (w : World) : (Instr.index 137 (.agg wordsA) (.int .i64 22)).run Tryz.prog w = .ok (.string (wd 22)) w := by kernel_rfl
theorem wix23 (w : World) : (Instr.index 137 (.agg wordsA) (.int .i64 23)).run Tryz.prog w = .ok (.string (wd 23)) w := by kernel_rfl
theorem wix24 (w : World) : (Instr.index 137 (.agg wordsA) (.int .i64 24)).run Tryz.prog w = .ok (.string (wd 24)) w := by kernel_rfl
theorem wix25 (w : World) : (Instr.index 137 (.agg wordsA) (.int .i64 25)).run Tryz.prog w = .ok (.string (wd 25)) w := by kernel_rfl
theorem wix26 (w : World) : (Instr.index 137 (.agg wordsA) (.int .i64 26)).run Tryz.prog w = .ok (.string (wd 26)) w := by kernel_rfl
theorem wordsA_at (k : Nat) (hk : k < 27) (w : World) : (Instr.index 137 (.agg wordsA) (.int .i64 (k : Nat))).run Tryz.prog w = .ok (.string (wd k)) w := by
  match k, hk with
  | 0, _ => exact wix0 w
  | 1, _ => exact wix1 w
  | 2, _ => exact wix2 w
  | 3, _ => exact wix3 w
  | 4, _ => exact wix4 w
  | 5, _ => exact wix5 w
  | 6, _ => exact wix6 w
  | 7, _ => exact wix7 w
  | 8, _ => exact wix8 w
  | 9, _ => exact wix9 w
  | 10, _ => exact wix10 w
  | 11, _ => exact wix11 w
  | 12, _ => exact wix12 w
  | 13, _ => exact wix13 w
  | 14, _ => exact wix14 w
  | 15, _ => exact wix15 w
  | 16, _ => exact wix16 w
  | 17, _ => exact wix17 w
  | 18, _ => exact wix18 w
  | 19, _ => exact wix19 w
  | 20, _ => exact wix20 w
  | 21, _ => exact wix21 w
  | 22, _ => exact wix22 w
  | 23, _ => exact wix23 w
  | 24, _ => exact wix24 w
  | 25, _ => exact wix25 w
  | 26, _ => exact wix26 w
  | n + 27, h => omega
/-- The table of words. -/
def Wd (w : World) : Prop := ∃ t fr, w.heap[1]? = some (.cells wordsA t fr)
theorem Wd.lt {w : World} (h : Wd w) : 1 < w.heap.size := by
  obtain ⟨t, fr, h⟩ := h
  exact lt_of_block h
theorem Wd.below {w w' : World} (h : Wd w) (b : Below w.heap.size w w') : Wd w' := by
  have hl := h.lt
  obtain ⟨t, fr, h⟩ := h
  exact ⟨t, fr, (b.block _ hl).trans h⟩
theorem wordB_yes {t : List UInt8} (k : Nat) (hk : k < 27) (h : t = wordsL.getD k []) : wordB t = true := by
  subst h
  have hl : wordsL.length = 27 := rfl
  unfold wordB
  rw [List.contains_iff_mem]
  simp only [List.getD, List.getElem?_eq_getElem (by omega : k < wordsL.length), Option.getD_some]
  exact List.getElem_mem _
theorem wordB_no {t : List UInt8} (h : ∀ k, k < 27 → ¬ t = wordsL.getD k []) : wordB t = false := by
  rw [← Bool.not_eq_true]
  unfold wordB
  rw [List.contains_iff_mem, List.mem_iff_getElem]
  rintro ⟨k, hk, e⟩
  have hl : wordsL.length = 27 := rfl
  refine h k (by omega) ?_
  simp only [List.getD, List.getElem?_eq_getElem hk, Option.getD_some]
  exact e.symm
theorem wordsInfo : (Tryz.prog.info? 137).map (·.size) = some wordsA.size := by kernel_rfl
set_option maxRecDepth 100000 in
theorem word_c (s : ByteArray) (w : World) (hW : Wd w) (hs : s.size ≤ maxLen) :
    Calls Tryz.prog 104 #[.string s] w fun e w' => e = .returned (.bool (wordB s.data.toList)) ∧ w' = w := by
  obtain ⟨tt, fr, hg⟩ := hW
  have IX : Hid (∀ k : Nat, k < 27 → (Instr.index 137 (.agg wordsA) (.int .i64 (k : Nat))).run Tryz.prog w = .ok (.string (wd k)) w) := fun k hk => wordsA_at k hk w
  have hsz := wordsInfo
  generalize wordsA = cs at *
  go_enter Tryz.func104, Tryz.ntmps104
  go_wp2_with (refine wpList_load_row rfl 137 _ rfl 1 rfl tt _ fr _ hg Tryz.underlying137 rfl hsz ?_)
  go_loopw [6] (fun v wr => ∃ k : Nat, k ≤ 27 ∧ v = .int .i64 (k : Nat) ∧ (∀ j, j < k → s ≠ wd j) ∧ wr = w) (fun v _ => 27 - (intOf v).toNat)
  case atStart => exact ⟨0, by omega, by go_num, fun j hj => by omega, rfl⟩
  case round =>
    obtain ⟨k, hk, rfl, hin, rfl⟩ := hrel
    by_cases hlt : k < 27
    · have ix := IX.out k hlt
      have hkI : (k : Int) < 27 := by omega
      by_cases he : s = wd k
      · have fin : wordB s.data.toList = true := wordB_yes k hlt (by rw [he]; rfl)
        rw [← he] at ix
        clear he IX
        go_wp2
        go_ret
        exact ⟨by rw [fin]; rfl, rfl⟩
      · have hin' : ∀ j, j < k + 1 → s ≠ wd j := fun j hj => by
          by_cases e : j = k
          · subst e; exact he
          · exact hin j (by omega)
        have heb := str_ne he
        generalize wd k = t at ix he heb
        clear IX hin
        go_wp2
        go_roundw
        case rel => (try ((repeat apply Exists.intro); refine ⟨?_, rfl⟩)); exact ⟨k + 1, by omega, by go_num, hin', by trivial⟩
        case measure => simp [intOf]; omega
    · obtain rfl : k = 27 := by omega
      clear IX
      have fin : wordB s.data.toList = false := wordB_no fun j hj e => hin j hj (bytes_eq.1 (by rw [e]; rfl))
      go_wp2
      go_ret
      exact ⟨by rw [fin]; rfl, rfl⟩
/-- A byte that may stand at a place of a name. -/
def nmc (j : Nat) (c : UInt8) : Bool := sml c.toNat || (j != 0 && (dig c.toNat || c.toNat == 95))
theorem nameB_iff (l : List UInt8) : nameB l = true ↔ 0 < l.length ∧ l.length ≤ 12 ∧ (∀ j (h : j < l.length), nmc j l[j] = true) ∧ wordB l = false := by
  cases l with
  | nil => simp [nameB]
  | cons c r =>
    simp only [nameB, Bool.and_eq_true, decide_eq_true_eq, List.all_eq_true, Bool.not_eq_true', List.length_cons]
    constructor
    · rintro ⟨⟨⟨h1, h2⟩, h3⟩, h4⟩
      refine ⟨by omega, by omega, fun j h => ?_, h4⟩
      cases j with
      | zero => simp [nmc, h2]
      | succ j =>
        have := h3 (r[j]'(by omega)) (List.getElem_mem _)
        simp only [inn] at this
        simp [nmc]
        simpa [Bool.or_eq_true, or_assoc] using this
    · rintro ⟨h1, h2, h3, h4⟩
      refine ⟨⟨⟨by omega, ?_⟩, fun x hx => ?_⟩, h4⟩
      · have := h3 0 (by omega)
        simpa [nmc] using this
      · obtain ⟨j, hj, rfl⟩ := List.mem_iff_getElem.1 hx
        have := h3 (j + 1) (by omega)
        simp only [nmc, List.getElem_cons_succ] at this
        simp only [inn]
        simpa [Bool.or_eq_true, or_assoc] using this
theorem nameB_not {l : List UInt8} (j : Nat) (h : j < l.length) (hn : nmc j l[j] = false) : nameB l = false := by
  rw [← Bool.not_eq_true, nameB_iff]
  rintro ⟨_, _, h3, _⟩
  have := h3 j h
  rw [hn] at this
  cases this
theorem nmc_high (j : Nat) (c : UInt8) (h : 128 ≤ c.toNat) : nmc j c = false := by
  simp [nmc, sml, dig]
  omega
theorem data_get (s : ByteArray) (j : Nat) (h : j < s.size) (h' : j < s.data.toList.length) : s.data.toList[j] = s[j] := by
  rw [Array.getElem_toList]
  rfl
theorem data_len (s : ByteArray) : s.data.toList.length = s.size := Array.length_toList

set_option maxRecDepth 100000 in
set_option maxHeartbeats 2000000 in
theorem name_c (s : ByteArray) (w : World) (hW : Wd w) (hs : s.size ≤ maxLen) :
    Calls Tryz.prog 105 #[.string s] w fun e w' => e = .returned (.bool (nameB s.data.toList)) ∧ Below w.heap.size w w' := by
  have hs' := hs
  unfold maxLen at hs
  have hln := data_len s
  by_cases h0 : s.size = 0
  · have e0 : s = ⟨#[]⟩ := by
      apply ByteArray.ext
      exact Array.eq_empty_of_size_eq_zero h0
    subst e0
    have fin : nameB (⟨#[]⟩ : ByteArray).data.toList = false := rfl
    rw [fin]
    clear fin h0 hln
    go_enter Tryz.func105, Tryz.ntmps105
    go_wp2
    go_ret
    exact ⟨rfl, b0 _⟩
  · by_cases h12 : 12 < s.size
    · have fin : nameB s.data.toList = false := by rw [← Bool.not_eq_true, nameB_iff]; rintro ⟨_, h, _⟩; omega
      rw [fin]
      clear fin hln
      have hne := str_full h0
      have h12I : (12 : Int) < (s.size : Int) := by omega
      go_enter Tryz.func105, Tryz.ntmps105
      go_wp2
      go_ret
      exact ⟨by simp, b0 _⟩
    · have hne := str_full h0
      have h12I : ¬ (12 : Int) < (s.size : Int) := by omega
      have HL : Hid (s.data.toList.length = s.size) := hln
      clear hln
      go_enter Tryz.func105, Tryz.ntmps105
      go_wp2
      go_loopw [3] (fun _ wr => ∃ pos : Nat, wr.heap[w.heap.size]? = some (.stringIter s pos) ∧ pos ≤ s.size ∧ (∀ j (h : j < s.data.toList.length), j < pos → nmc j s.data.toList[j] = true) ∧ Below w.heap.size w wr) (fun _ wr => s.size - wr.iterPos w.heap.size)
      case atStart => exact ⟨0, World.iter_heap w s 0, by omega, fun j _ h => by omega, b1 _ _⟩
      case round =>
        obtain ⟨pos, hit, hps, hin, hbw⟩ := hrel
        by_cases hp : pos < s.size
        · have hpl : pos < s.data.toList.length := by have := HL.out; omega
          by_cases ha : (s[pos]'hp).toNat < 128
          · have hnx : ∀ ty, (Instr.next (.pointer (some ⟨w.heap.size, 0, none⟩)) true ty).run Tryz.prog wr = _ := fun ty => Lib.run_next_ascii_at wr w.heap.size s pos ty hit hp ha
            have hit2 := Lib.iterAt_heap wr w.heap.size s pos (pos + 1) hit
            have hbw2 := Lib.below_iterAt hbw (k := w.heap.size) (by omega) s (pos + 1)
            have hex : nmc pos s.data.toList[pos] = nmc pos s[pos] := by rw [data_get s pos hp hpl]
            have hgo : nmc pos s[pos] = true → ∀ j (h : j < s.data.toList.length), j < pos + 1 → nmc j s.data.toList[j] = true := fun hx j h hj => by
              by_cases e : j = pos
              · subst e; rw [hex]; exact hx
              · exact hin j h (by omega)
            have hno : nmc pos s[pos] = false → nameB s.data.toList = false := fun hx => nameB_not pos hpl (by rw [hex]; exact hx)
            have hme : s.size - (wr.iterAt w.heap.size s (pos + 1)).iterPos w.heap.size < s.size - wr.iterPos w.heap.size := by
              simp only [World.iterPos, hit2, hit]
              omega
            clear hit hbw hin hex
            have hwz : w.heap.size = w.heap.size := rfl
            generalize wr.iterAt w.heap.size s (pos + 1) = w2 at *
            have hnm : nmc pos s[pos] = (sml (s[pos]).toNat || (pos != 0 && (dig (s[pos]).toNat || (s[pos]).toNat == 95))) := rfl
            rw [hnm] at hgo hno
            clear hnm
            generalize hrn : (s[pos]'hp).toNat = r at *
            have hr : r ≤ 2147483647 := by omega
            clear hrn
            have HG : Hid (((sml r || (pos != 0 && (dig r || r == 95))) = true → ∀ j (h : j < s.data.toList.length), j < pos + 1 → nmc j s.data.toList[j] = true) ∧ ((sml r || (pos != 0 && (dig r || r == 95))) = false → nameB s.data.toList = false)) := ⟨hgo, hno⟩
            clear hgo hno
            cases h1 : sml r
            · by_cases hz : pos = 0
              · have fin : nameB s.data.toList = false := HG.out.2 (by simp [h1, hz])
                subst hz
                clear HG hme
                go_wp2_with (go_at_call 121; refine (sml_c r _ hr).mono ?_; rw [h1]; rintro e w1 ⟨rfl, rfl⟩)
                go_ret
                exact ⟨by rw [fin]; rfl, hbw2⟩
              · have hz' : ¬ (pos : Int) = 0 := by omega
                cases h2 : dig r
                · by_cases h3 : r = 95
                  · have RL := HG.out.1 (by simp [h3, hz])
                    clear HG
                    subst h3
                    go_wp2_with (first | (go_at_call 121; refine (sml_c 95 _ hr).mono ?_; rw [h1]; rintro e w1 ⟨rfl, rfl⟩) | (go_at_call 102; refine (dig_c 95 _ hr).mono ?_; rw [h2]; rintro e w1 ⟨rfl, rfl⟩))
                    go_roundw
                    case rel => (try ((repeat apply Exists.intro); refine ⟨?_, rfl⟩)); exact ⟨pos + 1, hit2, by omega, RL, hbw2⟩
                    case measure => exact hme
                  · have fin : nameB s.data.toList = false := HG.out.2 (by simp [h1, h2, h3])
                    have h3' : ¬ (r : Int) = 95 := by omega
                    have h3b : ((r : Int) != 95) = true := by simpa using h3'
                    clear HG hme
                    go_wp2_with (first | (go_at_call 121; refine (sml_c r _ hr).mono ?_; rw [h1]; rintro e w1 ⟨rfl, rfl⟩) | (go_at_call 102; refine (dig_c r _ hr).mono ?_; rw [h2]; rintro e w1 ⟨rfl, rfl⟩))
                    go_ret
                    exact ⟨by rw [fin]; rfl, hbw2⟩
                · have RL := HG.out.1 (by simp [h2, hz])
                  clear HG
                  go_wp2_with (first | (go_at_call 121; refine (sml_c r _ hr).mono ?_; rw [h1]; rintro e w1 ⟨rfl, rfl⟩) | (go_at_call 102; refine (dig_c r _ hr).mono ?_; rw [h2]; rintro e w1 ⟨rfl, rfl⟩))
                  go_roundw
                  case rel => (try ((repeat apply Exists.intro); refine ⟨?_, rfl⟩)); exact ⟨pos + 1, hit2, by omega, RL, hbw2⟩
                  case measure => exact hme
            · have RL := HG.out.1 (by simp [h1])
              clear HG
              go_wp2_with (go_at_call 121; refine (sml_c r _ hr).mono ?_; rw [h1]; rintro e w1 ⟨rfl, rfl⟩)
              go_roundw
              case rel => (try ((repeat apply Exists.intro); refine ⟨?_, rfl⟩)); exact ⟨pos + 1, hit2, by omega, RL, hbw2⟩
              case measure => exact hme
          · have fin : nameB s.data.toList = false := nameB_not pos hpl (by rw [data_get s pos hp hpl]; exact nmc_high _ _ (by omega))
            have hnx : ∀ ty, (Instr.next (.pointer (some ⟨w.heap.size, 0, none⟩)) true ty).run Tryz.prog wr = _ := fun ty => Lib.run_next_any_at wr w.heap.size s pos ty hit hp
            have hbw2 := Lib.below_iterAt hbw (k := w.heap.size) (by omega) s (pos + (Utf8.decode s pos).2)
            have hr := decode_le s pos
            have hr2 := (decode_high s pos hp (by omega)).1
            generalize wr.iterAt w.heap.size s (pos + (Utf8.decode s pos).2) = w2 at *
            generalize (Utf8.decode s pos).1 = r at *
            have h1 : sml r = false := by simp [sml]; omega
            have h2 : dig r = false := by simp [dig]; omega
            have h3' : ¬ (r : Int) = 95 := by omega
            have h3b : ((r : Int) != 95) = true := by simpa using h3'
            clear hit hbw hin ha
            by_cases hz : pos = 0
            · subst hz
              go_wp2_with (go_at_call 121; refine (sml_c r _ hr).mono ?_; rw [h1]; rintro e w1 ⟨rfl, rfl⟩)
              go_ret
              exact ⟨by rw [fin]; rfl, hbw2⟩
            · have hz' : ¬ (pos : Int) = 0 := by omega
              go_wp2_with (first | (go_at_call 121; refine (sml_c r _ hr).mono ?_; rw [h1]; rintro e w1 ⟨rfl, rfl⟩) | (go_at_call 102; refine (dig_c r _ hr).mono ?_; rw [h2]; rintro e w1 ⟨rfl, rfl⟩))
              go_ret
              exact ⟨by rw [fin]; rfl, hbw2⟩
        · have hnx : ∀ ty, (Instr.next (.pointer (some ⟨w.heap.size, 0, none⟩)) true ty).run Tryz.prog wr = _ := fun ty => Lib.run_next_end_at wr w.heap.size s pos ty hit hp
          have hW2 := hW.below hbw
          have fin : nameB s.data.toList = !wordB s.data.toList := by
            have hl := HL.out
            cases hw : wordB s.data.toList
            · exact (nameB_iff _).2 ⟨by omega, by omega, fun j h => hin j h (by omega), hw⟩
            · show _ = false
              rw [← Bool.not_eq_true, nameB_iff]
              rintro ⟨_, _, _, h⟩
              rw [hw] at h
              cases h
          clear hin hit
          go_wp2_with (go_at_call 104; refine (word_c s _ hW2 hs').mono ?_; rintro e w1 ⟨rfl, rfl⟩)
          go_ret
          exact ⟨by rw [fin]; rfl, hbw⟩
end Go.Proofs.YtojleoionpnjpaaGreatDoor
namespace Go.Proofs.YtojleoionpnjpaaGreatDoor
open Go.ChangeShapes Go.WideShapes Go.ChangeAt Go.RowKit
set_option linter.unusedVariables false

/-- A token's cells. -/
abbrev tka (x : Tk) : Array Value := #[.int .i64 (x.k : Nat), .int .i64 x.n, .string ⟨x.t.toArray⟩, .int .i64 (x.a : Nat)]
theorem back_text (t : ByteArray) : (⟨t.data.toList.toArray⟩ : ByteArray) = t := by cases t; simp
theorem set4 {w : World} {b : Nat} {a0 a1 a2 a3 : Value} {t : TypeId} (v0 v1 v2 v3 : Value) (h : w.heap[b]? = some (.cells #[a0, a1, a2, a3] t (0, 0))) :
    ((((w.setCell ⟨b, 0, none⟩ v0).setCell ⟨b, 1, none⟩ v1).setCell ⟨b, 2, none⟩ v2).setCell ⟨b, 3, none⟩ v3).heap[b]? = some (.cells #[v0, v1, v2, v3] t (0, 0)) := by
  have h0 := heap_setCell_same w b 0 _ t v0 h
  have h1 := heap_setCell_same _ b 1 _ t v1 h0
  have h2 := heap_setCell_same _ b 2 _ t v2 h1
  have h3 := heap_setCell_same _ b 3 _ t v3 h2
  simpa using h3
theorem b2 (w : World) (A B : Obj) : Below w.heap.size w ((w.alloc A).alloc B) := (b1 _ _).trans ((b1 _ _).mono (by simp))
theorem bset4 {w w1 : World} {b : Nat} (v0 v1 v2 v3 : Value) (h : Below w.heap.size w w1) (hb : w.heap.size ≤ b) :
    Below w.heap.size w ((((w1.setCell ⟨b, 0, none⟩ v0).setCell ⟨b, 1, none⟩ v1).setCell ⟨b, 2, none⟩ v2).setCell ⟨b, 3, none⟩ v3) :=
  ((((h.setCell (p := ⟨b, 0, none⟩) hb v0).setCell (p := ⟨b, 1, none⟩) hb v1).setCell (p := ⟨b, 2, none⟩) hb v2).setCell (p := ⟨b, 3, none⟩) hb v3)

theorem head_at (t : ByteArray) (h : 0 < t.size) : t.data.toList.head? = some t[0] := by
  have hl : 0 < t.data.toList.length := by rw [data_len]; exact h
  rw [List.head?_eq_getElem?, List.getElem?_eq_getElem hl, data_get t 0 h hl]
end Go.Proofs.YtojleoionpnjpaaGreatDoor

/- From the walk of a law of package lex to its row: the tables and errors as the program lays them. -/
import Derived.Test.YtafnlhnenmpfoaaGreatDoorOvA
import Derived.Test.YtafnlhnenmpfoaaGreatDoorRows
import Derived.SizedLaws
import Derived.Lib.LaidTab
import Derived.Stop.LaidErr
import Derived.ShutString
import Derived.Deep.DeepHandedRow
namespace Go.Proofs.YtafnlhnenmpfoaaGreatDoor
open Go.ChangeShapes Go.WideShapes Go.ChangeAt Go.RowKit
set_option linter.unusedVariables false
set_option linter.unusedSimpArgs false

/-- A block of a list is turned: parts stand or are dead. -/
theorem Ov.row {n0 m s : Nat} {w : World} {b : Nat} {cur : Array Value} (hb0 : n0 ≤ b) (hb1 : b < m) (h : w.heap[b]? = some (.cells cur 25 (0, 0))) (w' : World) (cur' : Array Value) (ho : w'.os = w.os) (ht : w'.tape = w.tape) (hp : w'.output = w.output) (hs : w.heap.size ≤ w'.heap.size)
    (hother : ∀ k, k ≠ b → w'.heap[k]? = w.heap[k]?) (h' : w'.heap[b]? = some (.cells cur' 25 (0, 0))) (hsz : cur'.size = cur.size) (hg : ∀ j, SameG cur cur' j ∨ DeadG cur' j) : Ov n0 m s w w' := by
  refine ⟨ho, ht, hp, hs, fun k _ hk => hother k (by omega), fun k c h0 h1 h2 => ?_⟩
  by_cases hk : k = b
  · subst hk
    rw [h] at h2
    injection h2 with h2
    injection h2 with h2
    subst h2
    exact ⟨cur', h', hsz, hg⟩
  · exact ⟨c, (hother k hk).trans h2, rfl, fun j => .inl fun t _ => rfl⟩
/-- A part is written over. -/
def overC (cur : Array Value) (i : Nat) (v0 v1 v2 v3 v4 : Value) : Array Value := ((((cur.setIfInBounds (i * 5) v0).setIfInBounds (i * 5 + 1) v1).setIfInBounds (i * 5 + 2) v2).setIfInBounds (i * 5 + 3) v3).setIfInBounds (i * 5 + 4) v4
theorem set5_heap {w : World} {b : Nat} {cur : Array Value} {t : TypeId} (i : Nat) (v0 v1 v2 v3 v4 : Value) (h : w.heap[b]? = some (.cells cur t (0, 0))) :
    (((((w.setCell ⟨b, i * 5, none⟩ v0).setCell ⟨b, i * 5 + 1, none⟩ v1).setCell ⟨b, i * 5 + 2, none⟩ v2).setCell ⟨b, i * 5 + 3, none⟩ v3).setCell ⟨b, i * 5 + 4, none⟩ v4).heap[b]? = some (.cells (overC cur i v0 v1 v2 v3 v4) t (0, 0)) :=
  heap_setCell_same _ b _ _ t v4 (heap_setCell_same _ b _ _ t v3 (heap_setCell_same _ b _ _ t v2 (heap_setCell_same _ b _ _ t v1 (heap_setCell_same _ b _ _ t v0 h))))
theorem overC_size (cur : Array Value) (i : Nat) (v0 v1 v2 v3 v4 : Value) : (overC cur i v0 v1 v2 v3 v4).size = cur.size := by simp [overC]
theorem overC_other {cur : Array Value} {i : Nat} {v0 v1 v2 v3 v4 : Value} {k : Nat} (h : k < i * 5 ∨ i * 5 + 5 ≤ k) : (overC cur i v0 v1 v2 v3 v4)[k]? = cur[k]? := by
  unfold overC
  rw [Array.getElem?_setIfInBounds_ne (by omega), Array.getElem?_setIfInBounds_ne (by omega), Array.getElem?_setIfInBounds_ne (by omega), Array.getElem?_setIfInBounds_ne (by omega), Array.getElem?_setIfInBounds_ne (by omega)]
theorem overC_dead {cur : Array Value} {i : Nat} (x y z : Int) (s : ByteArray) (h : i * 5 + 5 ≤ cur.size) : DeadG (overC cur i (.int .i64 x) (.int .i64 y) (.string s) (.slice none 0 0) (.int .i64 z)) i := by
  refine ⟨x, y, z, s, ?_, ?_, ?_, ?_, ?_⟩ <;> unfold overC
  · rw [Array.getElem?_setIfInBounds_ne (by omega), Array.getElem?_setIfInBounds_ne (by omega), Array.getElem?_setIfInBounds_ne (by omega), Array.getElem?_setIfInBounds_ne (by omega), Array.getElem?_setIfInBounds_self_of_lt (by omega)]
  · rw [Array.getElem?_setIfInBounds_ne (by omega), Array.getElem?_setIfInBounds_ne (by omega), Array.getElem?_setIfInBounds_ne (by omega), Array.getElem?_setIfInBounds_self_of_lt (by simp; omega)]
  · rw [Array.getElem?_setIfInBounds_ne (by omega), Array.getElem?_setIfInBounds_ne (by omega), Array.getElem?_setIfInBounds_self_of_lt (by simp; omega)]
  · rw [Array.getElem?_setIfInBounds_ne (by omega), Array.getElem?_setIfInBounds_self_of_lt (by simp; omega)]
  · rw [Array.getElem?_setIfInBounds_self_of_lt (by simp; omega)]
theorem Ov.set5 {n0 m s : Nat} {w : World} {b : Nat} {cur : Array Value} {i : Nat} (x y z : Int) (st : ByteArray) (hb0 : n0 ≤ b) (hb1 : b < m) (h : w.heap[b]? = some (.cells cur 25 (0, 0))) (hi : i * 5 + 5 ≤ cur.size) :
    Ov n0 m s w (((((w.setCell ⟨b, i * 5, none⟩ (.int .i64 x)).setCell ⟨b, i * 5 + 1, none⟩ (.int .i64 y)).setCell ⟨b, i * 5 + 2, none⟩ (.string st)).setCell ⟨b, i * 5 + 3, none⟩ (.slice none 0 0)).setCell ⟨b, i * 5 + 4, none⟩ (.int .i64 z)) := by
  have B := (((((Below.refl 0 w).setCell (p := ⟨b, i * 5, none⟩) (Nat.zero_le _) (.int .i64 x)).setCell (p := ⟨b, i * 5 + 1, none⟩) (Nat.zero_le _) (.int .i64 y)).setCell (p := ⟨b, i * 5 + 2, none⟩) (Nat.zero_le _) (.string st)).setCell (p := ⟨b, i * 5 + 3, none⟩) (Nat.zero_le _) (.slice none 0 0)).setCell (p := ⟨b, i * 5 + 4, none⟩) (Nat.zero_le _) (.int .i64 z)
  refine Ov.row hb0 hb1 h _ (overC cur i (.int .i64 x) (.int .i64 y) (.string st) (.slice none 0 0) (.int .i64 z)) B.os B.tape B.output B.size (fun k hk => ?_) (set5_heap i _ _ _ _ _ h) (overC_size _ _ _ _ _ _ _) (fun j => ?_)
  · exact (heap_setCell_other _ ⟨b, i * 5 + 4, none⟩ k _ hk).trans ((heap_setCell_other _ ⟨b, i * 5 + 3, none⟩ k _ hk).trans ((heap_setCell_other _ ⟨b, i * 5 + 2, none⟩ k _ hk).trans ((heap_setCell_other _ ⟨b, i * 5 + 1, none⟩ k _ hk).trans (heap_setCell_other _ ⟨b, i * 5, none⟩ k _ hk))))
  · by_cases hj : j = i
    · subst hj
      exact .inr (overC_dead x y z st hi)
    · exact .inl fun t ht => overC_other (by omega)
/-- What an append of one part leaves. -/
def AppR (w : World) (e : TypeId) (ao : Option Addr) (n : Nat) (news : List Value) (g : Nat) (w' : World) (cur' : Array Value) : Prop :=
  w'.heap[g]? = some (.cells cur' e (0, 0)) ∧ (∀ (t : Nat) (u : Value), news[t]? = some u → cur'[n * 5 + t]? = some u) ∧
    ((∃ cur, ao = some ⟨g, 0, none⟩ ∧ w.heap[g]? = some (.cells cur e (0, 0)) ∧ w' = w.setRow g cur' ∧ cur'.size = cur.size ∧ ∀ j, (j < n * 5 ∨ n * 5 + 5 ≤ j) → cur'[j]? = cur[j]?) ∨ (g = w.heap.size ∧ Below w.heap.size w w'))
theorem append_ov {P : Program} (w : World) (t ty e : TypeId) (i : TypeInfo) (z : Value) (bytes : Nat) (ht : P.underlying t = some (.slice e)) (hi : P.info? e = some i) (hz : i.zero = some z) (hsize : i.size = 5) (hby : i.bytes = bytes) (hzs : z.cells.size = 5)
    (ao : Option Addr) (n cap : Nat) (hv : (n = 0 ∧ ao = none ∧ cap = 0) ∨ ∃ b cur, ao = some ⟨b, 0, none⟩ ∧ n ≤ cap ∧ w.heap[b]? = some (.cells cur e (0, 0)) ∧ cur.size = cap * 5)
    (ad : Addr) (news : List Value) (hl : news.length = 5) (hnews : ∀ j u, news[j]? = some u → w.cell? (ad.add j) = some u) (h1 : ∀ u ∈ news, u.oneCell' = true)
    (hn : n + 1 ≤ maxLen) (hbytes : (n + 1) * bytes ≤ 140737488355328) :
    ∃ g cap' w' cur', (Builtin.append_ #[t, t] ty #[.slice ao n cap, .slice (some ad) 1 1]).run P w = .ok (.slice (some ⟨g, 0, none⟩) (n + 1) cap') w' ∧ AppR w e ao n news g w' cur' := by
  have h63 : n + 1 ≤ 9223372036854775807 := by simp only [maxLen] at hn; omega
  subst hby
  rcases hv with ⟨rfl, rfl, rfl⟩ | ⟨b, cur, rfl, hnc, hb, hsz⟩
  · have hr := run_append_nil (P := P) w t ty e i z ht hi hz ad 1 1 news (by rw [hl, hsize]) hnews (by omega) (by omega) (by simp only [Nat.zero_add] at hbytes; omega)
    refine ⟨_, _, _, _, hr, heap_alloc_new w.drew _, fun t' u hu => ?_, .inr ⟨rfl, ?_⟩⟩
    · rw [Nat.zero_mul, Nat.zero_add, Array.getElem?_append_left (by have := (List.getElem?_eq_some_iff.1 hu).1; simpa using this)]
      simpa using hu
    · exact (show Below w.heap.size w w.drew from ⟨rfl, rfl, rfl, Nat.le_refl _, fun _ _ => rfl⟩).alloc (Nat.le_refl _) _
  · by_cases hroom : n + 1 ≤ cap
    · have hfit : n * i.size + news.length ≤ cur.size := by rw [hl, hsz, hsize]; omega
      have hr := run_append_room (P := P) w t ty e i ht hi b n cap cur hb ad 1 1 news (by rw [hl, hsize]) hnews h1 hroom hfit
      have hlt : (cur.toList.take (n * i.size)).length = n * 5 := by rw [List.length_take, hsize]; simp; omega
      refine ⟨b, cap, _, _, hr, setRow_heap w b cur _ e (0, 0) hb, fun t' u hu => ?_, .inl ⟨cur, rfl, hb, rfl, ?_, fun j hj => ?_⟩⟩
      · have h5 := (List.getElem?_eq_some_iff.1 hu).1
        rw [List.getElem?_toArray, List.append_assoc, List.getElem?_append_right (by rw [hlt]; omega), hlt, List.getElem?_append_left (by omega), show n * 5 + t' - n * 5 = t' by omega]
        exact hu
      · rw [List.size_toArray, List.length_append, List.length_append, List.length_drop, hlt, hl, hsize, Array.length_toList]
        omega
      · rw [List.getElem?_toArray, List.append_assoc]
        rcases hj with hj | hj
        · rw [List.getElem?_append_left (by rw [hlt]; exact hj), List.getElem?_take_of_lt (by rw [hsize]; exact hj)]
          simp
        · rw [List.getElem?_append_right (by rw [hlt]; omega), hlt, List.getElem?_append_right (by omega), hl, List.getElem?_drop, hsize]
          rw [show n * 5 + 5 + (j - n * 5 - 5) = j by omega]
          simp
    · have holds : ∀ j u, (cur.toList.take (n * 5))[j]? = some u → w.cell? ((⟨b, 0, none⟩ : Addr).add j) = some u := fun j u hu => by
        have h3 : ((⟨b, 0, none⟩ : Addr).add j) = ⟨b, j, none⟩ := by simp [Addr.add]; exact Eq.symm
        rw [h3, cell_of_row _ b j _ _ (0, 0) hb]
        exact ownCells rfl j u hu
      have hlo : (cur.toList.take (n * 5)).length = n * i.size := by rw [List.length_take, hsize]; simp; omega
      have hr := run_append_grow (P := P) w t ty e i z ht hi hz ⟨b, 0, none⟩ n cap (cur.toList.take (n * 5)) hlo holds ad 1 1 news (by rw [hl, hsize]) hnews (by omega) (by omega) (growslice_fits (by omega) hbytes)
      refine ⟨_, _, _, _, hr, heap_alloc_new w.drew _, fun t' u hu => ?_, .inr ⟨rfl, ?_⟩⟩
      · have h5 := (List.getElem?_eq_some_iff.1 hu).1
        rw [Array.getElem?_append_left (by simp only [Array.size_append, List.size_toArray, hlo, hsize]; omega), Array.getElem?_append_right (by simp only [List.size_toArray, hlo, hsize]; omega)]
        simp only [List.size_toArray, hlo, hsize]
        rw [show n * 5 + t' - n * 5 = t' by omega]
        simpa using hu
      · exact (show Below w.heap.size w w.drew from ⟨rfl, rfl, rfl, Nat.le_refl _, fun _ _ => rfl⟩).alloc (Nat.le_refl _) _
theorem wpList_append_ov {P : Program} {w : World} {ops : Array Oper} {rest : List Oper} {op : Oper} {a : Act} {Q : Exit → Act → World → Prop} (hgd : op.guard = none) (s x : Operand) (t : TypeId)
    (ho : op.op = .call { callee := .builtin .append, args := #[s, x], argTypes := #[t, t] })
    (e : TypeId) (i : TypeInfo) (z : Value) (bytes : Nat) (ht : P.underlying t = some (.slice e)) (hi : P.info? e = some i) (hz : i.zero = some z) (hsize : i.size = 5) (hby : i.bytes = bytes) (hzs : z.cells.size = 5)
    (ao : Option Addr) (n cap : Nat) (hs : a.eval s = .slice ao n cap) (hv : (n = 0 ∧ ao = none ∧ cap = 0) ∨ ∃ b cur, ao = some ⟨b, 0, none⟩ ∧ n ≤ cap ∧ w.heap[b]? = some (.cells cur e (0, 0)) ∧ cur.size = cap * 5)
    (ad : Addr) (news : List Value) (hx : a.eval x = .slice (some ad) 1 1) (hl : news.length = 5) (hnews : ∀ j u, news[j]? = some u → w.cell? (ad.add j) = some u) (h1 : ∀ u ∈ news, u.oneCell' = true)
    (hn : n + 1 ≤ maxLen) (hbytes : (n + 1) * bytes ≤ 140737488355328)
    (h : ∀ g cap' w' cur', AppR w e ao n news g w' cur' → wpList P ops Q rest (a.put op.dst (.slice (some ⟨g, 0, none⟩) (n + 1) cap')) w') : wpList P ops Q (op :: rest) a w := by
  refine wpList_plain hgd fun _ hK => ?_
  obtain ⟨g, cap', w', cur', hr, hR⟩ := append_ov (P := P) w t op.type e i z bytes ht hi hz hsize hby hzs ao n cap hv ad news hl hnews h1 hn hbytes
  unfold Oper.wp execOp
  simp only [ho, resolve, invoke, builtin, Sem.run_bind, Sem.run_pure, Result.andThen_ok, List.map_toArray, List.map_cons, List.map_nil, hs, hx, hr]
  exact hK _ _ (h g cap' w' cur' hR)
end Go.Proofs.YtafnlhnenmpfoaaGreatDoor
namespace Go.Proofs.YtafnlhnenmpfoaaGreatDoor
open Go.ChangeShapes Go.WideShapes Go.ChangeAt Go.RowKit
set_option linter.unusedVariables false
set_option linter.unusedSimpArgs false

def PostO (n0 m : Nat) (w : World) (e : Ending) (w' : World) : Prop := e = .returned (.tuple #[]) ∧ Ov n0 m w.heap.size w w'
def OverOk (N : Nat) : Prop := ∀ (x y z : Int) (st : ByteArray) (ks : Fs) (ao : Option Addr) (cap n0 m : Nat) (w : World), ks.size < N → ks.len ≤ 1000000000 → ks.short → m ≤ w.heap.size → Sw n0 m w ks ao cap →
  Calls Tryz.prog 11 #[.agg #[.int .i64 x, .int .i64 y, .string st, .slice ao ks.len cap, .int .i64 z]] w (PostO n0 m w)
set_option maxRecDepth 100000 in
set_option maxHeartbeats 4000000 in
theorem over_step {N : Nat} (IH : OverOk N) : OverOk (N + 1) := by
  intro x y z st ks ao cap n0 m w hN hlen hsh hm S
  obtain ⟨ii, hii, hzi0, hzi1, hzi2⟩ := info_parts infoExpr
  have B0 : Below w.heap.size w (w.alloc (.cells #[.int .i64 x, .int .i64 y, .string st, .slice ao ks.len cap, .int .i64 z] 25)) := (Below.refl _ w).alloc (Nat.le_refl _) _
  have E0 : (w.alloc (.cells #[.int .i64 x, .int .i64 y, .string st, .slice ao ks.len cap, .int .i64 z] 25)).heap[w.heap.size]? = some (.cells #[.int .i64 x, .int .i64 y, .string st, .slice ao ks.len cap, .int .i64 z] 25) := heap_alloc_new w _
  have O0 : Ov n0 m w.heap.size w (w.alloc (.cells #[.int .i64 x, .int .i64 y, .string st, .slice ao ks.len cap, .int .i64 z] 25)) := Ov.ofBelow B0 hm
  have HS : Hid (Sw n0 m w ks ao cap) := S
  go_enter Tryz.func11, Tryz.ntmps11
  go_upto_region 1 with fail
  generalize w.alloc (.cells #[.int .i64 x, .int .i64 y, .string st, .slice ao ks.len cap, .int .i64 z] 25) = w0 at *
  obtain ⟨bx, hbx⟩ : ∃ bx, bx = w.heap.size := ⟨_, rfl⟩
  unfold PostO
  rw [← hbx] at E0 O0 hm ⊢
  have HB : Hid (bx = w.heap.size) := hbx
  clear hbx B0 S
  go_wp2
  go_loopw [2] (fun v wr => ∃ (d r : Fs), Hid (ks = d.app r) ∧ v = .int .i64 (d.len : Nat) ∧ wr.heap[bx]? = some (.cells #[.int .i64 x, .int .i64 y, .string st, .slice ao ks.len cap, .int .i64 z] 25) ∧ Ov n0 m bx w wr) (fun v _ => ks.len - (intOf v).toNat)
  case atStart => exact ⟨.nil, ks, rfl, by show _ = Value.int .i64 ((0 : Nat) : Int); rfl, E0, O0⟩
  case round =>
    clear E0 O0
    obtain ⟨d, r, hf, rfl, E1, O1⟩ := hrel
    have hlk : ks.len = d.len + r.len := by rw [hf.out, Fs.len_app]
    obtain ⟨p0, p1, p2, p3, p4, pf⟩ := box5 E1
    have hbr : bx < wr.heap.size := lt_of_block E1
    have S1 := HS.out.ov O1
    cases r using Fs.on with
    | nil =>
      have hl0 : ¬ (d.len : Int) < (ks.len : Int) := by simp only [Fs.len] at hlk; omega
      have b2 : Below wr.heap.size wr (wr.alloc (.cells #[.int .i64 (-2), .int .i64 0, .string ⟨#[]⟩, .slice none 0 0, .int .i64 0] 25)) := (Below.refl _ wr).alloc (Nat.le_refl _) _
      have S2 : Sw n0 m (wr.alloc (.cells #[.int .i64 (-2), .int .i64 0, .string ⟨#[]⟩, .slice none 0 0, .int .i64 0] 25)) ks ao cap := S1.ov (Ov.ofBelow b2 (by omega) (s := wr.heap.size))
      have hv : (ks.len = 0 ∧ ao = none ∧ cap = 0) ∨ ∃ b cur, ao = some ⟨b, 0, none⟩ ∧ ks.len ≤ cap ∧ (wr.alloc (.cells #[.int .i64 (-2), .int .i64 0, .string ⟨#[]⟩, .slice none 0 0, .int .i64 0] 25)).heap[b]? = some (.cells cur 25 (0, 0)) ∧ cur.size = cap * 5 := by
        rcases S2 with h | ⟨b, cur, h1, -, -, h4, h5, h6, -⟩
        · exact .inl ⟨by rw [h.1]; rfl, h.2⟩
        · exact .inr ⟨b, cur, h1, h4, h5, h6⟩
      have hrng : ∀ (b : Nat) (cur : Array Value), ao = some ⟨b, 0, none⟩ → n0 ≤ b ∧ b < m := by
        intro b cur hb
        rcases S2 with h | ⟨b', cur', h1, h2, h3, -⟩
        · rw [h.2.1] at hb; cases hb
        · rw [h1] at hb
          injection hb with hb
          injection hb with hb
          subst hb
          exact ⟨h2, h3⟩
      have OA : Ov n0 m bx w (wr.alloc (.cells #[.int .i64 (-2), .int .i64 0, .string ⟨#[]⟩, .slice none 0 0, .int .i64 0] 25)) := O1.trans (Ov.ofBelow (b2.mono (Nat.le_of_lt hbr)) hm)
      have hone : ∀ u ∈ [Value.int .i64 (-2), .int .i64 0, .string ⟨#[]⟩, .slice none 0 0, .int .i64 0], u.oneCell' = true := by intro u hu; simp at hu; rcases hu with rfl | rfl | rfl | rfl | rfl <;> rfl
      have b3 : ks.len + 1 ≤ maxLen := by unfold maxLen; omega
      have b4 : (ks.len + 1) * 64 ≤ 140737488355328 := by omega
      clear hf hlk S1 S2 O1
      go_wp2_with (first | (at_builtin; refine wpList_append_ov rfl (.tmp 23) (.tmp 25) 23 rfl 25 ii _ 64 Tryz.underlying23 hii hzi0 hzi1 hzi2 rfl ao ks.len cap rfl hv ⟨wr.heap.size, 0, none⟩ [.int .i64 (-2), .int .i64 0, .string ⟨#[]⟩, .slice none 0 0, .int .i64 0] rfl rfl (new_cells_at wr _ _) hone b3 b4 ?_) | go_in)
      intro g cap2 w3 cur3 R3
      have k3 : w3.heap[g]? = some (.cells cur3 25 (0, 0)) := R3.1
      have c4 : w3.cell? ⟨g, ks.len * 5 + 4, none⟩ = some (.int .i64 0) := (cell_of_row _ g _ _ _ (0, 0) k3).trans (R3.2.1 4 _ rfl)
      have f4 : w3.frozen? ⟨g, ks.len * 5 + 4, none⟩ = false := frozen_of_row w3 g _ _ _ k3
      have HZ : Hid (Ov n0 m bx w (w3.setCell ⟨g, ks.len * 5 + 4, none⟩ (.int .i64 1))) := by
        refine OA.trans ?_
        rcases R3.2.2 with ⟨cur, ha, hcb, hw3, hcs, hsame⟩ | ⟨hg, hb⟩
        · obtain ⟨hg0, hg1⟩ := hrng g cur ha
          have h5 : ∀ (t : Nat) (u : Value), [Value.int .i64 (-2), .int .i64 0, .string ⟨#[]⟩, .slice none 0 0, .int .i64 0][t]? = some u → cur3[ks.len * 5 + t]? = some u := R3.2.1
          have hsz4 : ks.len * 5 + 4 < cur3.size := (Array.getElem?_eq_some_iff.1 (h5 4 _ rfl)).1
          refine Ov.row hg0 hg1 hcb _ (cur3.setIfInBounds (ks.len * 5 + 4) (.int .i64 1)) ?_ ?_ ?_ ?_ (fun k hk => ?_) (heap_setCell_same w3 g _ _ _ _ k3) (by simpa using hcs) (fun j => ?_)
          · rw [hw3]; rfl
          · rw [hw3]; rfl
          · rw [hw3]; rfl
          · rw [hw3]; simp
          · rw [heap_setCell_other w3 ⟨g, ks.len * 5 + 4, none⟩ k _ hk, hw3, setRow_other _ g k _ hk]
          · by_cases hj : j = ks.len
            · subst hj
              refine .inr ⟨-2, 0, 1, ⟨#[]⟩, ?_, ?_, ?_, ?_, ?_⟩
              · rw [Array.getElem?_setIfInBounds_ne (by omega)]; exact h5 0 _ rfl
              · rw [Array.getElem?_setIfInBounds_ne (by omega)]; exact h5 1 _ rfl
              · rw [Array.getElem?_setIfInBounds_ne (by omega)]; exact h5 2 _ rfl
              · rw [Array.getElem?_setIfInBounds_ne (by omega)]; exact h5 3 _ rfl
              · rw [Array.getElem?_setIfInBounds_self_of_lt hsz4]
            · exact .inl fun t ht => by
                rw [Array.getElem?_setIfInBounds_ne (by omega)]
                exact hsame _ (by omega)
        · have hbw : bx ≤ (wr.alloc (.cells #[.int .i64 (-2), .int .i64 0, .string ⟨#[]⟩, .slice none 0 0, .int .i64 0] 25)).heap.size := by simp; omega
          exact Ov.ofBelow ((hb.setCell (p := ⟨g, ks.len * 5 + 4, none⟩) (by rw [hg]; exact Nat.le_refl _) (.int .i64 1)).mono hbw) hm
      clear R3 k3 OA hv hrng hone
      go_wp2
      go_end0
      exact ⟨rfl, by rw [← HB.out]; exact HZ.out⟩
    | cons kk kn km ka kks kr =>
      have hl0 : (d.len : Int) < (ks.len : Int) := by simp only [Fs.len] at hlk; omega
      have hl1 : d.len < ks.len := by simp only [Fs.len] at hlk; omega
      have hsz : ks.size = d.size + (kks.size + kr.size + 1) := by rw [hf.out, Fs.size_app]; rfl
      have hsk : (Fs.cons kk kn km ka kks kr).short := Fs.app_short (by rw [← hf.out]; exact hsh)
      obtain ⟨b, cur, rfl, hb0, hb1, hlc, hcb, hcs, G1⟩ : ∃ b cur, ao = some ⟨b, 0, none⟩ ∧ n0 ≤ b ∧ b < m ∧ ks.len ≤ cap ∧ wr.heap[b]? = some (.cells cur 25 (0, 0)) ∧ cur.size = cap * 5 ∧ Gw n0 m wr ks cur 0 := by
        rcases S1 with h | h
        · have h2 := h.1
          rw [h2] at hl1
          exact absurd hl1 (Nat.not_lt_zero _)
        · exact h
      have G2 : Gw n0 m wr (Fs.cons kk kn km ka kks kr) cur (0 + d.len) := Gw.at (d := d) (by rw [← hf.out]; exact G1)
      rw [Nat.zero_add] at G2
      obtain ⟨x', y', z', s', ks', ao', cap', hks, hks1, hks2, g0, g1, g2, g3, g4, SK⟩ : ∃ (x' y' z' : Int) (s' : ByteArray) (ks' : Fs) (ao' : Option Addr) (cap' : Nat), ks'.size < N ∧ ks'.len ≤ 1000000000 ∧ ks'.short ∧ cur[d.len * 5]? = some (.int .i64 x') ∧ cur[d.len * 5 + 1]? = some (.int .i64 y') ∧ cur[d.len * 5 + 2]? = some (.string s') ∧ cur[d.len * 5 + 3]? = some (.slice ao' ks'.len cap') ∧ cur[d.len * 5 + 4]? = some (.int .i64 z') ∧ Sw n0 m wr ks' ao' cap' := by
        rcases G2.1 with ⟨x', y', z', s', g0, g1, g2, g3, g4⟩ | ⟨ao', cap', ⟨g0, g1, g2, g3, g4⟩, hs⟩
        · exact ⟨x', y', z', s', .nil, none, 0, by show 0 < N; omega, by show 0 ≤ _; omega, trivial, g0, g1, g2, g3, g4, .inl ⟨rfl, rfl, rfl⟩⟩
        · exact ⟨kk, kn, ka, ⟨km.toArray⟩, kks, ao', cap', by omega, hsk.2.1, hsk.2.2.1, g0, g1, g2, g3, g4, hs⟩
      have e0 := (cell_of_row _ b (d.len * 5) _ _ (0, 0) hcb).trans g0
      have e1 := (cell_of_row _ b (d.len * 5 + 1) _ _ (0, 0) hcb).trans g1
      have e2 := (cell_of_row _ b (d.len * 5 + 2) _ _ (0, 0) hcb).trans g2
      have e3 := (cell_of_row _ b (d.len * 5 + 3) _ _ (0, 0) hcb).trans g3
      have e4 := (cell_of_row _ b (d.len * 5 + 4) _ _ (0, 0) hcb).trans g4
      have c1 := IH x' y' z' s' ks' ao' cap' n0 m wr hks hks1 hks2 (by omega) SK
      have hf2 : Hid (ks = (d.snoc ⟨kk, kn, km, ka, kks⟩).app kr) := by show ks = _; rw [hf.out]; unfold Fs.snoc; rw [Fs.app_assoc]; rfl
      have hl2 : (d.len : Int) + 1 = ((d.snoc ⟨kk, kn, km, ka, kks⟩).len : Nat) := by rw [Fs.len_snoc]; rfl
      clear hf hlk hsz hsk G1 G2 g0 g1 g2 g3 g4 SK hks hks1 hks2
      go_wp2_with fail
      refine c1.mono ?_
      rintro u w2 ⟨rfl, o2⟩
      have E2 := (o2.blk bx hbr (.inr hm)).trans E1
      have O2 : Ov n0 m bx w w2 := O1.trans (o2.low (Nat.le_of_lt hbr))
      obtain ⟨cur2, hcb2, hcs2, -⟩ := o2.lst b cur hb0 hb1 hcb
      have hi5 : d.len * 5 + 5 ≤ cur2.size := by rw [hcs2, hcs]; omega
      have O3 := O2.trans (Ov.set5 (s := bx) (i := d.len) (-1) (-1) (-1) ⟨#[111, 118, 101, 114]⟩ hb0 hb1 hcb2 hi5)
      obtain ⟨q0, q1, q2, q3, q4, qf⟩ := box5 E2
      have hfz : ∀ j, w2.frozen? ⟨b, j, none⟩ = false := fun j => frozen_of_row w2 b j _ _ hcb2
      have hbne : bx ≠ b := by omega
      have E3 : (((((w2.setCell ⟨b, d.len * 5, none⟩ (.int .i64 (-1))).setCell ⟨b, d.len * 5 + 1, none⟩ (.int .i64 (-1))).setCell ⟨b, d.len * 5 + 2, none⟩ (.string ⟨#[111, 118, 101, 114]⟩)).setCell ⟨b, d.len * 5 + 3, none⟩ (.slice none 0 0)).setCell ⟨b, d.len * 5 + 4, none⟩ (.int .i64 (-1))).heap[bx]? = some (.cells #[.int .i64 x, .int .i64 y, .string st, .slice (some ⟨b, 0, none⟩) ks.len cap, .int .i64 z] 25 (0, 0)) :=
        ((heap_setCell_other _ ⟨b, d.len * 5 + 4, none⟩ bx _ hbne).trans ((heap_setCell_other _ ⟨b, d.len * 5 + 3, none⟩ bx _ hbne).trans ((heap_setCell_other _ ⟨b, d.len * 5 + 2, none⟩ bx _ hbne).trans ((heap_setCell_other _ ⟨b, d.len * 5 + 1, none⟩ bx _ hbne).trans (heap_setCell_other _ ⟨b, d.len * 5, none⟩ bx _ hbne))))).trans E2
      have f0 : ∃ u, w2.cell? ⟨b, d.len * 5, none⟩ = some u := ⟨_, (cell_of_row _ b (d.len * 5) _ _ (0, 0) hcb2).trans (Array.getElem?_eq_getElem (by omega))⟩
      have f1 : ∃ u, w2.cell? ⟨b, d.len * 5 + 1, none⟩ = some u := ⟨_, (cell_of_row _ b (d.len * 5 + 1) _ _ (0, 0) hcb2).trans (Array.getElem?_eq_getElem (by omega))⟩
      have f2 : ∃ u, w2.cell? ⟨b, d.len * 5 + 2, none⟩ = some u := ⟨_, (cell_of_row _ b (d.len * 5 + 2) _ _ (0, 0) hcb2).trans (Array.getElem?_eq_getElem (by omega))⟩
      have f3 : ∃ u, w2.cell? ⟨b, d.len * 5 + 3, none⟩ = some u := ⟨_, (cell_of_row _ b (d.len * 5 + 3) _ _ (0, 0) hcb2).trans (Array.getElem?_eq_getElem (by omega))⟩
      have f4 : ∃ u, w2.cell? ⟨b, d.len * 5 + 4, none⟩ = some u := ⟨_, (cell_of_row _ b (d.len * 5 + 4) _ _ (0, 0) hcb2).trans (Array.getElem?_eq_getElem (by omega))⟩
      obtain ⟨u0, f0⟩ := f0
      obtain ⟨u1, f1⟩ := f1
      obtain ⟨u2, f2⟩ := f2
      obtain ⟨u3, f3⟩ := f3
      obtain ⟨u4, f4⟩ := f4
      have HZ : Hid (∃ wz, wz = (((((w2.setCell ⟨b, d.len * 5, none⟩ (.int .i64 (-1))).setCell ⟨b, d.len * 5 + 1, none⟩ (.int .i64 (-1))).setCell ⟨b, d.len * 5 + 2, none⟩ (.string ⟨#[111, 118, 101, 114]⟩)).setCell ⟨b, d.len * 5 + 3, none⟩ (.slice none 0 0)).setCell ⟨b, d.len * 5 + 4, none⟩ (.int .i64 (-1))) ∧ Ov n0 m bx w wz ∧ wz.heap[bx]? = some (.cells #[.int .i64 x, .int .i64 y, .string st, .slice (some ⟨b, 0, none⟩) ks.len cap, .int .i64 z] 25 (0, 0))) := ⟨_, rfl, O3, E3⟩
      clear c1 o2 O1 O2 O3 E1 E2 E3 e0 e1 e2 e3 e4 p0 p1 p2 p3 p4 pf hcb hcs hcb2 hcs2 hi5 hbne S1
      go_wp2
      obtain ⟨wz, hwz, O4, E4⟩ := HZ.out
      clear HZ
      rw [← hwz]
      exact ⟨⟨_, kr, hf2, rfl, E4, O4⟩, by simp [intOf]; omega⟩
theorem over_ok : ∀ N, OverOk N
  | 0 => fun x y z st ks ao cap n0 m w h => absurd h (Nat.not_lt_zero _)
  | N + 1 => over_step (over_ok N)
end Go.Proofs.YtafnlhnenmpfoaaGreatDoor
namespace Go.Proofs.YtafnlhnenmpfoaaGreatDoor
open Go.ChangeShapes Go.WideShapes Go.ChangeAt Go.RowKit
set_option linter.unusedVariables false
set_option linter.unusedSimpArgs false

/-- What is read: the tree, the error, the place. -/
def prs (l : List UInt8) : Ex × Nat × Nat :=
  match parseA l with
  | ⟨none⟩ => (noEx, 0, 0)
  | ⟨some (.inl (er, a))⟩ => (noEx, er, a)
  | ⟨some (.inr (x, _))⟩ => (x, 0, 0)
theorem prs_fit (l : List UInt8) : (prs l).1.kids.len ≤ 1000000000 ∧ (prs l).1.kids.short := by
  unfold prs
  cases hp : parseA l using Rs.on with
  | out => exact ⟨by show 0 ≤ _; omega, trivial⟩
  | bad e a => exact ⟨by show 0 ≤ _; omega, trivial⟩
  | ok x t => exact ⟨(parse_okT hp).fit.len, (parse_okT hp).fit.sh⟩
theorem PostR.to3 {w : World} {l : List UInt8} {e : Ending} {w' : World} (h : PostR w (parseA l) e w') : ∃ ao cap, e = .returned (.tuple #[exV (prs l).1 ao cap, .int .i64 ((prs l).2.1 : Nat), .int .i64 ((prs l).2.2 : Nat)]) ∧ SlA w' (prs l).1.kids ao ∧ Below w.heap.size w w' := by
  unfold prs
  cases hp : parseA l using Rs.on with
  | out => rw [hp] at h; exact h.elim
  | bad er a => rw [hp] at h; obtain ⟨rfl, b⟩ := h; exact ⟨none, 0, rfl, Sl.nil _ _ _, b⟩
  | ok x t => rw [hp] at h; obtain ⟨ao, cap, rfl, S, b⟩ := h; exact ⟨ao, cap, rfl, Sl.all S, b⟩
theorem PostRc.to3 {w : World} {l : List UInt8} {e : Ending} {w' : World} (h : PostRc w (parseA l) e w') : ∃ ao cap, e = .returned (.tuple #[exV (prs l).1 ao cap, .int .i64 ((prs l).2.1 : Nat), .int .i64 ((prs l).2.2 : Nat)]) ∧ Slc w' (Nw w.heap.size) (prs l).1.kids ao cap ∧ Below w.heap.size w w' := by
  unfold prs
  cases hp : parseA l using Rs.on with
  | out => rw [hp] at h; exact h.elim
  | bad er a => rw [hp] at h; obtain ⟨rfl, b⟩ := h; exact ⟨none, 0, rfl, Slc.nil _ _, b⟩
  | ok x t => rw [hp] at h; obtain ⟨ao, cap, rfl, S, b⟩ := h; exact ⟨ao, cap, rfl, S, b⟩
theorem Ov.below {n0 m s n : Nat} {w w' : World} (h : Ov n0 m s w w') (h0 : n ≤ n0) (h1 : n ≤ s) : Below n w w' := ⟨h.os, h.tape, h.output, h.size, fun k hk => h.blk k (by omega) (.inl (by omega))⟩
set_option maxRecDepth 100000 in
set_option maxHeartbeats 4000000 in
theorem parses_walk (s : ByteArray) (w : World) (hs : s.size ≤ 140737488351232) (FX : FixA w) :
    Calls Tryz.prog 3 #[.string s] w fun e w' => e = .returned (.bool true) ∧ Below w.heap.size w w' := by
  have hs2 : s.size ≤ maxLen := by unfold maxLen; omega
  obtain ⟨hfl, hfs⟩ := prs_fit s.data.toList
  have hcp := fun (w1 : World) => (parse_q s w1 hs2).mono fun e w' h => PostR.to3 h
  have hcr := fun (w1 : World) (F : FixA w1) => (parse_rc s w1 F.fx.fx.wd F.er ⟨F.fx.fx.tb.1, F.fx.fx.tb.2.1, F.fx.fx.tb.2.2⟩ hs2).mono fun e w' h => PostRc.to3 h
  obtain ⟨X, hX⟩ : ∃ X, X = (prs s.data.toList).1 := ⟨_, rfl⟩
  rw [← hX] at hfl hfs
  simp only [← hX] at hcp hcr
  generalize (prs s.data.toList).2.1 = er at hcp hcr
  generalize (prs s.data.toList).2.2 = pa at hcp hcr
  clear hX
  have c1 := awake_r w FX
  go_enter Tryz.func3, Tryz.ntmps3
  go_wp2_with fail
  refine c1.mono ?_
  rintro e w1 ⟨rfl, b1⟩
  clear c1
  have c2 := hcp w1
  go_wp2_with fail
  refine c2.mono ?_
  rintro e w2 ⟨aow, capw, rfl, S2, b2⟩
  clear c2 hcp
  have b3 : Below w2.heap.size w2 (w2.alloc (.cells #[.int .i64 X.k, .int .i64 X.n, stv X.nm, .slice aow X.kids.len capw, .int .i64 X.a] 25)) := (Below.refl _ w2).alloc (Nat.le_refl _) _
  have W3 : (w2.alloc (.cells #[.int .i64 X.k, .int .i64 X.n, stv X.nm, .slice aow X.kids.len capw, .int .i64 X.a] 25)).heap[w2.heap.size]? = some (.cells #[.int .i64 X.k, .int .i64 X.n, stv X.nm, .slice aow X.kids.len capw, .int .i64 X.a] 25) := heap_alloc_new w2 _
  have S3 := SlA.below S2 b3
  have B3 := (b1.trans (b2.mono b1.size)).trans (b3.mono (Nat.le_trans b1.size b2.size))
  have F3 := FX.below B3
  rw [exV_out]
  go_upto_region 3 with fail
  generalize w2.alloc (.cells #[.int .i64 X.k, .int .i64 X.n, stv X.nm, .slice aow X.kids.len capw, .int .i64 X.a] 25) = w3 at *
  generalize w2.heap.size = bw at *
  have HB3 : Hid (Below w.heap.size w w3) := B3
  have hsz3 : w.heap.size ≤ w3.heap.size := B3.size
  have hbw := lt_of_block W3
  clear b1 b2 b3 B3 S2 FX
  go_wp2
  go_loopw [7] (fun v wr => ∃ i : Nat, i ≤ 2 ∧ v = .int .i64 (i : Nat) ∧ Below w3.heap.size w3 wr) (fun v _ => 2 - (intOf v).toNat)
  case atStart => exact ⟨0, by omega, by go_num, Below.refl _ _⟩
  case round =>
    obtain ⟨i, hi, rfl, B4⟩ := hrel
    by_cases hi2 : i = 2
    · subst hi2
      have HZ : Hid (Below w.heap.size w wr) := HB3.out.trans (B4.mono hsz3)
      clear B4
      go_wp2
      go_ret
      exact ⟨rfl, HZ.out⟩
    have hiI : (i : Int) < 2 := by omega
    have c4 := hcr wr (F3.below B4)
    go_wp2_with fail
    refine c4.mono ?_
    rintro e w5 ⟨ao, cap, rfl, S5, b5⟩
    clear c4
    have b6 : Below w5.heap.size w5 (w5.alloc (.cells #[.int .i64 X.k, .int .i64 X.n, stv X.nm, .slice ao X.kids.len cap, .int .i64 X.a] 25)) := (Below.refl _ w5).alloc (Nat.le_refl _) _
    have X6 : (w5.alloc (.cells #[.int .i64 X.k, .int .i64 X.n, stv X.nm, .slice ao X.kids.len cap, .int .i64 X.a] 25)).heap[w5.heap.size]? = some (.cells #[.int .i64 X.k, .int .i64 X.n, stv X.nm, .slice ao X.kids.len cap, .int .i64 X.a] 25) := heap_alloc_new w5 _
    have S6 := S5.allocN (.cells #[.int .i64 X.k, .int .i64 X.n, stv X.nm, .slice ao X.kids.len cap, .int .i64 X.a] 25)
    have B5 := B4.trans (b5.mono B4.size)
    have B6 := B5.trans (b6.mono B5.size)
    rw [exV_out]
    go_upto_region 7 with fail
    generalize w5.alloc (.cells #[.int .i64 X.k, .int .i64 X.n, stv X.nm, .slice ao X.kids.len cap, .int .i64 X.a] 25) = w6 at *
    generalize w5.heap.size = bx at *
    have W6 := (B6.block _ hbw).trans W3
    have SW6 := SlA.below S3 B6
    obtain ⟨p0, p1, p2, p3, p4, pf⟩ := box5 X6
    obtain ⟨q0, q1, q2, q3, q4, qf⟩ := box5 W6
    have c7 := whole_ok (X.kids.size + 1) X ao aow cap capw w6 (by omega) hfl hfs (Sl.all S6.sl) SW6
    rw [exV_out, exV_out] at c7
    go_wp2_with fail
    refine c7.mono ?_
    rintro e w7 ⟨rfl, b7⟩
    have B7 := B6.trans (b7.mono B6.size)
    have X7 := (b7.block _ (lt_of_block X6)).trans X6
    have S7 : Slc w7 (Nw wr.heap.size) X.kids ao cap := S6.mono (fun k _ hl => b7.block k hl) b7.size (fun _ h _ => h)
    have hne1 : ((er : Int) != (er : Int)) = false := by simp
    have hne2 : ((pa : Int) != (pa : Int)) = false := by simp
    clear c7 p0 p1 p2 p3 p4 pf q0 q1 q2 q3 q4 qf S5 S6 b5 b6 b7 B5 B6 W6 SW6 X6
    obtain ⟨p0, p1, p2, p3, p4, pf⟩ := box5 X7
    have c8 := over_ok (X.kids.size + 1) X.k X.n X.a ⟨X.nm.toArray⟩ X.kids ao cap wr.heap.size w7.heap.size w7 (by omega) hfl hfs (Nat.le_refl _) S7.sw
    go_wp2_with fail
    refine c8.mono ?_
    rintro e w8 ⟨rfl, o8⟩
    have HZ : Hid (Below w3.heap.size w3 w8) := B7.trans (o8.below B4.size B7.size)
    clear c8 o8 B7 S7 X7 p0 p1 p2 p3 p4 pf B4
    go_wp2
    go_roundw
    case rel => exact ⟨i + 1, by omega, by go_num, HZ.out⟩
    case measure => simp [intOf]; omega
end Go.Proofs.YtafnlhnenmpfoaaGreatDoor
namespace Go.Proofs.YtafnlhnenmpfoaaGreatDoor
open Go.ChangeShapes Go.WideShapes Go.ChangeAt Go.RowKit
set_option linter.unusedVariables false

theorem ownK : ownKnob Tryz.prog.godebug = none := by kernel_rfl
theorem cellsInt : Tryz.prog.cellsOf 3 = 1 := by kernel_rfl
theorem gWd : Tryz.prog.globalNamed "isthmus/lex.words" = some 1 := by kernel_rfl
theorem gWdType : (Tryz.prog.globals[1]?).map (·.type) = some 142 := by kernel_rfl
theorem cellsWd : Tryz.prog.cellsOf 142 = 27 := by kernel_rfl
theorem cellsStr : Tryz.prog.cellsOf 9 = 1 := by kernel_rfl
theorem gSynType : (Tryz.prog.globals[4]?).map (·.type) = some 127 := by kernel_rfl
theorem gRanType : (Tryz.prog.globals[5]?).map (·.type) = some 127 := by kernel_rfl
theorem cellsEs : Tryz.prog.cellsOf 178 = 1 := by kernel_rfl
theorem starEs : "*" ++ "errors.errorString" = "*errors.errorString" := by decide
/-- The one type of that name. -/
theorem rowEs (u : TypeId) (h : Tryz.prog.typeName? 3 u = some "*errors.errorString") : u = 176 :=
  typeName_ptr_named (nm := "errors.errorString") (by rw [starEs]; kernel_rfl) (by kernel_rfl) (by decide) u (by rw [starEs]; exact h)
/-- The words as the row lists them. -/
def wordsD : List (DataW Unit) := (List.range 27).map fun j => .lit (.string (wd j).data.toList)
theorem wordsD_eq : (Rows.laid_isthmus_lex_words : DataW Unit) = .agg wordsD := by rfl
theorem wordsA_list : wordsA.toList = (List.range 27).map fun j => Value.string (wd j) := by rfl
theorem words_of_cells {W : World} {fuel : Nat} {cs : List Value} {p : List MemPlace} (h : DataW.trod (fun _ => ()) Tryz.prog W 0 (fun _ => true) false fuel 142 cs = some (.agg wordsD, p)) : cs = wordsA.toList := by
  obtain ⟨xs, m, _, hx, hl, hlen, hf⟩ := DataW.trod_array Tryz.underlying142 h
  rw [cellsWd] at hl
  simp only [cellsStr, Nat.mul_one] at hf
  simp only [Prod.mk.injEq, DataW.agg.injEq] at hx
  rw [wordsA_list]
  apply List.ext_getElem?
  intro i
  by_cases hi : i < 27
  · have hfi := hf i hi
    have hxi : xs[i]? = some xs[i] := List.getElem?_eq_getElem (by omega)
    rw [hxi] at hfi
    obtain ⟨s, h1, h2⟩ := DataW.trod_string Tryz.underlying9 hfi
    have hc : cs[i]? = some (.string s) := by
      have := congrArg (·[0]?) h1
      simpa [List.getElem?_take, List.getElem?_drop] using this
    have hd : (xs.map (·.1))[i]? = some (.lit (.string s.data.toList)) := by rw [List.getElem?_map, hxi, h2.1]; rfl
    rw [← hx.1] at hd
    unfold wordsD at hd
    rw [List.getElem?_map, List.getElem?_range hi] at hd
    simp only [Option.map_some, Option.some.injEq, DataW.lit.injEq, Lit.string.injEq] at hd
    have hs := bytes_eq.1 hd
    rw [hc, List.getElem?_map, List.getElem?_range hi, ← hs]
    rfl
  · rw [List.getElem?_eq_none (by omega), List.getElem?_eq_none (by simp; omega)]
theorem wd_of_laid {W : World} {r : List (String × DataW Unit)} (h : laidMet Tryz.prog (("isthmus/lex.words", Rows.laid_isthmus_lex_words) :: r) W) : Wd W := by
  rw [wordsD_eq] at h
  obtain ⟨ps, ⟨g', t', cs, fuel, p, q, hg', ht', hvar, hd, _, _⟩, _⟩ := h
  obtain rfl := Option.some.inj (gWd.symm.trans hg')
  obtain rfl := Option.some.inj (gWdType.symm.trans ht')
  have hcs := words_of_cells hd
  have hcs' : cs = wordsA := Array.toList_inj.1 hcs
  subst hcs'
  simp only [World.var?, gWd, Option.bind_some] at hvar
  split at hvar
  · rename_i c t fr hh
    cases hvar
    exact ⟨t, fr, hh⟩
  · cases hvar
/-- What a variable's block is laid with. -/
def layCells (cs : Array Value) : Obj → Obj
  | .cells _ t frozen => .cells cs t frozen
  | o => o
def litCells : DataW Unit → List Value
  | .agg l => l.map fun d => match d with | .lit (.int k z) => Value.int k z | _ => .nilIface
  | _ => []
abbrev synS : ByteArray := ⟨#[105, 110, 118, 97, 108, 105, 100, 32, 115, 121, 110, 116, 97, 120]⟩
abbrev rngS : ByteArray := ⟨#[118, 97, 108, 117, 101, 32, 111, 117, 116, 32, 111, 102, 32, 114, 97, 110, 103, 101]⟩
def lowB (P : Program) : Nat := (World.holding P default ⟨#[], #[], []⟩).heap.size
/-- A world for the witness: the settled one, the variables holding what their initialisers lay. -/
def laidWorld (P : Program) (os : Os) : World :=
  let w0 := World.holding P os ⟨#[.cells #[.string synS] 178, .cells #[.string rngS] 178], #[], []⟩
  { w0 with heap := (((((w0.heap.modify 7 (layCells (litCells Rows.laid_math_bits_deBruijn32tab).toArray)).modify 8 (layCells (litCells Rows.laid_math_bits_deBruijn64tab).toArray)).modify 6 (layCells (litCells Rows.laid_internal_strconv_uint64pow10).toArray)).modify 1 (layCells wordsA)).modify 4 (layCells #[.iface 176 (.pointer (some ⟨lowB P, 0, none⟩))])).modify 5 (layCells #[.iface 176 (.pointer (some ⟨lowB P + 1, 0, none⟩))]) }
end Go.Proofs.YtafnlhnenmpfoaaGreatDoor

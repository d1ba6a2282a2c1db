/- A tree that came in, opened to its cells. -/
import Derived.Test.YtafnlhnenmpfoaaDoorRowK13
namespace Go.Proofs.YtafnlhnenmpfoaaDoor
open Go.ChangeShapes Go.WideShapes Go.ChangeAt Go.RowKit
set_option linter.unusedVariables false

/-- Numbers, names and lists as they can be read. -/
def rawP (n : Int) (nm : List UInt8) (a : Int) (len : Nat) : Prop := -9223372036854775808 ≤ n ∧ n ≤ 9223372036854775807 ∧ nm.length ≤ maxLen ∧ -9223372036854775808 ≤ a ∧ a ≤ 9223372036854775807 ∧ len ≤ maxLen
def Fs.raw : Fs → Prop
  | ⟨none⟩ => True
  | ⟨some ⟨_, n, nm, a, ks, r⟩⟩ => rawP n nm a ks.len ∧ ks.raw ∧ r.raw
def Ex.raw (e : Ex) : Prop := rawP e.n e.nm e.a e.kids.len ∧ e.kids.raw
theorem Fs.raw_wide : ∀ {f : Fs}, f.raw → f.wide
  | ⟨none⟩, h => trivial
  | ⟨some ⟨k, n, nm, a, ks, r⟩⟩, h => ⟨h.1.2.2.2.2.2, Fs.raw_wide (f := ks) h.2.1, Fs.raw_wide (f := r) h.2.2⟩
theorem Fs.len_size' : ∀ (x : Fs), x.len ≤ x.size
  | ⟨none⟩ => Nat.le_refl _
  | ⟨some ⟨k, n, nm, a, ks, r⟩⟩ => by have := Fs.len_size' r; show r.len + 1 ≤ ks.size + r.size + 1; omega
theorem Fs.raw_fit : ∀ {f : Fs}, f.raw → f.size ≤ 100000000 → f.short ∧ f.rng
  | ⟨none⟩, h, hs => ⟨trivial, trivial⟩
  | ⟨some ⟨k, n, nm, a, ks, r⟩⟩, h, hs => by
    have hs : ks.size + r.size + 1 ≤ 100000000 := hs
    have h1 := Fs.raw_fit (f := ks) h.2.1 (by omega)
    have h2 := Fs.raw_fit (f := r) h.2.2 (by omega)
    have := Fs.len_size' ks
    exact ⟨⟨h.1.2.2.1, by omega, h1.1, h2.1⟩, ⟨h.1.1, h.1.2.1, h1.2, h2.2⟩⟩
theorem Ex.raw_fit {e : Ex} (h : e.raw) (hs : e.kids.size ≤ 100000000) : e.fit := by
  obtain ⟨h1, h2⟩ := Fs.raw_fit h.2 hs
  have := Fs.len_size' e.kids
  exact ⟨h.1.2.2.1, h1, by omega, h.1.1, h.1.2.1, h2⟩
theorem cellsEx : Tryd.prog.cellsOf 24 = 5 := by kernel_rfl
theorem cellsSl : Tryd.prog.cellsOf 22 = 1 := by kernel_rfl
theorem add_plain' (b off j : Nat) : (⟨b, off, none⟩ : Addr).add j = ⟨b, off + j, none⟩ := by
  unfold Addr.add
  split
  · subst j; simp_all
  · rfl
set_option maxRecDepth 100000 in
theorem open_tree {H : Type} {enc : TypeId × Value → H} {W : World} {sp : Nat → Bool} {held : Bool} : ∀ (fuel : Nat) (cs : List Value) (x : DataW H × List MemPlace), DataW.trod enc Tryd.prog W 0 sp held fuel 24 cs = some x → (∀ q ∈ x.2, q.block < W.heap.size) →
    ∃ (e : Ex) (ao : Option Addr) (cap : Nat), cs = [.int .i64 e.k, .int .i64 e.n, stv e.nm, .slice ao e.kids.len cap, .int .i64 e.a] ∧ SlA W e.kids ao ∧ e.raw := by
  intro fuel
  induction fuel using Nat.strongRecOn with
  | _ fuel IH =>
  intro cs x h hlt
  obtain ⟨xs, k, hk, hxy, hl, hxl, hff⟩ := DataW.trod_struct Tryd.underlying24 h
  rw [cellsEx] at hl
  match xs, hxl, cs, hl with
  | [y0, y1, y2, y3, y4], _, [u0, u1, u2, u3, u4], _ =>
    have g0 := hff 0 _ rfl
    have g1 := hff 1 _ rfl
    have g2 := hff 2 _ rfl
    have g3 := hff 3 _ rfl
    have g4 := hff 4 _ rfl
    simp [cellsInt, cellsStr, cellsSl] at g0 g1 g2 g3 g4
    obtain ⟨z0, e0, x0, w0⟩ := DataW.trod_int Tryd.underlying3 g0
    obtain ⟨z1, e1, x1, w1⟩ := DataW.trod_int Tryd.underlying3 g1
    obtain ⟨z2, e2, x2, w2⟩ := DataW.trod_string Tryd.underlying9 g2
    obtain ⟨z4, e4, x4, w4⟩ := DataW.trod_int Tryd.underlying3 g4
    simp at e0 e1 e2 e4
    have b1 := bd_i64 w1
    have b4 := bd_i64 w4
    have hz2 : (z2.data.toList).length ≤ maxLen := by rw [data_len]; exact w2
    have hlt3 : ∀ q ∈ y3.2, q.block < W.heap.size := fun q hq => hlt q (by rw [hxy]; simp [hq])
    rcases DataW.trod_slice Tryd.underlying22 g3 with ⟨hs, _⟩ | ⟨a, len, cap, elems, rest, n, hn, hs, hx3, _, hlc, hcm, hel, hE, _, _⟩
    · simp at hs
      refine ⟨⟨z0, z1, z2.data.toList, z4, .nil⟩, none, 0, ?_, .inl rfl, ⟨b1.1, b1.2, hz2, b4.1, b4.2, by show 0 ≤ _; omega⟩, trivial⟩
      rw [e0, e1, e2, e4, hs, str_lit rfl]
      rfl
    · simp at hs
      obtain ⟨b, off, spot⟩ := a
      have each : ∀ i, i < len → ∃ (e : Ex) (ak : Option Addr) (ck : Nat), spot = none ∧ b < W.heap.size ∧ (∀ j u, ([.int .i64 e.k, .int .i64 e.n, stv e.nm, .slice ak e.kids.len ck, .int .i64 e.a] : List Value)[j]? = some u → W.cell? ⟨b, off + i * 5 + j, none⟩ = some u) ∧ SlA W e.kids ak ∧ e.raw := by
        intro i hi
        have hEi := hE i hi
        rw [List.getElem?_eq_getElem (by omega), cellsEx] at hEi
        obtain ⟨cs', h1, h2⟩ := Option.bind_eq_some_iff.1 hEi
        obtain ⟨_, hlen, hcell⟩ := World.cells?_some h1
        have hsub : ∀ q ∈ (elems[i]'(by omega)).2, q.block < W.heap.size := fun q hq => hlt3 q (by
          rw [hx3]
          simp only [List.mem_append, List.mem_flatMap]
          exact .inr ⟨_, .inl (List.getElem_mem _), hq⟩)
        obtain ⟨e, ak, ck, hcs, SK, hr⟩ := IH n (by omega) cs' _ h2 hsub
        have hspot : spot = none := by
          have hE0 := hE 0 (by omega)
          rw [List.getElem?_eq_getElem (by omega), cellsEx] at hE0
          obtain ⟨cs0, k1, k2⟩ := Option.bind_eq_some_iff.1 hE0
          obtain ⟨_, klen, kcell⟩ := World.cells?_some k1
          have k3 := kcell 0 (by omega)
          rw [List.getElem?_eq_getElem (by omega)] at k3
          simpa [Addr.add] using World.cell?_spot k3
        subst hspot
        have hbl : b < W.heap.size := hlt3 (.cell b off) (by
          rw [hx3]
          exact List.mem_append_left _ (MemPlace.mem_row.2 ⟨0, by rw [cellsEx]; omega, by simp⟩))
        refine ⟨e, ak, ck, rfl, hbl, fun j u hu => ?_, SK, hr⟩
        rw [← hcs] at hu
        have hj : j < 5 := by
          by_cases hj : j < 5
          · exact hj
          · rw [List.getElem?_eq_none (by omega)] at hu
            cases hu
        have := hcell j hj
        rw [add_plain', add_plain', hu] at this
        exact this
      have build : ∀ m, m ≤ len → ∃ f : Fs, f.len = m ∧ f.raw ∧ (m = 0 ∨ spot = none ∧ b < W.heap.size) ∧ ∃ zs, (∀ j u, zs[j]? = some u → W.cell? ⟨b, off + (len - m) * 5 + j, none⟩ = some u) ∧ Fc W (fun _ => True) f zs := by
        intro m
        induction m with
        | zero => intro _; exact ⟨.nil, rfl, trivial, .inl rfl, [], fun j u hu => by simp at hu, rfl⟩
        | succ m ih =>
          intro hm
          obtain ⟨f, f1, f2, _, zs, f3, f4⟩ := ih (by omega)
          obtain ⟨e, ak, ck, s1, s2, s3, s4, s5⟩ := each (len - (m + 1)) (by omega)
          refine ⟨.cons e.k e.n e.nm e.a e.kids f, by show f.len + 1 = _; rw [f1], ⟨s5.1, s5.2, f2⟩, .inr ⟨s1, s2⟩, .int .i64 e.k :: .int .i64 e.n :: stv e.nm :: .slice ak e.kids.len ck :: .int .i64 e.a :: zs, fun j u hu => ?_, ak, ck, zs, rfl, s4, f4⟩
          by_cases hj : j < 5
          · refine s3 j u ?_
            rw [← hu]
            match j, hj with
            | 0, _ => rfl
            | 1, _ => rfl
            | 2, _ => rfl
            | 3, _ => rfl
            | 4, _ => rfl
          · obtain ⟨i, rfl⟩ : ∃ i, j = i + 5 := ⟨j - 5, by omega⟩
            have := f3 i u (by simpa using hu)
            rw [show off + (len - (m + 1)) * 5 + (i + 5) = off + (len - m) * 5 + i by
              have : len - m = len - (m + 1) + 1 := by omega
              rw [this]
              omega]
            exact this
      obtain ⟨f, f1, f2, f5, zs, f3, f4⟩ := build len (Nat.le_refl _)
      have hcm' : len ≤ maxLen := Nat.le_trans hlc hcm
      refine ⟨⟨z0, z1, z2.data.toList, z4, f⟩, some ⟨b, off, spot⟩, cap, ?_, ?_, ⟨b1.1, b1.2, hz2, b4.1, b4.2, by show f.len ≤ _; rw [f1]; exact hcm'⟩, f2⟩
      · show _ = [Value.int .i64 z0, .int .i64 z1, stv z2.data.toList, .slice (some ⟨b, off, spot⟩) f.len cap, .int .i64 z4]
        rw [e0, e1, e2, e4, hs, str_lit rfl, f1]
      · rcases f5 with h0 | ⟨rfl, hb⟩
        · refine .inl ?_
          rw [h0] at f1
          cases f using Fs.on with
          | nil => rfl
          | cons k n nm a ks r => cases f1
        · refine .inr ⟨b, off, zs, rfl, trivial, hb, fun j u hu => ?_, f4⟩
          have := f3 j u hu
          rw [Nat.sub_self, Nat.zero_mul, Nat.add_zero] at this
          exact this
/-- A tree that came in. -/
theorem open_ex {H : Type} {enc : TypeId × Value → H} {W : World} {sp : Nat → Bool} {held : Bool} {v : Value} {d : DataW H} {ps : List MemPlace} (h : DataW.Trod enc Tryd.prog W 0 sp held 24 v d ps) (hlt : ∀ q ∈ ps, q.block < W.heap.size) :
    ∃ (e : Ex) (ao : Option Addr) (cap : Nat), v = exV e ao cap ∧ SlA W e.kids ao ∧ e.raw := by
  obtain ⟨fuel, hf⟩ := h
  obtain ⟨e, ao, cap, hcs, S, R⟩ := open_tree fuel _ _ hf hlt
  refine ⟨e, ao, cap, ?_, S, R⟩
  have hcs' : v.cells = #[.int .i64 e.k, .int .i64 e.n, stv e.nm, .slice ao e.kids.len cap, .int .i64 e.a] := by
    apply Array.toList_inj.1
    exact hcs
  cases v with
  | agg cs => rw [show (Value.agg cs).cells = cs from rfl] at hcs'; rw [hcs']; rfl
  | _ => have h5 := congrArg Array.size hcs'; simp [Value.cells] at h5
end Go.Proofs.YtafnlhnenmpfoaaDoor

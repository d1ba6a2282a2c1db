/- Has a tree too many parts? Heavy of package isthmusref12. -/
import Derived.Test.YtojleoionpnjpaaGreatDoorRdqT
import Derived.Lib.AtoiAllCases
namespace Go.Proofs.YtojleoionpnjpaaGreatDoor
set_option linter.unusedVariables false
set_option linter.unusedSimpArgs false

/-- A token within bounds. -/
def tkG (x : Tk) : Prop := -9223372036854775808 ≤ x.n ∧ x.n ≤ 9223372036854775807 ∧ x.t.length ≤ 2000 ∧ x.a ≤ 2000
def Fs.gd : Fs → Prop
  | ⟨none⟩ => True
  | ⟨some ⟨_, n, nm, a, ks, r⟩⟩ => -9223372036854775808 ≤ n ∧ n ≤ 9223372036854775807 ∧ nm.length ≤ 2000 ∧ 0 ≤ a ∧ a ≤ 2000 ∧ ks.gd ∧ r.gd
theorem Fs.gd_app : ∀ {x y : Fs}, x.gd → y.gd → (x.app y).gd
  | ⟨none⟩, y, h, k => k
  | ⟨some ⟨_, _, _, _, _, r⟩⟩, y, h, k => ⟨h.1, h.2.1, h.2.2.1, h.2.2.2.1, h.2.2.2.2.1, h.2.2.2.2.2.1, Fs.gd_app h.2.2.2.2.2.2 k⟩
def Ex.gd (e : Ex) : Prop := (one e).gd
def Ex.sz (e : Ex) : Nat := (one e).size
theorem Ex.gd_mk {k n : Int} {nm : List UInt8} {a : Nat} {ks : Fs} (h1 : -9223372036854775808 ≤ n) (h2 : n ≤ 9223372036854775807) (h3 : nm.length ≤ 2000) (h4 : a ≤ 2000) (h5 : ks.gd) : (⟨k, n, nm, (a : Nat), ks⟩ : Ex).gd := ⟨h1, h2, h3, by show (0 : Int) ≤ (a : Nat); omega, by show ((a : Nat) : Int) ≤ 2000; omega, h5, trivial⟩
theorem Ex.sz_mk (k n : Int) (nm : List UInt8) (a : Int) (ks : Fs) : (⟨k, n, nm, a, ks⟩ : Ex).sz = ks.size + 1 := rfl
theorem gd_snoc {x : Fs} {e : Ex} (h : x.gd) (k : e.gd) : (x.snoc e).gd := Fs.gd_app h k
theorem sz_snoc (x : Fs) (e : Ex) : (x.snoc e).size = x.size + e.sz := Fs.size_app x (one e)
/-- What is left lies in T, what is read is within bounds, and both together are no more than b. -/
def Gb {α : Type} (T : List Tk) (b : Nat) (P : α → Prop) (sz : α → Nat) (R : Rs α) : Prop := ∀ x t, R = .ok x t → t <:+ T ∧ P x ∧ sz x + t.length ≤ b
section
variable {T : List Tk}
theorem Gb.bind {α β : Type} {b1 b : Nat} {P : α → Prop} {sz : α → Nat} {Q : β → Prop} {sq : β → Nat} {R : Rs α} {f : α → List Tk → Rs β} (h : Gb T b1 P sz R) (hf : ∀ x t, t <:+ T → P x → sz x + t.length ≤ b1 → Gb T b Q sq (f x t)) : Gb T b Q sq (R.bind f) := by
  cases R using Rs.on with
  | out => intro x t e; cases e
  | bad e a => intro x t e; cases e
  | ok x t =>
    obtain ⟨h1, h2, h3⟩ := h x t rfl
    exact hf x t h1 h2 h3
theorem Gb.bad {α : Type} {b e a : Nat} {P : α → Prop} {sz : α → Nat} : Gb T b P sz (.bad e a : Rs α) := fun x t h => by cases h
theorem Gb.out {α : Type} {b : Nat} {P : α → Prop} {sz : α → Nat} : Gb T b P sz (.out : Rs α) := fun x t h => by cases h
theorem Gb.ok {α : Type} {b : Nat} {P : α → Prop} {sz : α → Nat} {x : α} {t : List Tk} (h : t <:+ T) (hp : P x) (hs : sz x + t.length ≤ b) : Gb T b P sz (.ok x t) := fun y u e => by
  obtain ⟨e1, e2⟩ := Rs.ok_inj e
  subst e1 e2
  exact ⟨h, hp, hs⟩
theorem gb_pass (HT : ∀ y, y ∈ T → tkG y) (s : List UInt8) {ts : List Tk} (h : ts <:+ T) : Gb T ts.length (fun a => a ≤ 2000) (fun _ => 1) (passT s ts) := by
  cases ts with
  | nil => exact Gb.out
  | cons x r =>
    simp only [passT]
    split
    · exact Gb.ok ((List.suffix_cons x r).trans h) (HT x (h.mem (by simp))).2.2.2 (by simp; omega)
    · exact Gb.bad
theorem gb_kind (HT : ∀ y, y ∈ T → tkG y) (k : Nat) {ts : List Tk} (h : ts <:+ T) : Gb T ts.length tkG (fun _ => 1) (passK k ts) := by
  cases ts with
  | nil => exact Gb.out
  | cons x r =>
    simp only [passK]
    split
    · exact Gb.ok ((List.suffix_cons x r).trans h) (HT x (h.mem (by simp))) (by simp; omega)
    · exact Gb.bad
theorem gb_enter (HT : ∀ y, y ∈ T → tkG y) (s : List UInt8) (o : Nat) {ts : List Tk} (h : ts <:+ T) : Gb T ts.length (fun a => a ≤ 2000) (fun _ => 1) (enterT s o ts) := by
  cases ts with
  | nil => exact Gb.out
  | cons x r =>
    simp only [enterT]
    split
    · split
      · exact Gb.bad
      · exact Gb.ok ((List.suffix_cons x r).trans h) (HT x (h.mem (by simp))).2.2.2 (by simp; omega)
    · exact Gb.bad
variable {rec : Rdr}
theorem gb_argsL (HT : ∀ y, y ∈ T → tkG y) (H : ∀ row o q ts, ts <:+ T → Gb T ts.length Ex.gd Ex.sz (rec row o q ts)) : ∀ (j : Nat) (o q : Nat) (acc : Fs) (ts : List Tk) (b : Nat), ts <:+ T → acc.gd → acc.size + ts.length ≤ b → Gb T b Fs.gd Fs.size (argsL rec j o q acc ts)
  | 0, o, q, acc, ts, b, h, hg, hb => Gb.ok h hg hb
  | j + 1, o, q, acc, ts, b, h, hg, hb => by
    unfold argsL
    refine (gb_pass HT _ h).bind fun _ t1 h1 _ l1 => (H _ _ _ _ h1).bind fun e t2 h2 p2 l2 => ?_
    exact gb_argsL HT H j o q _ t2 b h2 (gd_snoc hg p2) (by rw [sz_snoc]; omega)
theorem gb_args (HT : ∀ y, y ∈ T → tkG y) (H : ∀ row o q ts, ts <:+ T → Gb T ts.length Ex.gd Ex.sz (rec row o q ts)) (many o q : Nat) {ts : List Tk} (h : ts <:+ T) : Gb T (ts.length - 1) Fs.gd Fs.size (argsR rec many o q ts) := by
  unfold argsR
  refine (gb_enter HT _ _ h).bind fun _ t1 h1 _ l1 => (H _ _ _ _ h1).bind fun e t2 h2 p2 l2 => ?_
  refine (gb_argsL HT H _ _ _ _ t2 t1.length h2 p2 l2).bind fun ks t3 h3 p3 l3 => ?_
  exact (gb_pass HT _ h3).bind fun _ t4 h4 _ l4 => Gb.ok h4 p3 (by omega)
theorem gb_choice (HT : ∀ y, y ∈ T → tkG y) (H : ∀ row o q ts, ts <:+ T → Gb T ts.length Ex.gd Ex.sz (rec row o q ts)) (o q : Nat) {ts : List Tk} (h : ts <:+ T) : Gb T ts.length Ex.gd Ex.sz (choiceR rec o q ts) := by
  unfold choiceR
  refine (gb_enter HT _ _ h).bind fun a t1 h1 p1 l1 => (H _ _ _ _ h1).bind fun x t2 h2 p2 l2 => ?_
  refine (gb_pass HT _ h2).bind fun _ t3 h3 _ l3 => (H _ _ _ _ h3).bind fun y t4 h4 p4 l4 => ?_
  refine (gb_pass HT _ h4).bind fun _ t5 h5 _ l5 => (H _ _ _ _ h5).bind fun z t6 h6 p6 l6 => ?_
  refine Gb.ok h6 (Ex.gd_mk (by omega) (by omega) (by simp) p1 (gd_snoc (gd_snoc p2 p4) p6)) ?_
  rw [Ex.sz_mk, sz_snoc, sz_snoc]
  show x.sz + y.sz + z.sz + 1 + _ ≤ _
  omega
theorem gb_memL (HT : ∀ y, y ∈ T → tkG y) (H : ∀ row o q ts, ts <:+ T → Gb T ts.length Ex.gd Ex.sz (rec row o q ts)) : ∀ (m : Nat) (o q : Nat) (acc : Fs) (ts : List Tk) (b : Nat), ts <:+ T → acc.gd → acc.size + ts.length ≤ b → Gb T b Fs.gd Fs.size (memL rec m o q acc ts)
  | 0, o, q, acc, ts, b, h, hg, hb => Gb.out
  | m + 1, o, q, acc, [], b, h, hg, hb => Gb.out
  | m + 1, o, q, acc, x :: r, b, h, hg, hb => by
    have _ := HT
    unfold memL
    simp only
    split
    · simp only [List.length_cons] at hb
      refine (H _ _ _ _ ((List.suffix_cons x r).trans h)).bind fun e t2 h2 p2 l2 => ?_
      exact gb_memL HT H m o q _ t2 b h2 (gd_snoc hg p2) (by rw [sz_snoc]; omega)
    · exact Gb.ok h hg hb
theorem gb_mem (HT : ∀ y, y ∈ T → tkG y) (H : ∀ row o q ts, ts <:+ T → Gb T ts.length Ex.gd Ex.sz (rec row o q ts)) (m o q : Nat) {ts : List Tk} (h : ts <:+ T) : Gb T ts.length Fs.gd Fs.size (memR rec m o q ts) := by
  cases ts with
  | nil => exact Gb.out
  | cons x r =>
    unfold memR
    simp only
    split
    · exact Gb.ok h trivial (by simp [Fs.size])
    · exact (H _ _ _ _ h).bind fun e t1 h1 p1 l1 => gb_memL HT H m o q _ t1 _ h1 p1 l1
theorem gb_set (HT : ∀ y, y ∈ T → tkG y) (H : ∀ row o q ts, ts <:+ T → Gb T ts.length Ex.gd Ex.sz (rec row o q ts)) (m o q : Nat) {ts : List Tk} (h : ts <:+ T) : Gb T ts.length Ex.gd Ex.sz (setR rec m o q ts) := by
  cases ts with
  | nil => exact Gb.out
  | cons x r =>
    have hx := HT x (h.mem (by simp))
    have hr : r <:+ T := (List.suffix_cons x r).trans h
    unfold setR
    simp only
    split
    · exact Gb.ok hr (Ex.gd_mk (by omega) (by omega) hx.2.2.1 hx.2.2.2 trivial) (by rw [Ex.sz_mk]; simp [Fs.size]; omega)
    · split
      · exact Gb.ok hr (Ex.gd_mk (by omega) (by omega) (by simp) hx.2.2.2 trivial) (by rw [Ex.sz_mk]; simp [Fs.size]; omega)
      · split
        · exact (gb_args HT H 1 o q hr).bind fun ks t h1 p1 l1 => Gb.ok h1 (Ex.gd_mk (by omega) (by omega) (by simp) hx.2.2.2 p1) (by rw [Ex.sz_mk]; simp; omega)
        · refine (gb_enter HT _ _ h).bind fun a t1 h1 p1 l1 => (gb_mem HT H m _ q h1).bind fun ks t2 h2 p2 l2 => (gb_pass HT _ h2).bind fun _ t3 h3 _ l3 => ?_
          exact Gb.ok h3 (Ex.gd_mk (by omega) (by omega) (by simp) p1 p2) (by rw [Ex.sz_mk]; omega)
theorem gb_quant (HT : ∀ y, y ∈ T → tkG y) (H : ∀ row o q ts, ts <:+ T → Gb T ts.length Ex.gd Ex.sz (rec row o q ts)) (m : Nat) (s : List UInt8) (k o q : Nat) (hk : k ≤ 100) {ts : List Tk} (h : ts <:+ T) : Gb T ts.length Ex.gd Ex.sz (quantR rec m s k o q ts) := by
  cases ts with
  | nil => exact Gb.out
  | cons x r =>
    unfold quantR
    simp only
    split
    · exact Gb.bad
    · refine (gb_enter HT _ _ h).bind fun a t1 h1 p1 l1 => (gb_kind HT _ h1).bind fun y t2 h2 p2 l2 => (gb_pass HT _ h2).bind fun _ t3 h3 _ l3 => ?_
      refine (gb_set HT H m _ _ h3).bind fun e t4 h4 p4 l4 => (gb_pass HT _ h4).bind fun _ t5 h5 _ l5 => (H _ _ _ _ h5).bind fun b t6 h6 p6 l6 => ?_
      refine Gb.ok h6 (Ex.gd_mk (by omega) (by omega) p2.2.2.1 p1 (gd_snoc p4 p6)) ?_
      rw [Ex.sz_mk, sz_snoc]
      show e.sz + b.sz + 1 + _ ≤ _
      omega
theorem gb_atom (HT : ∀ y, y ∈ T → tkG y) (H : ∀ row o q ts, ts <:+ T → Gb T ts.length Ex.gd Ex.sz (rec row o q ts)) (m o q : Nat) {ts : List Tk} (h : ts <:+ T) : Gb T ts.length Ex.gd Ex.sz (atomR rec m o q ts) := by
  cases ts with
  | nil => exact Gb.out
  | cons x r =>
    have hx := HT x (h.mem (by simp))
    have hr : r <:+ T := (List.suffix_cons x r).trans h
    unfold atomR
    simp only
    split
    · exact Gb.ok hr (Ex.gd_mk hx.1 hx.2.1 (by simp) hx.2.2.2 trivial) (by rw [Ex.sz_mk]; simp [Fs.size]; omega)
    · split
      · exact Gb.ok hr (Ex.gd_mk (by omega) (by omega) hx.2.2.1 hx.2.2.2 trivial) (by rw [Ex.sz_mk]; simp [Fs.size]; omega)
      · split
        · exact Gb.ok hr (Ex.gd_mk (by omega) (by omega) (by simp) hx.2.2.2 trivial) (by rw [Ex.sz_mk]; simp [Fs.size]; omega)
        · split
          · exact Gb.ok hr (Ex.gd_mk (by omega) (by omega) (by simp) hx.2.2.2 trivial) (by rw [Ex.sz_mk]; simp [Fs.size]; omega)
          · split
            · exact (gb_kind HT _ hr).bind fun y t h1 p1 l1 => Gb.ok h1 (Ex.gd_mk p1.1 p1.2.1 (by simp) hx.2.2.2 trivial) (by rw [Ex.sz_mk]; simp [Fs.size]; omega)
            · split
              · rw [par_args]
                unfold parR
                exact (gb_enter HT _ _ h).bind fun _ t1 h1 _ l1 => (H _ _ _ _ h1).bind fun e t2 h2 p2 l2 => (gb_pass HT _ h2).bind fun _ t4 h4 _ l4 => Gb.ok h4 p2 (by omega)
              · split
                · exact gb_choice HT H o q h
                · split
                  · rename_i hc
                    have hz := List.mem_of_find?_eq_some hc
                    have hz2 : ∀ z ∈ callsL, z.2.1 ≤ 100 := by decide
                    have hz3 := hz2 _ hz
                    simp only at hz3
                    exact (gb_args HT H _ o q hr).bind fun ks t h1 p1 l1 => Gb.ok h1 (Ex.gd_mk (by omega) (by omega) (by simp) hx.2.2.2 p1) (by rw [Ex.sz_mk]; simp; omega)
                  · split
                    · rename_i hc
                      have hz := List.mem_of_find?_eq_some hc
                      have hz2 : ∀ z ∈ quantsL, z.2 ≤ 100 := by decide
                      have hz3 := hz2 _ hz
                      simp only at hz3
                      exact gb_quant HT H m _ _ o q hz3 h
                    · exact Gb.bad
theorem gb_pref (HT : ∀ y, y ∈ T → tkG y) (H : ∀ row o q ts, ts <:+ T → Gb T ts.length Ex.gd Ex.sz (rec row o q ts)) (s : List UInt8) (k : Int) (row o q : Nat) {ts : List Tk} (h : ts <:+ T) : Gb T ts.length Ex.gd Ex.sz (prefR rec s k row o q ts) := by
  cases ts with
  | nil => exact Gb.out
  | cons x r =>
    have hx := HT x (h.mem (by simp))
    have hr : r <:+ T := (List.suffix_cons x r).trans h
    unfold prefR
    simp only
    split
    · split
      · exact Gb.bad
      · refine (H _ _ _ _ hr).bind fun e t2 h2 p2 l2 => Gb.ok h2 (Ex.gd_mk (by omega) (by omega) (by simp) hx.2.2.2 p2) ?_
        rw [Ex.sz_mk]
        show e.sz + 1 + _ ≤ _
        simp only [List.length_cons]
        omega
    · exact H _ _ _ _ h
theorem gb_chainL (HT : ∀ y, y ∈ T → tkG y) (H : ∀ row o q ts, ts <:+ T → Gb T ts.length Ex.gd Ex.sz (rec row o q ts)) : ∀ (m row o q : Nat) (left : Ex) (ts : List Tk) (b : Nat), ts <:+ T → left.gd → left.sz + ts.length ≤ b → Gb T b Ex.gd Ex.sz (chainL rec m row o q left ts)
  | 0, row, o, q, left, ts, b, h, hg, hb => Gb.out
  | m + 1, row, o, q, left, [], b, h, hg, hb => Gb.out
  | m + 1, row, o, q, left, x :: r, b, h, hg, hb => by
    have hx := HT x (h.mem (by simp))
    have hr : r <:+ T := (List.suffix_cons x r).trans h
    unfold chainL
    simp only
    split
    · exact Gb.ok h hg hb
    · refine (H _ _ _ _ hr).bind fun e t2 h2 p2 l2 => ?_
      simp only [List.length_cons] at hb
      have hgd : ∀ (z : Int), (⟨z, 0, [], (x.a : Nat), (one left).snoc e⟩ : Ex).gd := fun z => Ex.gd_mk (by omega) (by omega) (by simp) hx.2.2.2 (gd_snoc hg p2)
      have hsz : ∀ (z : Int), (⟨z, 0, [], (x.a : Nat), (one left).snoc e⟩ : Ex).sz + t2.length ≤ b := fun z => by
        rw [Ex.sz_mk, sz_snoc]
        show left.sz + e.sz + 1 + _ ≤ _
        omega
      split
      · exact Gb.ok h2 (hgd _) (hsz _)
      · exact gb_chainL HT H m row o q _ t2 b h2 (hgd _) (hsz _)
end
theorem gb_part {T : List Tk} (HT : ∀ y, y ∈ T → tkG y) : ∀ (n row o q : Nat) (ts : List Tk), ts <:+ T → Gb T ts.length Ex.gd Ex.sz (partF n row o q ts)
  | 0, row, o, q, ts, h => Gb.out
  | n + 1, row, o, q, ts, h => by
    have H := gb_part HT n
    unfold partF
    split
    · exact gb_pref HT H _ _ _ _ _ h
    · split
      · exact gb_pref HT H _ _ _ _ _ h
      · split
        · exact gb_atom HT H n o q h
        · exact (H _ _ _ _ h).bind fun l t h1 p1 l1 => gb_chainL HT H n row o q l t _ h1 p1 l1
theorem ptok_good {k : Nat} {t : List UInt8} {a : Nat} {x : Tk} (h : ptok k t a = .inr x) : -9223372036854775808 ≤ x.n ∧ x.n ≤ 9223372036854775807 ∧ x.t.length ≤ t.length := by
  unfold ptok at h
  split at h
  · unfold wrdT at h
    repeat' split at h
    all_goals first | (injection h with h; subst h; exact ⟨by simp, by simp, Nat.le_refl _⟩) | cases h
  · unfold numT at h
    cases hv : Lib.atoiAll t with
    | ok v =>
      rw [hv] at h
      have hb := Go.Lib.atoiAll_bounds hv
      simp only at h
      split at h
      · cases h
      · injection h with h
        subst h
        exact ⟨hb.1, hb.2, by simp⟩
    | _ => rw [hv] at h; cases h
  · unfold sgnT at h
    split at h
    all_goals first | (injection h with h; subst h; exact ⟨by simp, by simp, Nat.le_refl _⟩) | cases h
  · cases h
theorem tok_good (k : Nat) (t : List UInt8) (a p : Nat) (l : List UInt8) (ts : List Tk) (h : lexL k t a p l = .inr ts) (hl : t.length + l.length ≤ 2000) : ∀ x, x ∈ ts → -9223372036854775808 ≤ x.n ∧ x.n ≤ 9223372036854775807 ∧ x.t.length ≤ 2000 := by
  induction l generalizing k t a p ts with
  | nil =>
    intro x hx
    rcases shut_inr h with ⟨rfl, h1⟩ | ⟨hk, y, us, hp, h1, h2⟩
    · injection h1 with h1
      subst h1
      simp at hx
      subst hx
      exact ⟨by simp, by simp, by simp⟩
    · injection h1 with h1
      subst h1 h2
      simp at hx
      rcases hx with rfl | rfl
      · have := ptok_good hp
        simp only [List.length_nil] at hl
        exact ⟨this.1, this.2.1, by omega⟩
      · exact ⟨by simp, by simp, by simp⟩
  | cons c r ih =>
    simp only [List.length_cons] at hl
    cases ht : tks k t c.toNat
    · rw [lexL_no ht] at h
      rcases shut_inr h with ⟨rfl, h1⟩ | ⟨hk, y, us, hp, h1, h2⟩
      · exact ih _ _ _ _ _ h1 (by simp; omega)
      · subst h2
        intro x hx
        rcases List.mem_cons.1 hx with rfl | hx
        · have := ptok_good hp
          exact ⟨this.1, this.2.1, by omega⟩
        · exact ih _ _ _ _ _ h1 (by simp; omega) x hx
    · rw [lexL_yes ht] at h
      exact ih _ _ _ _ _ h (by simp; omega)
theorem Fs.len_size : ∀ (x : Fs), x.len ≤ x.size
  | ⟨none⟩ => Nat.le_refl _
  | ⟨some ⟨k, n, nm, a, ks, r⟩⟩ => by have := Fs.len_size r; simp only [Fs.len, Fs.size]; omega
theorem Fs.gd_all : ∀ {x : Fs}, x.gd → x.size ≤ 100000000 → x.short ∧ x.rng ∧ x.plc
  | ⟨none⟩, h, hs => ⟨trivial, trivial, trivial⟩
  | ⟨some ⟨k, n, nm, a, ks, r⟩⟩, h, hs => by
    simp only [Fs.size] at hs
    obtain ⟨h1, h2, h3, h4, h5, h6, h7⟩ := h
    obtain ⟨a1, a2, a3⟩ := Fs.gd_all h6 (by omega)
    obtain ⟨b1, b2, b3⟩ := Fs.gd_all h7 (by omega)
    have := Fs.len_size ks
    exact ⟨⟨by unfold maxLen; omega, by omega, a1, b1⟩, ⟨h1, h2, a2, b2⟩, ⟨h4, by omega, a3, b3⟩⟩
/-- A tree that was read is within bounds. -/
theorem parse_gd {s : List UInt8} {x : Ex} {t : List Tk} (h : parseA s = .ok x t) : x.gd ∧ x.sz ≤ 2001 := by
  obtain ⟨us, E, h0, h1, h2, h3, h4, h5⟩ := parse_text h
  have hs : scanA s = .inr (us ++ [E]) := by rw [scan_short h0]; exact h1
  have hk := scan_ok hs
  have hg : ∀ y, y ∈ us ++ [E] → tkG y := fun y hy => by
    have a1 := tok_good _ _ _ _ _ _ h1 (by simpa using h0) y hy
    have a2 := hk.2.2.2.2.2 y hy
    exact ⟨a1.1, a1.2.1, a1.2.2, by omega⟩
  obtain ⟨_, g1, g2⟩ := gb_part hg 30000 1 0 0 _ (List.suffix_refl _) x [E] h5
  refine ⟨g1, ?_⟩
  have := hk.2.2.1
  omega
structure Ex.okT (x : Ex) : Prop where
  fit : x.fit
  a0 : 0 ≤ x.a
  a1 : x.a ≤ 2000
  plc : x.kids.plc
  size : x.kids.size ≤ 2000
theorem parse_okT {s : List UInt8} {x : Ex} {t : List Tk} (h : parseA s = .ok x t) : x.okT := by
  obtain ⟨g, hs⟩ := parse_gd h
  have hs : x.kids.size + 1 ≤ 2001 := hs
  obtain ⟨h1, h2, h3, h4, h5, h6, _⟩ := g
  obtain ⟨a1, a2, a3⟩ := Fs.gd_all h6 (by omega)
  have := Fs.len_size x.kids
  exact ⟨⟨by unfold maxLen; omega, a1, by omega, h1, h2, a2⟩, h4, h5, a3, by omega⟩
end Go.Proofs.YtojleoionpnjpaaGreatDoor
namespace Go.Proofs.YtojleoionpnjpaaGreatDoor
open Go.ChangeShapes Go.WideShapes Go.ChangeAt Go.RowKit
set_option linter.unusedVariables false
set_option linter.unusedSimpArgs false

/-- All that lies fast: tables, words, errors. -/
structure FixA (w : World) : Prop where
  fx : FixT w
  er : Ers w
theorem FixA.below {w w' : World} (h : FixA w) (b : Below w.heap.size w w') : FixA w' := ⟨h.fx.below b, h.er.below b⟩
end Go.Proofs.YtojleoionpnjpaaGreatDoor
namespace Go.Proofs.YtojleoionpnjpaaGreatDoor
open Go.ChangeShapes Go.WideShapes Go.ChangeAt Go.RowKit
set_option linter.unusedVariables false
set_option linter.unusedSimpArgs false

def awT : List UInt8 := [49, 32, 43, 32, 115, 105, 122, 101, 40, 64, 49, 41]
def awU : List UInt8 := [97, 108, 108, 32, 118, 32, 105, 110, 32, 118, 101, 114, 116, 105, 99, 101, 115, 58, 32, 118, 32, 61, 32, 119]
def typO (l : List UInt8) : Option (Int × Nat × Int) := match parseA l with | ⟨some (.inr (x, _))⟩ => some (typA x) | _ => none
theorem aw_t : typO awT = some (1, 0, 0) := by kernel_rfl
theorem aw_u : typO awU = some (0, 130, 23) := by kernel_rfl
theorem typO_some {l : List UInt8} {r : Int × Nat × Int} (h : typO l = some r) : ∃ x t, parseA l = .ok x t ∧ typA x = r := by
  unfold typO at h
  cases hp : parseA l using Rs.on with
  | out => rw [hp] at h; cases h
  | bad e a => rw [hp] at h; cases h
  | ok x t => rw [hp] at h; injection h with h; exact ⟨x, t, rfl, h⟩
set_option maxRecDepth 100000 in
set_option maxHeartbeats 1000000 in
theorem awaket_r (w : World) (FX : FixT w) : Calls Tryz.prog 11 #[] w fun e w' => e = .returned (.bool true) ∧ Below w.heap.size w w' := by
  obtain ⟨x, t, hx, hw⟩ := typO_some aw_t
  obtain ⟨y, t2, hy, hz⟩ := typO_some aw_u
  have hok := (parse_okT hx).fit
  have hok2 := (parse_okT hy).fit
  have c1 := parse_q ⟨awT.toArray⟩ w (by decide)
  have e1 : (ByteArray.mk awT.toArray).data.toList = awT := by simp
  rw [e1, hx] at c1
  have hcp := fun (w3 : World) => parse_q ⟨awU.toArray⟩ w3 (by decide)
  have e2 : (ByteArray.mk awU.toArray).data.toList = awU := by simp
  rw [e2, hy] at hcp
  clear e1 e2 hx hy
  go_enter Tryz.func11, Tryz.ntmps11
  go_wp2_with fail
  refine c1.mono ?_
  rintro e w1 ⟨aox, capx, rfl, S1, b1⟩
  clear c1
  have b2 : Below w1.heap.size w1 (w1.alloc (.cells #[.int .i64 x.k, .int .i64 x.n, stv x.nm, .slice aox x.kids.len capx, .int .i64 x.a] 25)) := (Below.refl _ w1).alloc (Nat.le_refl _) _
  have X2 : (w1.alloc (.cells #[.int .i64 x.k, .int .i64 x.n, stv x.nm, .slice aox x.kids.len capx, .int .i64 x.a] 25)).heap[w1.heap.size]? = some (.cells #[.int .i64 x.k, .int .i64 x.n, stv x.nm, .slice aox x.kids.len capx, .int .i64 x.a] 25) := heap_alloc_new w1 _
  have B2 := b1.trans (b2.mono b1.size)
  have FX2 := (FX.below b1).below b2
  have S2 : SlT (w1.alloc (.cells #[.int .i64 x.k, .int .i64 x.n, stv x.nm, .slice aox x.kids.len capx, .int .i64 x.a] 25)) x.kids aox := SlT.below (Sl.all S1) b2
  rw [exV_out]
  go_upto_region 2 with fail
  generalize w1.alloc (.cells #[.int .i64 x.k, .int .i64 x.n, stv x.nm, .slice aox x.kids.len capx, .int .i64 x.a] 25) = w2 at *
  generalize w1.heap.size = bx at *
  have c3 := tcheck_r x aox capx w2 hok FX2 S2
  rw [hw, exV_out] at c3
  obtain ⟨p0, p1, p2, p3, p4, pf⟩ := box5 X2
  go_wp2_with fail
  refine c3.mono ?_
  rintro e w3 ⟨rfl, b3⟩
  clear c3 p0 p1 p2 p3 p4 pf
  have B3 := B2.trans (b3.mono B2.size)
  have FX3 := FX2.below b3
  clear b1 b2 b3 B2 FX2 S2 X2 S1
  simp only [tupT]
  go_upto_region 3 with fail
  have c4 := hcp w3
  go_wp2_with fail
  refine c4.mono ?_
  rintro e w4 ⟨aoy, capy, rfl, S4, b4⟩
  clear c4 hcp
  have b5 : Below w4.heap.size w4 (w4.alloc (.cells #[.int .i64 y.k, .int .i64 y.n, stv y.nm, .slice aoy y.kids.len capy, .int .i64 y.a] 25)) := (Below.refl _ w4).alloc (Nat.le_refl _) _
  have X5 : (w4.alloc (.cells #[.int .i64 y.k, .int .i64 y.n, stv y.nm, .slice aoy y.kids.len capy, .int .i64 y.a] 25)).heap[w4.heap.size]? = some (.cells #[.int .i64 y.k, .int .i64 y.n, stv y.nm, .slice aoy y.kids.len capy, .int .i64 y.a] 25) := heap_alloc_new w4 _
  have B4 := B3.trans (b4.mono B3.size)
  have B5 := B4.trans (b5.mono B4.size)
  have FX5 := (FX3.below b4).below b5
  have S5 : SlT (w4.alloc (.cells #[.int .i64 y.k, .int .i64 y.n, stv y.nm, .slice aoy y.kids.len capy, .int .i64 y.a] 25)) y.kids aoy := SlT.below (Sl.all S4) b5
  rw [exV_out]
  go_upto_region 4 with fail
  generalize w4.alloc (.cells #[.int .i64 y.k, .int .i64 y.n, stv y.nm, .slice aoy y.kids.len capy, .int .i64 y.a] 25) = w5 at *
  generalize w4.heap.size = by' at *
  have c6 := tcheck_r y aoy capy w5 hok2 FX5 S5
  rw [hz, exV_out] at c6
  obtain ⟨p0, p1, p2, p3, p4, pf⟩ := box5 X5
  go_wp2_with fail
  refine c6.mono ?_
  rintro e w6 ⟨rfl, b6⟩
  clear c6 p0 p1 p2 p3 p4 pf
  have B6 := B5.trans (b6.mono B5.size)
  clear hw hz hok hok2 b4 b5 b6 B5 B4 B3 S5 S4 X5 FX5 FX3
  simp only [tupT]
  go_wp2
  go_ret
  exact ⟨rfl, B6⟩
end Go.Proofs.YtojleoionpnjpaaGreatDoor
namespace Go.Proofs.YtojleoionpnjpaaGreatDoor
open Go.ChangeShapes Go.WideShapes Go.ChangeAt Go.RowKit
set_option linter.unusedVariables false
set_option linter.unusedSimpArgs false

/-- A count down by parts. -/
def wgF : Fs → Int → Int
  | ⟨none⟩, l => l
  | ⟨some ⟨_, _, _, _, ks, r⟩⟩, l => if l < 0 then l else wgF r (wgF ks (l - 1))
theorem wgF_cons (k n : Int) (nm : List UInt8) (a : Int) (ks r : Fs) (l : Int) : wgF (.cons k n nm a ks r) l = if l < 0 then l else wgF r (wgF ks (l - 1)) := rfl
theorem wgF_neg : ∀ (f : Fs) (l : Int), l < 0 → wgF f l = l
  | ⟨none⟩, l, h => rfl
  | ⟨some ⟨k, n, nm, a, ks, r⟩⟩, l, h => by simp only [wgF, h, if_true]
theorem wgF_size : ∀ (f : Fs) (l : Int), 0 ≤ wgF f l → wgF f l = l - (f.size : Nat)
  | ⟨none⟩, l, h => by show l = l - ((0 : Nat) : Int); omega
  | ⟨some ⟨k, n, nm, a, ks, r⟩⟩, l, h => by
    have e : wgF ⟨some ⟨k, n, nm, a, ks, r⟩⟩ l = if l < 0 then l else wgF r (wgF ks (l - 1)) := rfl
    rw [e] at h ⊢
    split at h
    · omega
    · rename_i hl
      rw [if_neg hl]
      have h1 := wgF_size r _ h
      by_cases h2 : wgF ks (l - 1) < 0
      · rw [wgF_neg r _ h2] at h
        omega
      · have h3 := wgF_size ks (l - 1) (by omega)
        show _ = l - ((ks.size + r.size + 1 : Nat) : Int)
        omega
theorem wgF_le : ∀ (f : Fs) (l : Int), -1 ≤ l → -1 ≤ wgF f l ∧ wgF f l ≤ l
  | ⟨none⟩, l, h => ⟨h, Int.le_refl _⟩
  | ⟨some ⟨k, n, nm, a, ks, r⟩⟩, l, h => by
    have e : wgF ⟨some ⟨k, n, nm, a, ks, r⟩⟩ l = if l < 0 then l else wgF r (wgF ks (l - 1)) := rfl
    rw [e]
    split
    · exact ⟨h, Int.le_refl _⟩
    · have h1 := wgF_le ks (l - 1) (by omega)
      have h2 := wgF_le r _ h1.1
      exact ⟨h2.1, by omega⟩
def heavyB (e : Ex) : Bool := decide (wgF e.kids 19999 < 0)
theorem light {e : Ex} (h : heavyB e = false) : e.kids.size ≤ 19999 := by
  have h1 : ¬ wgF e.kids 19999 < 0 := by simpa [heavyB] using h
  have := wgF_size e.kids 19999 (by omega)
  omega
/-- Lists are no longer than a slice may be. -/
def Fs.wide : Fs → Prop
  | ⟨none⟩ => True
  | ⟨some ⟨_, _, _, _, ks, r⟩⟩ => ks.len ≤ maxLen ∧ ks.wide ∧ r.wide
theorem Fs.app_wide : ∀ {x y : Fs}, (x.app y).wide → y.wide
  | ⟨none⟩, y, h => h
  | ⟨some ⟨k, n, nm, a, ks, r⟩⟩, y, h => Fs.app_wide (x := r) h.2.2
def WeighOk (N : Nat) : Prop := ∀ (e : Ex) (ao : Option Addr) (cap : Nat) (l : Int) (w : World), e.kids.size < N → e.kids.len ≤ maxLen → e.kids.wide → 0 ≤ l → l ≤ 1000000 → SlA w e.kids ao →
  Calls Tryz.prog 20 #[exV e ao cap, .int .i64 l] w fun x w' => x = .returned (.int .i64 (wgF e.kids (l - 1))) ∧ Below w.heap.size w w'
set_option maxRecDepth 100000 in
set_option maxHeartbeats 1000000 in
theorem weigh_step {N : Nat} (IH : WeighOk N) : WeighOk (N + 1) := by
  intro e ao cap l w hN hlen hwd hl0 hl1 S
  obtain ⟨W, hW⟩ : ∃ W, W = wgF e.kids (l - 1) := ⟨_, rfl⟩
  rw [← hW]
  have HW : Hid (W = wgF e.kids (l - 1)) := hW
  have hml : Hid (maxLen = 9223372036854775807) := rfl
  have hlm : e.kids.len ≤ 9223372036854775807 := by have := hml.out; omega
  clear hW
  have B0 : Below w.heap.size w (w.alloc (.cells #[.int .i64 e.k, .int .i64 e.n, stv e.nm, .slice ao e.kids.len cap, .int .i64 e.a] 25)) := (Below.refl _ w).alloc (Nat.le_refl _) _
  have E0 : (w.alloc (.cells #[.int .i64 e.k, .int .i64 e.n, stv e.nm, .slice ao e.kids.len cap, .int .i64 e.a] 25)).heap[w.heap.size]? = some (.cells #[.int .i64 e.k, .int .i64 e.n, stv e.nm, .slice ao e.kids.len cap, .int .i64 e.a] 25) := heap_alloc_new w _
  rw [exV_out]
  go_enter Tryz.func20, Tryz.ntmps20
  go_upto_region 1 with fail
  generalize w.alloc (.cells #[.int .i64 e.k, .int .i64 e.n, stv e.nm, .slice ao e.kids.len cap, .int .i64 e.a] 25) = w0 at *
  obtain ⟨bx, hbx⟩ : ∃ bx, bx = w.heap.size := ⟨_, rfl⟩
  rw [← hbx] at E0 B0 ⊢
  have HB : Hid (bx = w.heap.size) := hbx
  clear hbx
  go_wp2
  go_loopw [1, 5] (fun v1 v5 wr => ∃ (done r : Fs) (c : Int), Hid (e.kids = done.app r) ∧ v1 = .int .i64 c ∧ v5 = .int .i64 (done.len : Nat) ∧ -1 ≤ c ∧ c ≤ 1000000 ∧ Hid (wgF r c = W) ∧ wr.heap[bx]? = some (.cells #[.int .i64 e.k, .int .i64 e.n, stv e.nm, .slice ao e.kids.len cap, .int .i64 e.a] 25) ∧ Below bx w wr) (fun _ v5 _ => e.kids.len - (intOf v5).toNat)
  case atStart => exact ⟨.nil, e.kids, l - 1, rfl, rfl, by show _ = Value.int .i64 ((0 : Nat) : Int); rfl, by omega, by omega, HW.out.symm, E0, B0⟩
  case round =>
    clear E0 B0 HW
    obtain ⟨done, r, c, hk, rfl, rfl, hc0, hc1, HA, E1, B1⟩ := hrel
    have hlk : e.kids.len = done.len + r.len := by rw [hk.out, Fs.len_app]
    obtain ⟨p0, p1, p2, p3, p4, pf⟩ := box5 E1
    cases r using Fs.on with
    | nil =>
      have hlt : ¬ (done.len : Int) < (e.kids.len : Int) := by simp only [Fs.len] at hlk; omega
      have FIN : Hid (W = c) := HA.out.symm
      clear HA hlk
      go_wp2
      go_ret
      rw [FIN.out]
      exact ⟨rfl, by rw [← HB.out]; exact B1⟩
    | cons kk kn km ka kks kr =>
      have hlt : (done.len : Int) < (e.kids.len : Int) := by simp only [Fs.len] at hlk; omega
      have hl3 : done.len < e.kids.len := by omega
      by_cases hc : c < 0
      · have hcI : ¬ (0 : Int) ≤ c := by omega
        have FIN : Hid (W = c) := by show W = c; rw [← HA.out]; exact wgF_neg _ _ hc
        clear HA hlk
        go_wp2
        go_ret
        rw [FIN.out]
        exact ⟨rfl, by rw [← HB.out]; exact B1⟩
      · have hcI : (0 : Int) ≤ c := by omega
        have hsz : e.kids.size = done.size + (kks.size + kr.size + 1) := by rw [hk.out, Fs.size_app]; rfl
        have hwk : (Fs.cons kk kn km ka kks kr).wide := Fs.app_wide (x := done) (by rw [← hk.out]; exact hwd)
        obtain ⟨b, off, ak, ck, hao, lb1, -, x0, x1, x2, x3, x4, SK⟩ := Sl.kidQ (by rw [← hk.out]; exact SlA.below S (by rw [← HB.out]; exact B1))
        subst hao
        have hcc := IH ⟨kk, kn, km, ka, kks⟩ ak ck c wr (by show kks.size < N; omega) hwk.1 hwk.2.1 hcI (by omega) SK
        rw [exV_out] at hcc
        simp only at hcc
        have hbd := wgF_le kks (c - 1) (by omega)
        have HA2 : Hid (wgF kr (wgF kks (c - 1)) = W) := by show _ = W; rw [← HA.out, wgF_cons, if_neg hc]
        have hk2 : Hid (e.kids = (done.snoc ⟨kk, kn, km, ka, kks⟩).app kr) := by show e.kids = _; rw [hk.out]; unfold Fs.snoc; rw [Fs.app_assoc]; rfl
        have hl2 : (done.len : Int) + 1 = ((done.snoc ⟨kk, kn, km, ka, kks⟩).len : Nat) := by rw [Fs.len_snoc]; rfl
        generalize wgF kks (c - 1) = c2 at *
        clear HA hlk hsz hwk SK hk
        go_wp2_with fail
        refine hcc.mono ?_
        rintro x w2 ⟨rfl, b2⟩
        have B2 := B1.trans (b2.mono (by have := lt_of_block E1; omega))
        have E2 := (b2.block bx (lt_of_block E1)).trans E1
        clear hcc x0 x1 x2 x3 x4 p0 p1 p2 p3 p4 pf b2 E1 B1
        go_wp2
        go_roundw
        case rel => exact ⟨_, kr, c2, hk2, rfl, by rw [← hl2], hbd.1, by omega, HA2, E2, B2⟩
        case measure => simp [intOf]; omega
theorem weigh_ok : ∀ N, WeighOk N
  | 0 => fun e ao cap l w h => absurd h (Nat.not_lt_zero _)
  | N + 1 => weigh_step (weigh_ok N)
set_option maxRecDepth 100000 in
theorem heavy_r (e : Ex) (ao : Option Addr) (cap : Nat) (w : World) (hlen : e.kids.len ≤ maxLen) (hwd : e.kids.wide) (S : SlA w e.kids ao) :
    Calls Tryz.prog 10 #[exV e ao cap] w fun x w' => x = .returned (.bool (heavyB e)) ∧ Below w.heap.size w w' := by
  have B0 : Below w.heap.size w (w.alloc (.cells #[.int .i64 e.k, .int .i64 e.n, stv e.nm, .slice ao e.kids.len cap, .int .i64 e.a] 25)) := (Below.refl _ w).alloc (Nat.le_refl _) _
  have hs0 := B0.size
  have c1 := weigh_ok (e.kids.size + 1) e ao cap 20000 _ (by omega) hlen hwd (by omega) (by omega) (SlA.below S B0)
  rw [exV_out] at c1 ⊢
  have e1 : (20000 : Int) - 1 = 19999 := rfl
  rw [e1] at c1
  unfold heavyB
  generalize wgF e.kids 19999 = r at *
  go_enter Tryz.func10, Tryz.ntmps10
  go_wp2_with fail
  refine c1.mono ?_
  rintro x w1 ⟨rfl, b1⟩
  have B1 := B0.trans (b1.mono hs0)
  clear c1 b1 B0 hs0 e1
  go_wp2
  go_ret
  exact ⟨rfl, B1⟩
end Go.Proofs.YtojleoionpnjpaaGreatDoor

/- The document's own reader: its state, with an error or without; what goes over tokens. -/
import Derived.Test.YtafnlhnenmpfoaaGreatDoorBrkM
import Derived.Lib.AtoiAllCases
namespace Go.Proofs.YtafnlhnenmpfoaaGreatDoor
set_option linter.unusedVariables false
set_option linter.unusedSimpArgs false

/-- A token within bounds. -/
def tkG (x : Tk) : Prop := -9223372036854775808 ≤ x.n ∧ x.n ≤ 9223372036854775807 ∧ x.t.length ≤ 2000 ∧ x.a ≤ 2000
def Fs.gd : Fs → Prop
  | ⟨none⟩ => True
  | ⟨some ⟨_, n, nm, a, ks, r⟩⟩ => -9223372036854775808 ≤ n ∧ n ≤ 9223372036854775807 ∧ nm.length ≤ 2000 ∧ 0 ≤ a ∧ a ≤ 2000 ∧ ks.gd ∧ r.gd
theorem Fs.gd_app : ∀ {x y : Fs}, x.gd → y.gd → (x.app y).gd
  | ⟨none⟩, y, h, k => k
  | ⟨some ⟨_, _, _, _, _, r⟩⟩, y, h, k => ⟨h.1, h.2.1, h.2.2.1, h.2.2.2.1, h.2.2.2.2.1, h.2.2.2.2.2.1, Fs.gd_app h.2.2.2.2.2.2 k⟩
def Ex.gd (e : Ex) : Prop := (one e).gd
def Ex.sz (e : Ex) : Nat := (one e).size
theorem Ex.gd_mk {k n : Int} {nm : List UInt8} {a : Nat} {ks : Fs} (h1 : -9223372036854775808 ≤ n) (h2 : n ≤ 9223372036854775807) (h3 : nm.length ≤ 2000) (h4 : a ≤ 2000) (h5 : ks.gd) : (⟨k, n, nm, (a : Nat), ks⟩ : Ex).gd := ⟨h1, h2, h3, by show (0 : Int) ≤ (a : Nat); omega, by show ((a : Nat) : Int) ≤ 2000; omega, h5, trivial⟩
theorem Ex.sz_mk (k n : Int) (nm : List UInt8) (a : Int) (ks : Fs) : (⟨k, n, nm, a, ks⟩ : Ex).sz = ks.size + 1 := rfl
theorem gd_snoc {x : Fs} {e : Ex} (h : x.gd) (k : e.gd) : (x.snoc e).gd := Fs.gd_app h k
theorem sz_snoc (x : Fs) (e : Ex) : (x.snoc e).size = x.size + e.sz := Fs.size_app x (one e)
/-- What is left lies in T, what is read is within bounds, and both together are no more than b. -/
def Gb {α : Type} (T : List Tk) (b : Nat) (P : α → Prop) (sz : α → Nat) (R : Rs α) : Prop := ∀ x t, R = .ok x t → t <:+ T ∧ P x ∧ sz x + t.length ≤ b
section
variable {T : List Tk}
theorem Gb.bind {α β : Type} {b1 b : Nat} {P : α → Prop} {sz : α → Nat} {Q : β → Prop} {sq : β → Nat} {R : Rs α} {f : α → List Tk → Rs β} (h : Gb T b1 P sz R) (hf : ∀ x t, t <:+ T → P x → sz x + t.length ≤ b1 → Gb T b Q sq (f x t)) : Gb T b Q sq (R.bind f) := by
  cases R using Rs.on with
  | out => intro x t e; cases e
  | bad e a => intro x t e; cases e
  | ok x t =>
    obtain ⟨h1, h2, h3⟩ := h x t rfl
    exact hf x t h1 h2 h3
theorem Gb.bad {α : Type} {b e a : Nat} {P : α → Prop} {sz : α → Nat} : Gb T b P sz (.bad e a : Rs α) := fun x t h => by cases h
theorem Gb.out {α : Type} {b : Nat} {P : α → Prop} {sz : α → Nat} : Gb T b P sz (.out : Rs α) := fun x t h => by cases h
theorem Gb.ok {α : Type} {b : Nat} {P : α → Prop} {sz : α → Nat} {x : α} {t : List Tk} (h : t <:+ T) (hp : P x) (hs : sz x + t.length ≤ b) : Gb T b P sz (.ok x t) := fun y u e => by
  obtain ⟨e1, e2⟩ := Rs.ok_inj e
  subst e1 e2
  exact ⟨h, hp, hs⟩
theorem gb_pass (HT : ∀ y, y ∈ T → tkG y) (s : List UInt8) {ts : List Tk} (h : ts <:+ T) : Gb T ts.length (fun a => a ≤ 2000) (fun _ => 1) (passT s ts) := by
  cases ts with
  | nil => exact Gb.out
  | cons x r =>
    simp only [passT]
    split
    · exact Gb.ok ((List.suffix_cons x r).trans h) (HT x (h.mem (by simp))).2.2.2 (by simp; omega)
    · exact Gb.bad
theorem gb_kind (HT : ∀ y, y ∈ T → tkG y) (k : Nat) {ts : List Tk} (h : ts <:+ T) : Gb T ts.length tkG (fun _ => 1) (passK k ts) := by
  cases ts with
  | nil => exact Gb.out
  | cons x r =>
    simp only [passK]
    split
    · exact Gb.ok ((List.suffix_cons x r).trans h) (HT x (h.mem (by simp))) (by simp; omega)
    · exact Gb.bad
theorem gb_enter (HT : ∀ y, y ∈ T → tkG y) (s : List UInt8) (o : Nat) {ts : List Tk} (h : ts <:+ T) : Gb T ts.length (fun a => a ≤ 2000) (fun _ => 1) (enterT s o ts) := by
  cases ts with
  | nil => exact Gb.out
  | cons x r =>
    simp only [enterT]
    split
    · split
      · exact Gb.bad
      · exact Gb.ok ((List.suffix_cons x r).trans h) (HT x (h.mem (by simp))).2.2.2 (by simp; omega)
    · exact Gb.bad
variable {rec : Rdr}
theorem gb_argsL (HT : ∀ y, y ∈ T → tkG y) (H : ∀ row o q ts, ts <:+ T → Gb T ts.length Ex.gd Ex.sz (rec row o q ts)) : ∀ (j : Nat) (o q : Nat) (acc : Fs) (ts : List Tk) (b : Nat), ts <:+ T → acc.gd → acc.size + ts.length ≤ b → Gb T b Fs.gd Fs.size (argsL rec j o q acc ts)
  | 0, o, q, acc, ts, b, h, hg, hb => Gb.ok h hg hb
  | j + 1, o, q, acc, ts, b, h, hg, hb => by
    unfold argsL
    refine (gb_pass HT _ h).bind fun _ t1 h1 _ l1 => (H _ _ _ _ h1).bind fun e t2 h2 p2 l2 => ?_
    exact gb_argsL HT H j o q _ t2 b h2 (gd_snoc hg p2) (by rw [sz_snoc]; omega)
theorem gb_args (HT : ∀ y, y ∈ T → tkG y) (H : ∀ row o q ts, ts <:+ T → Gb T ts.length Ex.gd Ex.sz (rec row o q ts)) (many o q : Nat) {ts : List Tk} (h : ts <:+ T) : Gb T (ts.length - 1) Fs.gd Fs.size (argsR rec many o q ts) := by
  unfold argsR
  refine (gb_enter HT _ _ h).bind fun _ t1 h1 _ l1 => (H _ _ _ _ h1).bind fun e t2 h2 p2 l2 => ?_
  refine (gb_argsL HT H _ _ _ _ t2 t1.length h2 p2 l2).bind fun ks t3 h3 p3 l3 => ?_
  exact (gb_pass HT _ h3).bind fun _ t4 h4 _ l4 => Gb.ok h4 p3 (by omega)
theorem gb_choice (HT : ∀ y, y ∈ T → tkG y) (H : ∀ row o q ts, ts <:+ T → Gb T ts.length Ex.gd Ex.sz (rec row o q ts)) (o q : Nat) {ts : List Tk} (h : ts <:+ T) : Gb T ts.length Ex.gd Ex.sz (choiceR rec o q ts) := by
  unfold choiceR
  refine (gb_enter HT _ _ h).bind fun a t1 h1 p1 l1 => (H _ _ _ _ h1).bind fun x t2 h2 p2 l2 => ?_
  refine (gb_pass HT _ h2).bind fun _ t3 h3 _ l3 => (H _ _ _ _ h3).bind fun y t4 h4 p4 l4 => ?_
  refine (gb_pass HT _ h4).bind fun _ t5 h5 _ l5 => (H _ _ _ _ h5).bind fun z t6 h6 p6 l6 => ?_
  refine Gb.ok h6 (Ex.gd_mk (by omega) (by omega) (by simp) p1 (gd_snoc (gd_snoc p2 p4) p6)) ?_
  rw [Ex.sz_mk, sz_snoc, sz_snoc]
  show x.sz + y.sz + z.sz + 1 + _ ≤ _
  omega
theorem gb_memL (HT : ∀ y, y ∈ T → tkG y) (H : ∀ row o q ts, ts <:+ T → Gb T ts.length Ex.gd Ex.sz (rec row o q ts)) : ∀ (m : Nat) (o q : Nat) (acc : Fs) (ts : List Tk) (b : Nat), ts <:+ T → acc.gd → acc.size + ts.length ≤ b → Gb T b Fs.gd Fs.size (memL rec m o q acc ts)
  | 0, o, q, acc, ts, b, h, hg, hb => Gb.out
  | m + 1, o, q, acc, [], b, h, hg, hb => Gb.out
  | m + 1, o, q, acc, x :: r, b, h, hg, hb => by
    have _ := HT
    unfold memL
    simp only
    split
    · simp only [List.length_cons] at hb
      refine (H _ _ _ _ ((List.suffix_cons x r).trans h)).bind fun e t2 h2 p2 l2 => ?_
      exact gb_memL HT H m o q _ t2 b h2 (gd_snoc hg p2) (by rw [sz_snoc]; omega)
    · exact Gb.ok h hg hb
theorem gb_mem (HT : ∀ y, y ∈ T → tkG y) (H : ∀ row o q ts, ts <:+ T → Gb T ts.length Ex.gd Ex.sz (rec row o q ts)) (m o q : Nat) {ts : List Tk} (h : ts <:+ T) : Gb T ts.length Fs.gd Fs.size (memR rec m o q ts) := by
  cases ts with
  | nil => exact Gb.out
  | cons x r =>
    unfold memR
    simp only
    split
    · exact Gb.ok h trivial (by simp [Fs.size])
    · exact (H _ _ _ _ h).bind fun e t1 h1 p1 l1 => gb_memL HT H m o q _ t1 _ h1 p1 l1
theorem gb_set (HT : ∀ y, y ∈ T → tkG y) (H : ∀ row o q ts, ts <:+ T → Gb T ts.length Ex.gd Ex.sz (rec row o q ts)) (m o q : Nat) {ts : List Tk} (h : ts <:+ T) : Gb T ts.length Ex.gd Ex.sz (setR rec m o q ts) := by
  cases ts with
  | nil => exact Gb.out
  | cons x r =>
    have hx := HT x (h.mem (by simp))
    have hr : r <:+ T := (List.suffix_cons x r).trans h
    unfold setR
    simp only
    split
    · exact Gb.ok hr (Ex.gd_mk (by omega) (by omega) hx.2.2.1 hx.2.2.2 trivial) (by rw [Ex.sz_mk]; simp [Fs.size]; omega)
    · split
      · exact Gb.ok hr (Ex.gd_mk (by omega) (by omega) (by simp) hx.2.2.2 trivial) (by rw [Ex.sz_mk]; simp [Fs.size]; omega)
      · split
        · exact (gb_args HT H 1 o q hr).bind fun ks t h1 p1 l1 => Gb.ok h1 (Ex.gd_mk (by omega) (by omega) (by simp) hx.2.2.2 p1) (by rw [Ex.sz_mk]; simp; omega)
        · refine (gb_enter HT _ _ h).bind fun a t1 h1 p1 l1 => (gb_mem HT H m _ q h1).bind fun ks t2 h2 p2 l2 => (gb_pass HT _ h2).bind fun _ t3 h3 _ l3 => ?_
          exact Gb.ok h3 (Ex.gd_mk (by omega) (by omega) (by simp) p1 p2) (by rw [Ex.sz_mk]; omega)
theorem gb_quant (HT : ∀ y, y ∈ T → tkG y) (H : ∀ row o q ts, ts <:+ T → Gb T ts.length Ex.gd Ex.sz (rec row o q ts)) (m : Nat) (s : List UInt8) (k o q : Nat) (hk : k ≤ 100) {ts : List Tk} (h : ts <:+ T) : Gb T ts.length Ex.gd Ex.sz (quantR rec m s k o q ts) := by
  cases ts with
  | nil => exact Gb.out
  | cons x r =>
    unfold quantR
    simp only
    split
    · exact Gb.bad
    · refine (gb_enter HT _ _ h).bind fun a t1 h1 p1 l1 => (gb_kind HT _ h1).bind fun y t2 h2 p2 l2 => (gb_pass HT _ h2).bind fun _ t3 h3 _ l3 => ?_
      refine (gb_set HT H m _ _ h3).bind fun e t4 h4 p4 l4 => (gb_pass HT _ h4).bind fun _ t5 h5 _ l5 => (H _ _ _ _ h5).bind fun b t6 h6 p6 l6 => ?_
      refine Gb.ok h6 (Ex.gd_mk (by omega) (by omega) p2.2.2.1 p1 (gd_snoc p4 p6)) ?_
      rw [Ex.sz_mk, sz_snoc]
      show e.sz + b.sz + 1 + _ ≤ _
      omega
theorem gb_atom (HT : ∀ y, y ∈ T → tkG y) (H : ∀ row o q ts, ts <:+ T → Gb T ts.length Ex.gd Ex.sz (rec row o q ts)) (m o q : Nat) {ts : List Tk} (h : ts <:+ T) : Gb T ts.length Ex.gd Ex.sz (atomR rec m o q ts) := by
  cases ts with
  | nil => exact Gb.out
  | cons x r =>
    have hx := HT x (h.mem (by simp))
    have hr : r <:+ T := (List.suffix_cons x r).trans h
    unfold atomR
    simp only
    split
    · exact Gb.ok hr (Ex.gd_mk hx.1 hx.2.1 (by simp) hx.2.2.2 trivial) (by rw [Ex.sz_mk]; simp [Fs.size]; omega)
    · split
      · exact Gb.ok hr (Ex.gd_mk (by omega) (by omega) hx.2.2.1 hx.2.2.2 trivial) (by rw [Ex.sz_mk]; simp [Fs.size]; omega)
      · split
        · exact Gb.ok hr (Ex.gd_mk (by omega) (by omega) (by simp) hx.2.2.2 trivial) (by rw [Ex.sz_mk]; simp [Fs.size]; omega)
        · split
          · exact Gb.ok hr (Ex.gd_mk (by omega) (by omega) (by simp) hx.2.2.2 trivial) (by rw [Ex.sz_mk]; simp [Fs.size]; omega)
          · split
            · exact (gb_kind HT _ hr).bind fun y t h1 p1 l1 => Gb.ok h1 (Ex.gd_mk p1.1 p1.2.1 (by simp) hx.2.2.2 trivial) (by rw [Ex.sz_mk]; simp [Fs.size]; omega)
            · split
              · rw [par_args]
                unfold parR
                exact (gb_enter HT _ _ h).bind fun _ t1 h1 _ l1 => (H _ _ _ _ h1).bind fun e t2 h2 p2 l2 => (gb_pass HT _ h2).bind fun _ t4 h4 _ l4 => Gb.ok h4 p2 (by omega)
              · split
                · exact gb_choice HT H o q h
                · split
                  · rename_i hc
                    have hz := List.mem_of_find?_eq_some hc
                    have hz2 : ∀ z ∈ callsL, z.2.1 ≤ 100 := by decide
                    have hz3 := hz2 _ hz
                    simp only at hz3
                    exact (gb_args HT H _ o q hr).bind fun ks t h1 p1 l1 => Gb.ok h1 (Ex.gd_mk (by omega) (by omega) (by simp) hx.2.2.2 p1) (by rw [Ex.sz_mk]; simp; omega)
                  · split
                    · rename_i hc
                      have hz := List.mem_of_find?_eq_some hc
                      have hz2 : ∀ z ∈ quantsL, z.2 ≤ 100 := by decide
                      have hz3 := hz2 _ hz
                      simp only at hz3
                      exact gb_quant HT H m _ _ o q hz3 h
                    · exact Gb.bad
theorem gb_pref (HT : ∀ y, y ∈ T → tkG y) (H : ∀ row o q ts, ts <:+ T → Gb T ts.length Ex.gd Ex.sz (rec row o q ts)) (s : List UInt8) (k : Int) (row o q : Nat) {ts : List Tk} (h : ts <:+ T) : Gb T ts.length Ex.gd Ex.sz (prefR rec s k row o q ts) := by
  cases ts with
  | nil => exact Gb.out
  | cons x r =>
    have hx := HT x (h.mem (by simp))
    have hr : r <:+ T := (List.suffix_cons x r).trans h
    unfold prefR
    simp only
    split
    · split
      · exact Gb.bad
      · refine (H _ _ _ _ hr).bind fun e t2 h2 p2 l2 => Gb.ok h2 (Ex.gd_mk (by omega) (by omega) (by simp) hx.2.2.2 p2) ?_
        rw [Ex.sz_mk]
        show e.sz + 1 + _ ≤ _
        simp only [List.length_cons]
        omega
    · exact H _ _ _ _ h
theorem gb_chainL (HT : ∀ y, y ∈ T → tkG y) (H : ∀ row o q ts, ts <:+ T → Gb T ts.length Ex.gd Ex.sz (rec row o q ts)) : ∀ (m row o q : Nat) (left : Ex) (ts : List Tk) (b : Nat), ts <:+ T → left.gd → left.sz + ts.length ≤ b → Gb T b Ex.gd Ex.sz (chainL rec m row o q left ts)
  | 0, row, o, q, left, ts, b, h, hg, hb => Gb.out
  | m + 1, row, o, q, left, [], b, h, hg, hb => Gb.out
  | m + 1, row, o, q, left, x :: r, b, h, hg, hb => by
    have hx := HT x (h.mem (by simp))
    have hr : r <:+ T := (List.suffix_cons x r).trans h
    unfold chainL
    simp only
    split
    · exact Gb.ok h hg hb
    · refine (H _ _ _ _ hr).bind fun e t2 h2 p2 l2 => ?_
      simp only [List.length_cons] at hb
      have hgd : ∀ (z : Int), (⟨z, 0, [], (x.a : Nat), (one left).snoc e⟩ : Ex).gd := fun z => Ex.gd_mk (by omega) (by omega) (by simp) hx.2.2.2 (gd_snoc hg p2)
      have hsz : ∀ (z : Int), (⟨z, 0, [], (x.a : Nat), (one left).snoc e⟩ : Ex).sz + t2.length ≤ b := fun z => by
        rw [Ex.sz_mk, sz_snoc]
        show left.sz + e.sz + 1 + _ ≤ _
        omega
      split
      · exact Gb.ok h2 (hgd _) (hsz _)
      · exact gb_chainL HT H m row o q _ t2 b h2 (hgd _) (hsz _)
end
theorem gb_part {T : List Tk} (HT : ∀ y, y ∈ T → tkG y) : ∀ (n row o q : Nat) (ts : List Tk), ts <:+ T → Gb T ts.length Ex.gd Ex.sz (partF n row o q ts)
  | 0, row, o, q, ts, h => Gb.out
  | n + 1, row, o, q, ts, h => by
    have H := gb_part HT n
    unfold partF
    split
    · exact gb_pref HT H _ _ _ _ _ h
    · split
      · exact gb_pref HT H _ _ _ _ _ h
      · split
        · exact gb_atom HT H n o q h
        · exact (H _ _ _ _ h).bind fun l t h1 p1 l1 => gb_chainL HT H n row o q l t _ h1 p1 l1
theorem ptok_good {k : Nat} {t : List UInt8} {a : Nat} {x : Tk} (h : ptok k t a = .inr x) : -9223372036854775808 ≤ x.n ∧ x.n ≤ 9223372036854775807 ∧ x.t.length ≤ t.length := by
  unfold ptok at h
  split at h
  · unfold wrdT at h
    repeat' split at h
    all_goals first | (injection h with h; subst h; exact ⟨by simp, by simp, Nat.le_refl _⟩) | cases h
  · unfold numT at h
    cases hv : Lib.atoiAll t with
    | ok v =>
      rw [hv] at h
      have hb := Go.Lib.atoiAll_bounds hv
      simp only at h
      split at h
      · cases h
      · injection h with h
        subst h
        exact ⟨hb.1, hb.2, by simp⟩
    | _ => rw [hv] at h; cases h
  · unfold sgnT at h
    split at h
    all_goals first | (injection h with h; subst h; exact ⟨by simp, by simp, Nat.le_refl _⟩) | cases h
  · cases h
theorem tok_good (k : Nat) (t : List UInt8) (a p : Nat) (l : List UInt8) (ts : List Tk) (h : lexL k t a p l = .inr ts) (hl : t.length + l.length ≤ 2000) : ∀ x, x ∈ ts → -9223372036854775808 ≤ x.n ∧ x.n ≤ 9223372036854775807 ∧ x.t.length ≤ 2000 := by
  induction l generalizing k t a p ts with
  | nil =>
    intro x hx
    rcases shut_inr h with ⟨rfl, h1⟩ | ⟨hk, y, us, hp, h1, h2⟩
    · injection h1 with h1
      subst h1
      simp at hx
      subst hx
      exact ⟨by simp, by simp, by simp⟩
    · injection h1 with h1
      subst h1 h2
      simp at hx
      rcases hx with rfl | rfl
      · have := ptok_good hp
        simp only [List.length_nil] at hl
        exact ⟨this.1, this.2.1, by omega⟩
      · exact ⟨by simp, by simp, by simp⟩
  | cons c r ih =>
    simp only [List.length_cons] at hl
    cases ht : tks k t c.toNat
    · rw [lexL_no ht] at h
      rcases shut_inr h with ⟨rfl, h1⟩ | ⟨hk, y, us, hp, h1, h2⟩
      · exact ih _ _ _ _ _ h1 (by simp; omega)
      · subst h2
        intro x hx
        rcases List.mem_cons.1 hx with rfl | hx
        · have := ptok_good hp
          exact ⟨this.1, this.2.1, by omega⟩
        · exact ih _ _ _ _ _ h1 (by simp; omega) x hx
    · rw [lexL_yes ht] at h
      exact ih _ _ _ _ _ h (by simp; omega)
theorem Fs.len_size : ∀ (x : Fs), x.len ≤ x.size
  | ⟨none⟩ => Nat.le_refl _
  | ⟨some ⟨k, n, nm, a, ks, r⟩⟩ => by have := Fs.len_size r; simp only [Fs.len, Fs.size]; omega
theorem Fs.gd_all : ∀ {x : Fs}, x.gd → x.size ≤ 100000000 → x.short ∧ x.rng ∧ x.plc
  | ⟨none⟩, h, hs => ⟨trivial, trivial, trivial⟩
  | ⟨some ⟨k, n, nm, a, ks, r⟩⟩, h, hs => by
    simp only [Fs.size] at hs
    obtain ⟨h1, h2, h3, h4, h5, h6, h7⟩ := h
    obtain ⟨a1, a2, a3⟩ := Fs.gd_all h6 (by omega)
    obtain ⟨b1, b2, b3⟩ := Fs.gd_all h7 (by omega)
    have := Fs.len_size ks
    exact ⟨⟨by unfold maxLen; omega, by omega, a1, b1⟩, ⟨h1, h2, a2, b2⟩, ⟨h4, by omega, a3, b3⟩⟩
/-- A tree that was read is within bounds. -/
theorem parse_gd {s : List UInt8} {x : Ex} {t : List Tk} (h : parseA s = .ok x t) : x.gd ∧ x.sz ≤ 2001 := by
  obtain ⟨us, E, h0, h1, h2, h3, h4, h5⟩ := parse_text h
  have hs : scanA s = .inr (us ++ [E]) := by rw [scan_short h0]; exact h1
  have hk := scan_ok hs
  have hg : ∀ y, y ∈ us ++ [E] → tkG y := fun y hy => by
    have a1 := tok_good _ _ _ _ _ _ h1 (by simpa using h0) y hy
    have a2 := hk.2.2.2.2.2 y hy
    exact ⟨a1.1, a1.2.1, a1.2.2, by omega⟩
  obtain ⟨_, g1, g2⟩ := gb_part hg 30000 1 0 0 _ (List.suffix_refl _) x [E] h5
  refine ⟨g1, ?_⟩
  have := hk.2.2.1
  omega
structure Ex.okT (x : Ex) : Prop where
  fit : x.fit
  a0 : 0 ≤ x.a
  a1 : x.a ≤ 2000
  plc : x.kids.plc
  size : x.kids.size ≤ 2000
theorem parse_okT {s : List UInt8} {x : Ex} {t : List Tk} (h : parseA s = .ok x t) : x.okT := by
  obtain ⟨g, hs⟩ := parse_gd h
  have hs : x.kids.size + 1 ≤ 2001 := hs
  obtain ⟨h1, h2, h3, h4, h5, h6, _⟩ := g
  obtain ⟨a1, a2, a3⟩ := Fs.gd_all h6 (by omega)
  have := Fs.len_size x.kids
  exact ⟨⟨by unfold maxLen; omega, a1, by omega, h1, h2, a2⟩, h4, h5, a3, by omega⟩
end Go.Proofs.YtafnlhnenmpfoaaGreatDoor
namespace Go.Proofs.YtafnlhnenmpfoaaGreatDoor
open Go.ChangeShapes Go.WideShapes Go.ChangeAt Go.RowKit
set_option linter.unusedVariables false
set_option linter.unusedSimpArgs false

/-- All that lies fast: tables, words, errors. -/
structure FixA (w : World) : Prop where
  fx : FixT w
  er : Ers w
theorem FixA.below {w w' : World} (h : FixA w) (b : Below w.heap.size w w') : FixA w' := ⟨h.fx.below b, h.er.below b⟩
theorem parse_a (s : ByteArray) (w : World) (FX : FixA w) (hs : s.size ≤ maxLen) : Calls Tryz.prog 9 #[.string s] w (PostR w (parseA s.data.toList)) :=
  parse_r s w FX.fx.fx.wd FX.er ⟨FX.fx.fx.tb.1, FX.fx.fx.tb.2.1, FX.fx.fx.tb.2.2⟩ hs
def awA : List UInt8 := [49, 45, 40, 50, 45, 51, 41]
def awB : List UInt8 := [97, 32, 61, 32, 98, 32, 61, 32, 99]
def awC : List UInt8 := [49, 32, 45, 32, 40, 50, 32, 45, 32, 51, 41]
theorem aw_one : (match parseA awA with | .ok x _ => writA x | _ => none) = some awC := by kernel_rfl
theorem aw_two : parseA awB = .bad 120 6 := by kernel_rfl
theorem aw_x : ∃ x t, parseA awA = .ok x t ∧ writA x = some awC := by
  have h := aw_one
  cases hp : parseA awA using Rs.on with
  | out => rw [hp] at h; cases h
  | bad e a => rw [hp] at h; cases h
  | ok x t => rw [hp] at h; exact ⟨x, t, rfl, h⟩
set_option maxRecDepth 100000 in
set_option maxHeartbeats 1000000 in
theorem awake_r (w : World) (FX : FixA w) : Calls Tryz.prog 7 #[] w fun e w' => e = .returned (.bool true) ∧ Below w.heap.size w w' := by
  obtain ⟨x, t, hx, hw⟩ := aw_x
  have hok := parse_okT hx
  have c1 := parse_a ⟨awA.toArray⟩ w FX (by decide)
  have e1 : (ByteArray.mk awA.toArray).data.toList = awA := by simp
  rw [e1, hx] at c1
  go_enter Tryz.func7, Tryz.ntmps7
  go_wp2_with fail
  refine c1.mono ?_
  rintro e w1 ⟨ao, cap, rfl, S1, b1⟩
  clear c1
  have b2 : Below w1.heap.size w1 (w1.alloc (.cells #[.int .i64 x.k, .int .i64 x.n, stv x.nm, .slice ao x.kids.len cap, .int .i64 x.a] 25)) := (Below.refl _ w1).alloc (Nat.le_refl _) _
  have X2 : (w1.alloc (.cells #[.int .i64 x.k, .int .i64 x.n, stv x.nm, .slice ao x.kids.len cap, .int .i64 x.a] 25)).heap[w1.heap.size]? = some (.cells #[.int .i64 x.k, .int .i64 x.n, stv x.nm, .slice ao x.kids.len cap, .int .i64 x.a] 25) := heap_alloc_new w1 _
  have B2 := b1.trans (b2.mono b1.size)
  have FX2 := (FX.below b1).below b2
  have S2 : SlT (w1.alloc (.cells #[.int .i64 x.k, .int .i64 x.n, stv x.nm, .slice ao x.kids.len cap, .int .i64 x.a] 25)) x.kids ao := SlT.below (Sl.all S1) b2
  rw [exV_out]
  go_upto_region 2 with fail
  generalize w1.alloc (.cells #[.int .i64 x.k, .int .i64 x.n, stv x.nm, .slice ao x.kids.len cap, .int .i64 x.a] 25) = w2 at *
  generalize w1.heap.size = bx at *
  have c3 := print_r x ao cap w2 hok.fit FX2.fx S2
  rw [hw, exV_out] at c3
  obtain ⟨p0, p1, p2, p3, p4, pf⟩ := box5 X2
  go_wp2_with fail
  refine c3.mono ?_
  rintro e w3 ⟨rfl, b3⟩
  clear c3 p0 p1 p2 p3 p4 pf
  have B3 := B2.trans (b3.mono B2.size)
  have FX3 := FX2.below b3
  simp only [Option.getD, Option.isSome, if_true]
  have c4 := parse_a ⟨awB.toArray⟩ w3 FX3 (by decide)
  have e4 : (ByteArray.mk awB.toArray).data.toList = awB := by simp
  rw [e4, aw_two] at c4
  go_upto_region 3 with fail
  go_wp2_with fail
  refine c4.mono ?_
  rintro e w4 ⟨rfl, b4⟩
  clear c4 e4
  have B4 := B3.trans (b4.mono B3.size)
  have B5 := B4.alloc B4.size (.cells #[.int .i64 0, .int .i64 0, .string ⟨#[]⟩, .slice none 0 0, .int .i64 0] 25)
  have eC : stv awC = .string ⟨#[49, 32, 45, 32, 40, 50, 32, 45, 32, 51, 41]⟩ := rfl
  rw [exV_out]
  simp only [noEx, Fs.len, eC]
  clear hw hx hok e1
  go_wp2
  go_ret
  exact ⟨rfl, B5⟩
end Go.Proofs.YtafnlhnenmpfoaaGreatDoor
namespace Go.Proofs.YtafnlhnenmpfoaaGreatDoor
open Go.ChangeShapes Go.WideShapes Go.ChangeAt Go.RowKit
set_option linter.unusedVariables false
set_option linter.unusedSimpArgs false

/-- The reader in memory: tokens, the place among them, what is open, the error and its place. -/
def Rq (w : World) (rb i : Nat) (o q : Int) (er pl : Nat) (all : List Tk) : Prop :=
  ∃ g cap, w.heap[rb]? = some (.cells #[.slice (some ⟨g, 0, none⟩) all.length cap, .int .i64 (i : Nat), .int .i64 o, .int .i64 q, .int .i64 (er : Nat), .int .i64 (pl : Nat)] 44 (0, 0)) ∧ g < rb ∧ (∀ j u, (tcells all)[j]? = some u → w.cell? ⟨g, j, none⟩ = some u) ∧ all.length ≤ 3000 ∧ all.length ≤ cap ∧ cap ≤ maxLen
theorem Rq.lt {w : World} {rb i : Nat} {o q : Int} {er pl : Nat} {all : List Tk} (h : Rq w rb i o q er pl all) : rb < w.heap.size := by
  obtain ⟨g, cap, h1, _⟩ := h
  exact lt_of_block h1
theorem Rq.below {w w' : World} {rb i : Nat} {o q : Int} {er pl : Nat} {all : List Tk} (h : Rq w rb i o q er pl all) (b : Below w.heap.size w w') : Rq w' rb i o q er pl all := by
  have hlt := h.lt
  obtain ⟨g, cap, h1, h2, h3, h4⟩ := h
  exact ⟨g, cap, (b.block rb hlt).trans h1, h2, fun j u hu => (b.cell (p := ⟨g, j, none⟩) (show g < w.heap.size by omega)).trans (h3 j u hu), h4⟩
/-- What is read of the reader and its next token. -/
theorem Rq.next {w : World} {rb i : Nat} {o q : Int} {er pl : Nat} {all : List Tk} {x : Tk} (h : Rq w rb i o q er pl all) (hx : all[i]? = some x) : ∃ g cap L, g < rb ∧ i < L ∧ L ≤ cap ∧ cap ≤ maxLen ∧ L ≤ 3000 ∧ (w.cell? ⟨rb, 0, none⟩ = some (.slice (some ⟨g, 0, none⟩) L cap) ∧ w.cell? ⟨rb, 1, none⟩ = some (.int .i64 (i : Nat)) ∧ w.cell? ⟨g, i * 4, none⟩ = some (.int .i64 (x.k : Nat)) ∧ w.cell? ⟨g, i * 4 + 1, none⟩ = some (.int .i64 x.n) ∧ w.cell? ⟨g, i * 4 + 2, none⟩ = some (stv x.t) ∧ w.cell? ⟨g, i * 4 + 3, none⟩ = some (.int .i64 (x.a : Nat))) ∧ w.cell? ⟨rb, 2, none⟩ = some (.int .i64 o) ∧ w.cell? ⟨rb, 3, none⟩ = some (.int .i64 q) ∧ w.cell? ⟨rb, 4, none⟩ = some (.int .i64 (er : Nat)) ∧ w.cell? ⟨rb, 5, none⟩ = some (.int .i64 (pl : Nat)) ∧ (∀ j, w.frozen? ⟨rb, j, none⟩ = false) := by
  obtain ⟨g, cap, h1, h2, h3, h4, h5, h6⟩ := h
  have hi : i < all.length := by
    by_cases hi : i < all.length
    · exact hi
    · rw [List.getElem?_eq_none (by omega)] at hx; cases hx
  obtain ⟨t0, t1, t2, t3⟩ := tkcells_at all i x hx
  refine ⟨g, cap, all.length, h2, hi, h5, h6, h4, ⟨?_, ?_, h3 _ _ t0, h3 _ _ t1, h3 _ _ t2, h3 _ _ t3⟩, ?_, ?_, ?_, ?_, fun j => frozen_of_row w rb j _ _ h1⟩
  all_goals simp [cell_of_row w rb _ _ _ (0, 0) h1]
/-- A field of the reader is written. -/
theorem Rq.set {w : World} {rb i : Nat} {o q : Int} {er pl : Nat} {all : List Tk} (h : Rq w rb i o q er pl all) :
    (∀ i' : Nat, Rq (w.setCell ⟨rb, 1, none⟩ (.int .i64 (i' : Nat))) rb i' o q er pl all) ∧ (∀ o' : Int, Rq (w.setCell ⟨rb, 2, none⟩ (.int .i64 o')) rb i o' q er pl all) ∧ (∀ q' : Int, Rq (w.setCell ⟨rb, 3, none⟩ (.int .i64 q')) rb i o q' er pl all) ∧ (∀ er' : Nat, Rq (w.setCell ⟨rb, 4, none⟩ (.int .i64 (er' : Nat))) rb i o q er' pl all) ∧ (∀ pl' : Nat, Rq (w.setCell ⟨rb, 5, none⟩ (.int .i64 (pl' : Nat))) rb i o q er pl' all) := by
  obtain ⟨g, cap, h1, h2, h3, h4⟩ := h
  have hB : Blk w (fun _ => 0) 0 rb (.cells #[.slice (some ⟨g, 0, none⟩) all.length cap, .int .i64 (i : Nat), .int .i64 o, .int .i64 q, .int .i64 (er : Nat), .int .i64 (pl : Nat)] 44 (0, 0)) := ⟨h1, rfl⟩
  have hc : ∀ (k : Nat) (v : Value) j u, (tcells all)[j]? = some u → (w.setCell ⟨rb, k, none⟩ v).cell? ⟨g, j, none⟩ = some u := fun k v j u hu => (World.cell?_of_block (a := ⟨g, j, none⟩) (heap_setCell_other w ⟨rb, k, none⟩ g v (show g ≠ rb by omega))).trans (h3 j u hu)
  exact ⟨fun i' => ⟨g, cap, (hB.set 1 _).1, h2, hc 1 _, h4⟩, fun o' => ⟨g, cap, (hB.set 2 _).1, h2, hc 2 _, h4⟩, fun q' => ⟨g, cap, (hB.set 3 _).1, h2, hc 3 _, h4⟩, fun er' => ⟨g, cap, (hB.set 4 _).1, h2, hc 4 _, h4⟩, fun pl' => ⟨g, cap, (hB.set 5 _).1, h2, hc 5 _, h4⟩⟩
theorem Keep.at {rb : Nat} (w : World) (k : Nat) (v : Value) : Keep rb w (w.setCell ⟨rb, k, none⟩ v) := (Keep.refl rb w).set ⟨rb, k, none⟩ v (.inr rfl)
theorem two_alloc (w : World) (o1 : Obj) : (w.alloc o1).drew.heap[w.heap.size]? = some o1 ∧ Below w.heap.size w (w.alloc o1).drew := ⟨heap_alloc_new w _, ((Below.refl _ w).alloc (Nat.le_refl _) _).drew⟩
set_option maxRecDepth 100000 in
set_option maxHeartbeats 1000000 in
theorem is_q {w : World} {rb i : Nat} {o q : Int} {er pl : Nat} {all : List Tk} {x : Tk} (s : List UInt8) (h : Rq w rb i o q er pl all) (hx : all[i]? = some x) :
    Calls Tryz.prog 71 #[.pointer (some ⟨rb, 0, none⟩), stv s] w fun e w' => e = .returned (.bool ((er == 0) && ((x.k == 3 || x.k == 4) && x.t == s))) ∧ Below w.heap.size w w' := by
  obtain ⟨B, hB⟩ : ∃ B, B = ((er == 0) && ((x.k == 3 || x.k == 4) && x.t == s)) := ⟨_, rfl⟩
  rw [← hB]
  have HB : Hid (B = ((er == 0) && ((x.k == 3 || x.k == 4) && x.t == s))) := hB
  clear hB
  obtain ⟨g, cap, L, hg, hi, hc, hm, hL, ⟨c0, c1, t0, t1, t2, t3⟩, c2, c3, c4, c5, hf⟩ := h.next hx
  have hrb := h.lt
  have bz : Below w.heap.size w (w.alloc (.cells #[.int .i64 0, .int .i64 0, .string ⟨#[]⟩, .int .i64 0] 47)) := (Below.refl _ w).alloc (Nat.le_refl _) _
  have d0 := (bz.cell (p := ⟨rb, 0, none⟩) hrb).trans c0
  have d1 := (bz.cell (p := ⟨rb, 1, none⟩) hrb).trans c1
  have hgs : g < w.heap.size := by omega
  have u0 := (bz.cell (p := ⟨g, i * 4, none⟩) hgs).trans t0
  have u1 := (bz.cell (p := ⟨g, i * 4 + 1, none⟩) hgs).trans t1
  have u2 := (bz.cell (p := ⟨g, i * 4 + 2, none⟩) hgs).trans t2
  have u3 := (bz.cell (p := ⟨g, i * 4 + 3, none⟩) hgs).trans t3
  have hmm : cap ≤ 9223372036854775807 := hm
  have hiI : (i : Int) < (L : Int) := by omega
  have HX : Hid (∀ wx, Below w.heap.size w wx → wx.cell? ⟨rb, 4, none⟩ = some (.int .i64 (er : Nat))) := fun wx b => (b.cell (p := ⟨rb, 4, none⟩) hrb).trans c4
  clear h bz hm
  go_enter Tryz.func71, Tryz.ntmps71
  go_upto_region 1 with fail
  go_cut [5] (fun v wx => ∃ bt, v = .pointer (some ⟨bt, 0, none⟩) ∧ wx.heap[bt]? = some (.cells #[.int .i64 (x.k : Nat), .int .i64 x.n, stv x.t, .int .i64 (x.a : Nat)] 47) ∧ Below w.heap.size w wx)
  case first =>
    have h2 := two_alloc w (.cells #[.int .i64 (x.k : Nat), .int .i64 x.n, stv x.t, .int .i64 (x.a : Nat)] 47)
    go_region
    all_goals
      go_wp2
      go_meet
      exact ⟨_, rfl, h2.1, h2.2⟩
  case rest =>
  obtain ⟨bt, rfl, hT, B1⟩ := hcut
  obtain ⟨p0, p1, p2, p3, -⟩ := Blk.cells4 (o := fun _ => 0) (i := 0) ⟨hT, rfl⟩
  have e4 := HX.out _ B1
  clear c0 c1 t0 t1 t2 t3 d0 d1 u0 u1 u2 u3 c2 c3 c4 c5 hT HX
  by_cases h0 : er = 0
  · subst h0
    by_cases h3 : x.k = 3
    · have b3 : ((x.k : Int) == 3) = true := by simp [h3]
      have b4 : Hid (B = (x.t == s)) := by show B = _; rw [HB.out]; simp [h3]
      clear h3 HB
      go_wp2
      go_ret
      exact ⟨by rw [b4.out]; simp, B1⟩
    · have b3 : ((x.k : Int) == 3) = false := by simp; omega
      by_cases h4 : x.k = 4
      · have b4 : ((x.k : Int) == 4) = true := by simp [h4]
        have b5 : Hid (B = (x.t == s)) := by show B = _; rw [HB.out]; simp [h4]
        clear h3 h4 HB
        go_wp2
        go_ret
        exact ⟨by rw [b5.out]; simp, B1⟩
      · have b4 : ((x.k : Int) == 4) = false := by simp; omega
        have b5 : Hid (B = false) := by show B = _; rw [HB.out]; simp [h3, h4]
        clear h3 h4 HB
        go_wp2
        go_ret
        exact ⟨by rw [b5.out]; rfl, B1⟩
  · have b0 : ((er : Int) == 0) = false := by simp; omega
    have b1 : Hid (B = false) := by show B = _; rw [HB.out]; simp [h0]
    clear h0 HB
    go_wp2
    go_ret
    exact ⟨by rw [b1.out]; rfl, B1⟩
end Go.Proofs.YtafnlhnenmpfoaaGreatDoor
namespace Go.Proofs.YtafnlhnenmpfoaaGreatDoor
open Go.ChangeShapes Go.WideShapes Go.ChangeAt Go.RowKit
set_option linter.unusedVariables false
set_option linter.unusedSimpArgs false

/-- A word or a sign is told by its text alone. -/
def TokI (x : Tk) : Prop := ∀ s : List UInt8, s ≠ [] → nameB s = false → ((x.k == 3 || x.k == 4) && x.t == s) = (x.t == s)
/-- An error and its place, or the tokens that come next. -/
abbrev Sq := Sum (Nat × Nat) (List Tk)
def QS (w : World) (rb : Nat) (all : List Tk) (o q : Nat) : Sq → Prop
  | .inl (er, a) => ∃ (i : Nat) (o' q' : Int), Rq w rb i o' q' er a all ∧ i < all.length ∧ er ≠ 0
  | .inr ts => ∃ (i pl : Nat), Rq w rb i (o : Nat) (q : Nat) 0 pl all ∧ all.drop i = ts ∧ WFT ts ∧ o ≤ 64 ∧ q ≤ 4
def stp {α : Type} : Rs α → Sq
  | ⟨none⟩ => .inl (0, 0)
  | ⟨some (.inl (e, a))⟩ => .inl (e, a)
  | ⟨some (.inr (_, t))⟩ => .inr t
def onw {α : Type} (f : List Tk → Rs α) : Sq → Sq
  | .inl ea => .inl ea
  | .inr ts => stp (f ts)
def isS (s : List UInt8) : Sq → Bool
  | .inl _ => false
  | .inr [] => false
  | .inr (x :: _) => x.t == s
def failS (e : Nat) : Sq → Sq
  | .inl ea => .inl ea
  | .inr [] => .inl (0, 0)
  | .inr (x :: _) => .inl (e, x.a)
theorem QS.below {w w' : World} {rb o q : Nat} {all : List Tk} {st : Sq} (h : QS w rb all o q st) (b : Below w.heap.size w w') : QS w' rb all o q st := by
  match st, h with
  | .inl (er, a), ⟨i, o', q', h1, h2⟩ => exact ⟨i, o', q', h1.below b, h2⟩
  | .inr ts, ⟨i, pl, h1, h2⟩ => exact ⟨i, pl, h1.below b, h2⟩
theorem QS.lt {w : World} {rb o q : Nat} {all : List Tk} {st : Sq} (h : QS w rb all o q st) : rb < w.heap.size := by
  match st, h with
  | .inl (er, a), ⟨i, o', q', h1, h2⟩ => exact h1.lt
  | .inr ts, ⟨i, pl, h1, h2⟩ => exact h1.lt
theorem dropQ {all : List Tk} {i : Nat} {x : Tk} {r : List Tk} (h : all.drop i = x :: r) : all[i]? = some x ∧ all.drop (i + 1) = r ∧ x ∈ all := by
  have h1 : (all.drop i)[0]? = some x := by rw [h]; rfl
  rw [List.getElem?_drop] at h1
  have h2 : (all.drop i).tail = r := by rw [h]; rfl
  rw [List.tail_drop] at h2
  exact ⟨by simpa using h1, h2, List.mem_of_mem_drop (i := i) (by rw [h]; exact List.mem_cons_self)⟩
set_option maxRecDepth 100000 in
set_option maxHeartbeats 1000000 in
theorem fails_q {w : World} {rb i : Nat} {o q : Int} {pl : Nat} {all : List Tk} {x : Tk} (e : Nat) (h : Rq w rb i o q 0 pl all) (hx : all[i]? = some x) :
    Calls Tryz.prog 22 #[.pointer (some ⟨rb, 0, none⟩), .int .i64 (e : Nat)] w fun r w' => r = .returned (.tuple #[]) ∧ Rq w' rb i o q e x.a all ∧ Keep rb w w' := by
  obtain ⟨_, _, _, _, _, _, _, _, _, _, _, c4, _, hf0⟩ := h.next hx
  have h1 := h.set.2.2.2.1 e
  have h2 := h1.set.2.2.2.2 x.a
  have K := (Keep.at (rb := rb) w 4 (.int .i64 (e : Nat))).trans (Keep.at _ 5 (.int .i64 (x.a : Nat)))
  obtain ⟨g, cap, L, hg, hi, hc, hm, hL, ⟨c0, c1, t0, t1, t2, t3⟩, -, -, -, c5, hf⟩ := h1.next hx
  have hmm : cap ≤ 9223372036854775807 := hm
  have hiI : (i : Int) < (L : Int) := by omega
  clear h h1 t0 t1 t2 hm
  go_enter Tryz.func22, Tryz.ntmps22
  go_upto_region 2 with fail
  generalize w.setCell ⟨rb, 4, none⟩ (.int .i64 (e : Nat)) = w3 at *
  go_region
  all_goals
    go_wp2
    go_end0
    exact ⟨rfl, h2.below (Below.refl _ _).drew, K.drew⟩
set_option maxRecDepth 100000 in
set_option maxHeartbeats 1000000 in
theorem fails_no {w : World} {rb i : Nat} {o q : Int} {er pl : Nat} {all : List Tk} {x : Tk} (e : Nat) (h : Rq w rb i o q er pl all) (hx : all[i]? = some x) (h0 : er ≠ 0) :
    Calls Tryz.prog 22 #[.pointer (some ⟨rb, 0, none⟩), .int .i64 (e : Nat)] w fun r w' => r = .returned (.tuple #[]) ∧ Rq w' rb i o q er pl all ∧ Keep rb w w' := by
  have b0 : ((er : Int) == 0) = false := by simp; omega
  obtain ⟨_, _, _, _, _, _, _, _, _, _, _, c4, _, hf0⟩ := h.next hx
  have K := Keep.refl rb w
  clear h0
  go_enter Tryz.func22, Tryz.ntmps22
  go_wp2
  go_end0
  exact ⟨rfl, h, K⟩
theorem is_s {w : World} {rb o q : Nat} {all : List Tk} {st : Sq} (TI : ∀ x, x ∈ all → TokI x) (s : List UInt8) (hs : s ≠ []) (hn : nameB s = false) (h : QS w rb all o q st) :
    Calls Tryz.prog 71 #[.pointer (some ⟨rb, 0, none⟩), stv s] w fun e w' => e = .returned (.bool (isS s st)) ∧ Below w.heap.size w w' := by
  match st, h with
  | .inl (er, a), ⟨i, o', q', h1, h2, h3⟩ =>
    refine (is_q s h1 (List.getElem?_eq_getElem h2)).mono ?_
    rintro e w' ⟨rfl, b⟩
    exact ⟨by simp [h3, isS], b⟩
  | .inr [], ⟨i, pl, h1, h2, h3⟩ => exact absurd rfl h3.1.ne
  | .inr (x :: r), ⟨i, pl, h1, h2, h3⟩ =>
    obtain ⟨hx, _, hm⟩ := dropQ h2
    refine (is_q s h1 hx).mono ?_
    rintro e w' ⟨rfl, b⟩
    exact ⟨by rw [TI x hm s hs hn]; simp [isS], b⟩
theorem fail_s {w : World} {rb o q : Nat} {all : List Tk} {st : Sq} (e : Nat) (he : e ≠ 0) (h : QS w rb all o q st) :
    Calls Tryz.prog 22 #[.pointer (some ⟨rb, 0, none⟩), .int .i64 (e : Nat)] w fun r w' => r = .returned (.tuple #[]) ∧ QS w' rb all o q (failS e st) ∧ Keep rb w w' := by
  match st, h with
  | .inl (er, a), ⟨i, o', q', h1, h2, h3⟩ =>
    refine (fails_no e h1 (List.getElem?_eq_getElem h2) h3).mono ?_
    rintro r w' ⟨rfl, b, k⟩
    exact ⟨rfl, ⟨i, o', q', b, h2, h3⟩, k⟩
  | .inr [], ⟨i, pl, h1, h2, h3⟩ => exact absurd rfl h3.1.ne
  | .inr (x :: r), ⟨i, pl, h1, h2, h3⟩ =>
    obtain ⟨hx, _, hm⟩ := dropQ h2
    refine (fails_q e h1 hx).mono ?_
    rintro r' w' ⟨rfl, b, k⟩
    exact ⟨rfl, ⟨i, _, _, b, by have := List.getElem?_eq_some_iff.1 hx; exact this.1, he⟩, k⟩
end Go.Proofs.YtafnlhnenmpfoaaGreatDoor

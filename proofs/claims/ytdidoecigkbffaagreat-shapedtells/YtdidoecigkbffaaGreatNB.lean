/- Plain facts: an order by keys that keeps what stands ahead is one alone; so codes hang on counts alone. -/
import Derived.Test.YtdidoecigkbffaaGreatNA
namespace Go.Proofs.YtdidoecigkbffaaGreat
open S J

variable {α : Type} {κ : α → Int}

theorem same_cons_head {a b : α} {s t : List α} (h : Same κ (a :: s) (b :: t)) (h1 : ∀ x ∈ s, κ a ≤ κ x) (h2 : ∀ x ∈ t, κ b ≤ κ x) : a = b ∧ Same κ s t := by
  have ha : a ∈ b :: t := h.mem (by simp)
  have hb : b ∈ a :: s := h.symm.mem (by simp)
  have hk : κ a = κ b := by
    have e1 : κ b ≤ κ a := by
      rcases List.mem_cons.1 ha with e | e
      · rw [e]; exact Int.le_refl _
      · exact h2 a e
    have e2 : κ a ≤ κ b := by
      rcases List.mem_cons.1 hb with e | e
      · rw [e]; exact Int.le_refl _
      · exact h1 b e
    omega
  have hf := h (κ a)
  rw [List.filter_cons, if_pos (by simp), List.filter_cons, if_pos (by simp [hk])] at hf
  have hab : a = b := (List.cons.inj hf).1
  subst hab
  refine ⟨rfl, fun k => ?_⟩
  have := h k
  rw [List.filter_cons, List.filter_cons] at this
  by_cases e : κ a = k
  · rw [if_pos (by simpa using e), if_pos (by simpa using e)] at this
    exact (List.cons.inj this).2
  · rw [if_neg (by simpa using e), if_neg (by simpa using e)] at this
    exact this

theorem same_uniq : ∀ {ys zs : List α}, Same κ ys zs → ys.Pairwise (fun a b => κ a ≤ κ b) → zs.Pairwise (fun a b => κ a ≤ κ b) → ys = zs := by
  intro ys
  induction ys with
  | nil => intro zs h _ _; exact (h.nil).symm
  | cons a s ih =>
    intro zs h h1 h2
    cases zs with
    | nil => have := h.symm.nil; cases this
    | cons b t =>
      rw [List.pairwise_cons] at h1 h2
      obtain ⟨e, hs⟩ := same_cons_head h h1.1 h2.1
      rw [e, ih hs h1.2 h2.2]

/-- An order by insertion. -/
def insS (κ : α → Int) (x : α) : List α → List α
  | [] => [x]
  | y :: t => if κ x ≤ κ y then x :: y :: t else y :: insS κ x t
def isort (κ : α → Int) : List α → List α
  | [] => []
  | x :: t => insS κ x (isort κ t)

theorem insS_same (x : α) : ∀ t : List α, Same κ (x :: t) (insS κ x t) := by
  intro t
  induction t with
  | nil => exact Same.refl _ _
  | cons y t ih =>
    show Same κ (x :: y :: t) (if κ x ≤ κ y then x :: y :: t else y :: insS κ x t)
    split
    · exact Same.refl _ _
    · have h1 : Same κ ([x] ++ [y]) ([y] ++ [x]) := Same.swap (by intro a ha b hb; simp at ha hb; subst ha hb; omega)
      have h2 : Same κ (x :: y :: t) (y :: x :: t) := h1.app (Same.refl κ t)
      exact h2.trans ((Same.refl κ [y]).app ih)
theorem insS_mem {x z : α} : ∀ {t : List α}, z ∈ insS κ x t → z = x ∨ z ∈ t := fun {t} h => by
  have := (insS_same (κ := κ) x t).symm.mem h
  simpa using this
theorem insS_sorted (x : α) : ∀ {t : List α}, t.Pairwise (fun a b => κ a ≤ κ b) → (insS κ x t).Pairwise (fun a b => κ a ≤ κ b) := by
  intro t
  induction t with
  | nil => intro _; simp [insS]
  | cons y t ih =>
    intro h
    rw [List.pairwise_cons] at h
    show (if κ x ≤ κ y then x :: y :: t else y :: insS κ x t).Pairwise _
    split
    · rename_i hxy
      rw [List.pairwise_cons, List.pairwise_cons]
      refine ⟨fun z hz => ?_, h.1, h.2⟩
      rcases List.mem_cons.1 hz with e | e
      · rw [e]; exact hxy
      · have := h.1 z e; omega
    · rw [List.pairwise_cons]
      refine ⟨fun z hz => ?_, ih h.2⟩
      rcases insS_mem hz with e | e
      · rw [e]; omega
      · exact h.1 z e
theorem isort_ok : ∀ t : List α, Same κ t (isort κ t) ∧ (isort κ t).Pairwise (fun a b => κ a ≤ κ b) := by
  intro t
  induction t with
  | nil => exact ⟨Same.refl _ _, List.Pairwise.nil⟩
  | cons x t ih => exact ⟨((Same.refl κ [x]).app ih.1).trans (insS_same x _), insS_sorted x ih.2⟩

/-- The heaps of counts, and their symbols, in order. -/
def ysF (xs : List Int) (n : Nat) : List Hp := isort Hp.w (loneL xs n)
def zsF (xs : List Int) (n : Nat) : List Int := isort (fun x : Int => (depF (ysF xs n) x.toNat : Int)) (symL (depF (ysF xs n)) n)
/-- The code of symbol c. -/
def codeOf (xs : List Int) (n : Nat) (c : Nat) : List Bool := codF (ysF xs n) (zsF xs n) c

theorem Cod.told {xs : List Int} {n : Nat} {ys : List Hp} {zs : List Int} (h : Cod xs n ys zs) : ys = ysF xs n ∧ zs = zsF xs n := by
  have e1 : ys = ysF xs n := same_uniq (κ := Hp.w) (h.yo.same.symm.trans (isort_ok _).1) h.yo.pw (isort_ok _).2
  subst e1
  refine ⟨rfl, ?_⟩
  have hk := isort_ok (κ := fun x : Int => (depF (ysF xs n) x.toNat : Int)) (symL (depF (ysF xs n)) n)
  exact same_uniq (κ := fun x : Int => (depF (ysF xs n) x.toNat : Int)) (h.same.symm.trans hk.1) (h.pw.imp fun h => by simpa using h) hk.2

theorem codes511 : codeOf [5, 1, 1] 3 0 = [false] ∧ codeOf [5, 1, 1] 3 1 = [true, false] ∧ codeOf [5, 1, 1] 3 2 = [true, true] := by decide
theorem codes0012 : codeOf (cntL [0, 0, 1, 2] 3) 3 0 = [false] ∧ codeOf (cntL [0, 0, 1, 2] 3) 3 1 = [true, false] ∧ codeOf (cntL [0, 0, 1, 2] 3) 3 2 = [true, true] := by decide

end Go.Proofs.YtdidoecigkbffaaGreat

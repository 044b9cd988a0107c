/- Plain facts: the order of all places by their keys; how many different keys are less. No program is named here. -/
import Derived.Test.YtdepncdknofocaaOA
namespace Go.Proofs.Ytdepncdknofocaa

variable {α : Type} {κ : α → Int}

/-- An order by insertion. -/
def insS (κ : α → Int) (x : α) : List α → List α
  | [] => [x]
  | y :: t => if κ x ≤ κ y then x :: y :: t else y :: insS κ x t
def isort (κ : α → Int) : List α → List α
  | [] => []
  | x :: t => insS κ x (isort κ t)

theorem insS_same (x : α) : ∀ t : List α, Same κ (x :: t) (insS κ x t) := by
  intro t
  induction t with
  | nil => exact Same.refl _ _
  | cons y t ih =>
    show Same κ (x :: y :: t) (if κ x ≤ κ y then x :: y :: t else y :: insS κ x t)
    split
    · exact Same.refl _ _
    · have h1 : Same κ ([x] ++ [y]) ([y] ++ [x]) := Same.swap (by intro a ha b hb; simp at ha hb; subst ha hb; omega)
      have h2 : Same κ (x :: y :: t) (y :: x :: t) := h1.app (Same.refl κ t)
      exact h2.trans ((Same.refl κ [y]).app ih)
theorem insS_mem {x z : α} : ∀ {t : List α}, z ∈ insS κ x t → z = x ∨ z ∈ t := fun {t} h => by
  have := (insS_same (κ := κ) x t).symm.mem h
  simpa using this
theorem insS_sorted (x : α) : ∀ {t : List α}, Pw κ t → Pw κ (insS κ x t) := by
  intro t
  induction t with
  | nil => intro _; simp [insS, Pw]
  | cons y t ih =>
    intro h
    unfold Pw at h
    rw [List.pairwise_cons] at h
    show Pw κ (if κ x ≤ κ y then x :: y :: t else y :: insS κ x t)
    unfold Pw
    split
    · rename_i hxy
      rw [List.pairwise_cons, List.pairwise_cons]
      refine ⟨fun z hz => ?_, h.1, h.2⟩
      rcases List.mem_cons.1 hz with e | e
      · rw [e]; exact hxy
      · have := h.1 z e; omega
    · rw [List.pairwise_cons]
      refine ⟨fun z hz => ?_, ih h.2⟩
      rcases insS_mem hz with e | e
      · rw [e]; omega
      · exact h.1 z e
theorem isort_ok : ∀ t : List α, Same κ t (isort κ t) ∧ Pw κ (isort κ t) := by
  intro t
  induction t with
  | nil => exact ⟨Same.refl _ _, List.Pairwise.nil⟩
  | cons x t ih => exact ⟨((Same.refl κ [x]).app ih.1).trans (insS_same x _), insS_sorted x ih.2⟩
theorem isort_uniq {xs ys : List α} (h : Same κ xs ys) (hp : Pw κ ys) : ys = isort κ xs := same_uniq (h.symm.trans (isort_ok xs).1) hp (isort_ok xs).2

/-- All places. -/
def plcs (n : Nat) : List Int := (List.range n).map fun i : Nat => (i : Int)
theorem plcs_length (n : Nat) : (plcs n).length = n := by simp [plcs]
theorem plcs_at (n i : Nat) (h : i < n) : (plcs n).getD i 0 = (i : Int) := by simp [plcs, List.getD_eq_getElem?_getD, h]
theorem plcs_mem {n : Nat} {x : Int} : x ∈ plcs n ↔ 0 ≤ x ∧ x < n := by
  unfold plcs
  rw [List.mem_map]
  constructor
  · rintro ⟨i, hi, rfl⟩; have := List.mem_range.1 hi; omega
  · rintro ⟨h1, h2⟩; exact ⟨x.toNat, List.mem_range.2 (by omega), by omega⟩
theorem plcs_nodup (n : Nat) : (plcs n).Nodup := by
  unfold plcs
  rw [List.Nodup, List.pairwise_map]
  exact List.nodup_range.imp fun h1 h2 => h1 (by omega)

/-- The places in order. -/
def ordP (κ : Int → Int) (n : Nat) : List Int := isort κ (plcs n)
theorem ordP_same (κ : Int → Int) (n : Nat) : Same κ (plcs n) (ordP κ n) := (isort_ok _).1
theorem ordP_pw (κ : Int → Int) (n : Nat) : Pw κ (ordP κ n) := (isort_ok _).2
theorem ordP_length (κ : Int → Int) (n : Nat) : (ordP κ n).length = n := by rw [← (ordP_same κ n).perm.length_eq, plcs_length]
theorem ordP_mem {κ : Int → Int} {n : Nat} {x : Int} : x ∈ ordP κ n ↔ 0 ≤ x ∧ x < n := by rw [← (ordP_same κ n).perm.mem_iff, plcs_mem]
theorem ordP_nodup (κ : Int → Int) (n : Nat) : (ordP κ n).Nodup := ((ordP_same κ n).perm.nodup_iff).1 (plcs_nodup n)

/-- Is it the first one of its key? -/
def fstB (κ : Int → Int) (k : Nat) : Bool := (List.range k).all fun j : Nat => decide (κ j ≠ κ k)
/-- How many different keys are less. -/
def nless (κ : Int → Int) (n : Nat) (v : Int) : Nat := ((List.range n).filter fun k : Nat => decide (κ k < v) && fstB κ k).length
def rnkL (κ : Int → Int) (n : Nat) : List Int := (List.range n).map fun p : Nat => ((nless κ n (κ p) : Nat) : Int)
theorem rnkL_length (κ : Int → Int) (n : Nat) : (rnkL κ n).length = n := by simp [rnkL]
theorem rnkL_at (κ : Int → Int) (n p : Nat) (h : p < n) : (rnkL κ n).getD p 0 = ((nless κ n (κ p) : Nat) : Int) := by simp [rnkL, List.getD_eq_getElem?_getD, h]

theorem fst_one (κ : Int → Int) (a : Int) : ∀ n, ((List.range n).filter fun k : Nat => decide (κ k = a) && fstB κ k).length = if ∃ k : Nat, k < n ∧ κ k = a then 1 else 0 := by
  intro n
  induction n with
  | zero => simp
  | succ n ih =>
    rw [List.range_succ, List.filter_append, List.length_append, ih]
    by_cases h : ∃ k : Nat, k < n ∧ κ k = a
    · obtain ⟨k, h1, h2⟩ := h
      rw [if_pos ⟨k, h1, h2⟩, if_pos ⟨k, by omega, h2⟩]
      have : (decide (κ n = a) && fstB κ n) = false := by
        by_cases e : κ n = a
        · rw [decide_eq_true e, Bool.true_and]
          unfold fstB
          rw [List.all_eq_false]
          exact ⟨k, List.mem_range.2 h1, by simp [h2, e]⟩
        · simp [e]
      rw [List.filter_cons, this]; rfl
    · rw [if_neg h]
      by_cases e : κ n = a
      · rw [if_pos ⟨n, by omega, e⟩]
        have : (decide (κ n = a) && fstB κ n) = true := by
          rw [decide_eq_true e, Bool.true_and]
          unfold fstB
          rw [List.all_eq_true]
          intro j hj
          have hj' := List.mem_range.1 hj
          simp only [decide_eq_true_eq]
          exact fun e2 => h ⟨j, hj', by omega⟩
        rw [List.filter_cons, this]; rfl
      · rw [if_neg (fun ⟨k, h1, h2⟩ => by
          by_cases e2 : k = n
          · subst e2; exact e h2
          · exact h ⟨k, by omega, h2⟩)]
        rw [List.filter_cons, decide_eq_false e]; rfl

theorem filter_two {β : Type} (l : List β) (p q r : β → Bool) (h1 : ∀ x ∈ l, p x = (q x || r x)) (h2 : ∀ x ∈ l, (q x && r x) = false) : (l.filter p).length = (l.filter q).length + (l.filter r).length := by
  induction l with
  | nil => rfl
  | cons x l ih =>
    have a := h1 x (by simp)
    have b := h2 x (by simp)
    have c := ih (fun y hy => h1 y (by simp [hy])) (fun y hy => h2 y (by simp [hy]))
    rw [List.filter_cons, List.filter_cons, List.filter_cons, a]
    cases hq : q x <;> cases hr : r x <;> simp [hq, hr] at b ⊢ <;> omega

/-- Ranks in order: one more, where another key begins. -/
def rkI (κ : Int → Int) (l : List Int) : Nat → Nat
  | 0 => 0
  | i + 1 => rkI κ l i + if κ (l.getD i 0) = κ (l.getD (i + 1) 0) then 0 else 1

theorem pw_at {κ : Int → Int} {l : List Int} (h : Pw κ l) {i j : Nat} (hij : i ≤ j) (hj : j < l.length) : κ (l.getD i 0) ≤ κ (l.getD j 0) := by
  rcases Nat.eq_or_lt_of_le hij with rfl | hlt
  · exact Int.le_refl _
  · have := List.pairwise_iff_getElem.1 h i j (by omega) hj hlt
    simpa [List.getD_eq_getElem?_getD, List.getElem?_eq_getElem hj, List.getElem?_eq_getElem (show i < l.length by omega)] using this

theorem rkI_less (κ : Int → Int) (n : Nat) : ∀ i, i < n → rkI κ (ordP κ n) i = nless κ n (κ ((ordP κ n).getD i 0)) := by
  have hpl : ∀ k : Nat, k < n → ∃ j, j < n ∧ (ordP κ n).getD j 0 = (k : Int) := fun k hk => by
    have hm : (k : Int) ∈ ordP κ n := ordP_mem.2 (by omega)
    obtain ⟨j, hj, e⟩ := List.getElem_of_mem hm
    exact ⟨j, by rw [ordP_length] at hj; exact hj, by simp [List.getD_eq_getElem?_getD, hj, e]⟩
  have hp := ordP_pw κ n
  have hl := ordP_length κ n
  intro i
  induction i with
  | zero =>
    intro h0
    show 0 = nless κ n _
    unfold nless
    symm
    rw [List.length_eq_zero_iff, List.filter_eq_nil_iff]
    intro k hk
    obtain ⟨j, hj, e⟩ := hpl k (List.mem_range.1 hk)
    have := pw_at hp (Nat.zero_le j) (by omega)
    rw [e] at this
    simp only [Bool.and_eq_true, decide_eq_true_eq, not_and]
    intro h; omega
  | succ i ih =>
    intro hi
    show rkI κ (ordP κ n) i + (if κ ((ordP κ n).getD i 0) = κ ((ordP κ n).getD (i + 1) 0) then 0 else 1) = _
    rw [ih (by omega)]
    have hle := pw_at hp (show i ≤ i + 1 by omega) (by omega)
    by_cases e : κ ((ordP κ n).getD i 0) = κ ((ordP κ n).getD (i + 1) 0)
    · rw [if_pos e, e]; rfl
    · rw [if_neg e]
      have h1 := fst_one κ (κ ((ordP κ n).getD i 0)) n
      rw [if_pos] at h1
      · refine Eq.trans (congrArg (nless κ n (κ ((ordP κ n).getD i 0)) + ·) h1.symm) ?_
        unfold nless
        symm
        refine filter_two _ _ _ _ (fun k hk => ?_) (fun k hk => ?_)
        · obtain ⟨j, hj, e2⟩ := hpl k (List.mem_range.1 hk)
          rw [← Bool.and_or_distrib_right]
          congr 1
          rw [← Bool.decide_or, decide_eq_decide]
          by_cases hji : j ≤ i
          · have := pw_at hp hji (by omega)
            rw [e2] at this
            omega
          · have := pw_at hp (show i + 1 ≤ j by omega) (by omega)
            rw [e2] at this
            omega
        · by_cases h : κ k = κ ((ordP κ n).getD i 0)
          · simp [h]
          · rw [decide_eq_false h]; simp
      · have hm := (ordP_mem (κ := κ) (n := n) (x := (ordP κ n).getD i 0)).1 (by
          have : i < (ordP κ n).length := by omega
          simp [List.getD_eq_getElem?_getD, this])
        exact ⟨((ordP κ n).getD i 0).toNat, by omega, by rw [show ((((ordP κ n).getD i 0).toNat : Nat) : Int) = (ordP κ n).getD i 0 by omega]⟩

/-- A list that has at each place its rank is that of the ranks. -/
theorem rnk_uniq (κ : Int → Int) (n : Nat) (d : Nat → Int) (h : ∀ i, i < n → d ((ordP κ n).getD i 0).toNat = ((rkI κ (ordP κ n) i : Nat) : Int)) : ∀ p, p < n → d p = (rnkL κ n).getD p 0 := by
  intro p hp
  have hm : (p : Int) ∈ ordP κ n := ordP_mem.2 (by omega)
  obtain ⟨j, hj, e⟩ := List.getElem_of_mem hm
  rw [ordP_length] at hj
  have e2 : (ordP κ n).getD j 0 = (p : Int) := by simp [List.getD_eq_getElem?_getD, ordP_length, hj, e]
  have h1 := h j hj
  rw [rkI_less κ n j hj, e2, Int.toNat_natCast] at h1
  rw [h1, rnkL_at κ n p hp]

end Go.Proofs.Ytdepncdknofocaa

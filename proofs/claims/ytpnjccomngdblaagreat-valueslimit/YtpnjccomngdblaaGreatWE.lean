/- Plain facts on the rows of symbols that are sorted by their first bits: where those stand whose first bits are p. -/
import Derived.Test.YtpnjccomngdblaaGreatWD
set_option maxRecDepth 100000
namespace Go.Proofs.YtpnjccomngdblaaGreat
open Go.RowKit
open M

theorem half_lt (x p : Int) (s : Nat) : x / 2 ^ s < 2 * p ↔ x / 2 ^ (s + 1) < p := by
  have e : x / 2 ^ (s + 1) = x / 2 ^ s / 2 := by
    rw [Int.pow_succ, Int.ediv_ediv_of_nonneg (by exact Int.le_of_lt (Int.pow_pos (by decide)))]
  rw [e]; omega
theorem half_eq (x p : Int) (s : Nat) (b : Bool) : x / 2 ^ s = 2 * p + (if b = true then 1 else 0) ↔ x / 2 ^ (s + 1) = p ∧ decide (x / 2 ^ s % 2 = 1) = b := by
  have e : x / 2 ^ (s + 1) = x / 2 ^ s / 2 := by
    rw [Int.pow_succ, Int.ediv_ediv_of_nonneg (by exact Int.le_of_lt (Int.pow_pos (by decide)))]
  rw [e]
  cases b <;> simp <;> omega
theorem half_nn (x : Int) (s : Nat) : 0 ≤ x / 2 ^ s ↔ 0 ≤ x := by
  have hp : (0 : Int) < 2 ^ s := Int.pow_pos (by decide)
  constructor
  · intro h
    by_cases hx : 0 ≤ x
    · exact hx
    · have := Int.ediv_neg_of_neg_of_pos (show x < 0 by omega) hp
      omega
  · intro h; exact Int.ediv_nonneg h (by omega)

/-- Where the symbols whose parts above 2^s are p begin. -/
theorem sortI_half (l : List Int) (s p : Nat) : (sortI l s (2 * p)).length = (sortI l (s + 1) p).length := by
  rw [sortI_count, sortI_count]
  congr 1
  funext x
  have h1 := half_lt x p s
  have h2 := half_nn x s
  have h3 := half_nn x (s + 1)
  rw [decide_eq_decide]
  rw [show (((2 * p : Nat)) : Int) = 2 * (p : Int) by omega, h1, h2, h3]
theorem sortI_half1 (l : List Int) (s p : Nat) : (sortI l s (2 * p + 1)).length = (sortI l (s + 1) p).length + (withI l s (2 * p)).length := by
  rw [sortI_succ, List.length_append, sortI_half]

/-- Of those whose parts are p, those with that bit are they whose parts are twice as great, and the bit. -/
theorem withI_child (l : List Int) (s p : Nat) (b : Bool) : withI l s (2 * p + if b = true then 1 else 0) = (withI l (s + 1) p).filter fun x => decide (x / 2 ^ s % 2 = 1) == b := by
  unfold withI
  rw [List.filter_filter]
  congr 1
  funext x
  have h := half_eq x p s b
  have e : (((2 * p + if b = true then 1 else 0 : Nat)) : Int) = 2 * (p : Int) + if b = true then 1 else 0 := by cases b <;> simp
  rw [e]
  by_cases hx : x / 2 ^ s = 2 * (p : Int) + if b = true then 1 else 0
  · obtain ⟨h1, h2⟩ := h.1 hx
    rw [decide_eq_true hx, decide_eq_true h1, h2]; simp
  · rw [decide_eq_false hx]
    by_cases h1 : x / 2 ^ (s + 1) = (p : Int)
    · have h2 : ¬ decide (x / 2 ^ s % 2 = 1) = b := fun h2 => hx (h.2 ⟨h1, h2⟩)
      have : (decide (x / 2 ^ s % 2 = 1) == b) = false := by rw [Bool.beq_eq_decide_eq]; exact decide_eq_false h2
      rw [this]; rfl
    · rw [decide_eq_false h1]; simp

theorem count_bits (l : List Int) (s : Nat) (b : Bool) : (bitsI l s).count b = (l.filter fun x => decide (x / 2 ^ s % 2 = 1) == b).length := by
  unfold bitsI
  induction l with
  | nil => simp
  | cons x r ih =>
    rw [List.map_cons, List.count_cons, ih, List.filter_cons]
    by_cases h : (decide (x / 2 ^ s % 2 = 1) == b) = true
    · rw [if_pos h, if_pos h]; simp
    · rw [if_neg h, if_neg h]; simp

theorem withI_take (l : List Int) (s p i : Nat) : ∃ r, withI l s p = withI (l.take i) s p ++ r := by
  refine ⟨withI (l.drop i) s p, ?_⟩
  unfold withI
  rw [← List.filter_append, List.take_append_drop]

theorem withI_all (l : List Int) (W : Nat) (h : ∀ x ∈ l, 0 ≤ x ∧ x < 2 ^ W) : withI l W 0 = l := by
  unfold withI
  rw [List.filter_eq_self]
  intro x hx
  obtain ⟨h1, h2⟩ := h x hx
  rw [decide_eq_true_eq]
  exact Int.ediv_eq_zero_of_lt h1 h2

theorem sortI_parts (l : List Int) (s p n : Nat) (h : p < n) : ∃ r, sortI l s n = sortI l s p ++ (withI l s p ++ r) := by
  induction n with
  | zero => omega
  | succ n ih =>
    by_cases hp : p < n
    · obtain ⟨r, e⟩ := ih hp
      exact ⟨r ++ withI l s n, by rw [sortI_succ, e]; simp⟩
    · obtain rfl : p = n := by omega
      exact ⟨[], by rw [sortI_succ]; simp⟩

/-- The row k, parted at those whose first bits are p. -/
theorem curI_parts (l : List Int) (W k p : Nat) (h : ∀ x ∈ l, 0 ≤ x ∧ x < 2 ^ W) (hp : p < 2 ^ k) : ∃ r, curI l W k = sortI l (W - k) p ++ (withI l (W - k) p ++ r) := by
  unfold curI
  by_cases hk : k = 0
  · subst hk
    obtain rfl : p = 0 := by simpa using hp
    rw [if_pos rfl]
    refine ⟨[], ?_⟩
    rw [Nat.sub_zero, withI_all l W h]
    simp [sortI]
  · rw [if_neg hk]; exact sortI_parts l (W - k) p (2 ^ k) hp

/-- How many b are in row k ahead of where those begin whose first bits are p; and ahead of those of them that stand from place i of the list on. -/
theorem rk_node (l : List Int) (W k p i : Nat) (h : ∀ x ∈ l, 0 ≤ x ∧ x < 2 ^ W) (hp : p < 2 ^ k) (hk : k < W) (b : Bool) :
    rkN b (bitsI (curI l W k) (W - 1 - k)) ((sortI l (W - k) p).length + (withI (l.take i) (W - k) p).length) =
      rkN b (bitsI (curI l W k) (W - 1 - k)) (sortI l (W - k) p).length + (withI (l.take i) (W - 1 - k) (2 * p + if b = true then 1 else 0)).length := by
  obtain ⟨r, e⟩ := curI_parts l W k p h hp
  obtain ⟨r2, e2⟩ := withI_take l (W - k) p i
  rw [e, e2]
  have e3 : W - k = (W - 1 - k) + 1 := by omega
  rw [withI_child, ← e3]
  unfold rkN
  rw [show bitsI (sortI l (W - k) p ++ (withI (l.take i) (W - k) p ++ r2 ++ r)) (W - 1 - k) = bitsI (sortI l (W - k) p) (W - 1 - k) ++ (bitsI (withI (l.take i) (W - k) p) (W - 1 - k) ++ bitsI (r2 ++ r) (W - 1 - k)) by
    unfold bitsI; simp]
  rw [← count_bits]
  generalize hA : bitsI (sortI l (W - k) p) (W - 1 - k) = A
  generalize hB : bitsI (withI (l.take i) (W - k) p) (W - 1 - k) = B
  have hAl : A.length = (sortI l (W - k) p).length := by rw [← hA, bitsI_len]
  have hBl : B.length = (withI (l.take i) (W - k) p).length := by rw [← hB, bitsI_len]
  rw [← hAl, ← hBl, List.take_left, ← List.append_assoc, ← List.length_append, List.take_left, List.count_append]

end Go.Proofs.YtpnjccomngdblaaGreat

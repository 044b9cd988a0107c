/- What WaveTells counts, in plain terms. -/
import Derived.Test.YtnedjbeemijmlaaTellsA
set_option maxRecDepth 100000
namespace Go.Proofs.Ytnedjbeemijmlaa
open Go.RowKit
open M

/-- How many of the first k places stand from f on, below t, and have c. -/
def cntTo (l : List Int) (f t c : Int) : Nat → Nat
  | 0 => 0
  | k + 1 => cntTo l f t c k + if f ≤ (k : Int) ∧ (k : Int) < t ∧ l.getD k 0 = c then 1 else 0

theorem cntTo_le (l : List Int) (f t c : Int) (k : Nat) : cntTo l f t c k ≤ k := by
  induction k with
  | zero => simp [cntTo]
  | succ k ih => rw [cntTo]; split <;> omega

theorem rng_snoc (l : List Int) (a k : Nat) (h : a ≤ k) (hk : k < l.length) : rng l a (k + 1) = rng l a k ++ [l.getD k 0] := by
  unfold rng
  rw [List.take_add_one, List.drop_append_of_le_length (by rw [List.length_take]; omega)]
  simp [List.getD_eq_getElem?_getD, hk]

theorem rng_nil (l : List Int) (a : Nat) : rng l a a = [] := by
  unfold rng
  rw [List.drop_eq_nil_iff, List.length_take]; omega

theorem cnt_to_k (l : List Int) (f t : Int) (y k : Nat) (hk : k ≤ l.length) : cntTo l f t (y : Int) k = eqN (rng l (min (lo l.length f) k) (min (hi l.length f t) k)) y := by
  induction k with
  | zero => simp [cntTo, rng, eqN]
  | succ k ih =>
    rw [cntTo, ih (by omega)]
    have h0 := lo_hi l.length f t
    by_cases h1 : k < lo l.length f
    · rw [if_neg (by unfold lo at h1; omega)]
      rw [Nat.min_eq_right (by omega), Nat.min_eq_right (by omega), Nat.min_eq_right (by omega), Nat.min_eq_right (by omega), rng_nil, rng_nil]
      rfl
    · by_cases h2 : k < hi l.length f t
      · rw [Nat.min_eq_left (by omega), Nat.min_eq_right (by omega), Nat.min_eq_left (by omega), Nat.min_eq_right (by omega), rng_snoc l _ k (by omega) (by omega)]
        unfold eqN
        rw [List.countP_append]
        have e1 : f ≤ (k : Int) := by unfold lo at h1; omega
        have e2 : (k : Int) < t := by unfold hi lo at h2; unfold lo at h1; omega
        by_cases h3 : l.getD k 0 = (y : Int)
        · rw [if_pos ⟨e1, e2, h3⟩]
          rw [List.countP_singleton, if_pos (decide_eq_true h3)]
        · rw [if_neg (fun h => h3 h.2.2)]
          rw [List.countP_singleton, if_neg (by rw [decide_eq_true_eq]; exact h3)]
      · rw [if_neg (by unfold hi lo at h2; omega)]
        rw [Nat.min_eq_left (by omega), Nat.min_eq_left (by omega), Nat.min_eq_left (by omega), Nat.min_eq_left (by omega)]
        rfl

theorem cnt_is (l : List Int) (size c f t : Int) (h0 : 0 ≤ c) (h1 : c < size) : cntN l size c f t = cntTo l f t c l.length := by
  obtain ⟨y, rfl⟩ : ∃ y : Nat, c = (y : Int) := ⟨c.toNat, by omega⟩
  rw [cnt_to_k l f t y l.length (Nat.le_refl _)]
  have h := lo_hi l.length f t
  unfold cntN
  rw [if_pos (by unfold hasB; exact decide_eq_true ⟨h0, h1⟩), Nat.min_eq_left (by omega), Nat.min_eq_left (by omega)]
  rfl

theorem cnt_not (l : List Int) (size c f t : Int) (h : ¬ (0 ≤ c ∧ c < size)) : cntN l size c f t = 0 := by
  unfold cntN
  rw [if_neg (by unfold hasB; rw [decide_eq_true_eq]; exact h)]

theorem cnt_rank (l : List Int) (size c i : Int) (h0 : 0 ≤ c) (h1 : c < size) : cntN l size c 0 i = rkN true (eqs l c) (lo l.length i) := by
  obtain ⟨y, rfl⟩ : ∃ y : Nat, c = (y : Int) := ⟨c.toNat, by omega⟩
  exact cnt_rk l size y i h1

theorem rk_countP (l : List Int) (c : Int) (k : Nat) : rkN true (lts l c) k = (l.take k).countP fun x => decide (x < c) := by
  unfold rkN lts
  rw [← List.map_take, List.count, List.countP_map]
  congr 1
  funext x
  simp

theorem bel_is (l : List Int) (size c i : Int) (hx : ∀ x ∈ l, 0 ≤ x ∧ x < size) : belN l size c i = rkN true (lts l c) (lo l.length i) := by
  rw [rk_countP]
  unfold belN
  by_cases h1 : c ≤ 0
  · rw [if_pos h1]
    symm
    rw [List.countP_eq_zero]
    intro x hm
    rw [decide_eq_true_eq]
    have := hx x (List.mem_of_mem_take hm)
    omega
  · rw [if_neg h1]
    by_cases h2 : size ≤ c
    · rw [if_pos h2]
      symm
      have e : ((l.take (lo l.length i)).countP fun x => decide (x < c)) = (l.take (lo l.length i)).length := by
        rw [List.countP_eq_length]
        intro x hm
        rw [decide_eq_true_eq]
        have := hx x (List.mem_of_mem_take hm)
        omega
      rw [e, List.length_take]
      have := lo_le l.length i
      omega
    · rw [if_neg h2, rng_zero]
      unfold ltN
      rw [show ((c.toNat : Nat) : Int) = c by omega]

/-- The greatest of them, and which of them stand in a range. -/
theorem dis_most (l : List Int) (s : Nat) (f t : Int) (W : Nat) (hW : (s : Int) ≤ 2 ^ W) (h : ∀ x ∈ l, 0 ≤ x ∧ x < (s : Int)) (hs : s ≤ 32) :
    ∃ M : Nat, mostI l = (M : Int) ∧ M ≤ 1000000 ∧ disTo l f t (M + 1) = disL (rng l (lo l.length f) (hi l.length f t)) W 0 := by
  have g := mostI_ge l
  refine ⟨(mostI l).toNat, by omega, ?_, ?_⟩
  · rcases mostI_mem l with e | e
    · omega
    · have := (h _ e).2; omega
  · rw [dis_to l f t W ((mostI l).toNat + 1) (fun x hx => by have := (h x hx).2; omega) (fun x hx => by have := g.2 x hx; omega)]

end Go.Proofs.Ytnedjbeemijmlaa

/- Plain facts on counting bits ahead of a place, and on finding one. -/
import Derived.Test.YtfhlcclbjagdmaaTightA
namespace Go.Proofs.Ytfhlcclbjagdmaa
open Go.RowKit
open M

/-- How many of the first i bits are b. -/
def rkN (b : Bool) (l : List Bool) (i : Nat) : Nat := (l.take i).count b

theorem cnt_count (l : List Bool) : cnt l = l.count true := by
  induction l with
  | nil => simp [cnt]
  | cons x r ih => cases x <;> simp [cnt, ih]; omega

theorem rkN_mono (b : Bool) (l : List Bool) (i j : Nat) (h : i ≤ j) : rkN b l i ≤ rkN b l j := by
  unfold rkN
  have e : l.take j = l.take i ++ (l.drop i).take (j - i) := by
    rw [show j = i + (j - i) by omega, List.take_add]; simp
  rw [e, List.count_append]; omega

theorem rkN_le (b : Bool) (l : List Bool) (i : Nat) : rkN b l i ≤ l.length := by
  unfold rkN
  exact Nat.le_trans List.count_le_length (by simp; omega)

theorem rkN_le' (b : Bool) (l : List Bool) (i : Nat) : rkN b l i ≤ i := by
  unfold rkN
  exact Nat.le_trans List.count_le_length (by simp; omega)

theorem count_both (l : List Bool) : l.count true + l.count false = l.length := by
  induction l with
  | nil => simp
  | cons x r ih => cases x <;> simp <;> omega

theorem rkN_both (l : List Bool) (i : Nat) (h : i ≤ l.length) : rkN true l i + rkN false l i = i := by
  unfold rkN; rw [count_both]; simp; omega

theorem rkN_succ (b : Bool) (l : List Bool) (i : Nat) (h : i < l.length) : rkN b l (i + 1) = rkN b l i + if l.getD i false = b then 1 else 0 := by
  unfold rkN
  rw [take_snoc l i (l.getD i false) h rfl, List.count_append]
  generalize l.getD i false = x
  cases x <;> cases b <;> simp

theorem rkN_zero (b : Bool) (l : List Bool) : rkN b l 0 = 0 := by simp [rkN]

theorem lo_le (n : Nat) (i : Int) : lo n i ≤ n := by unfold lo; omega

/-- How many of the first i bits are 1, and how many are 0, for any i. -/
def rk1 (l : List Bool) (i : Int) : Nat := rkN true l (lo l.length i)
def rk0 (l : List Bool) (i : Int) : Nat := rkN false l (lo l.length i)

theorem rk1_le (l : List Bool) (i : Int) : rk1 l i ≤ l.length := rkN_le _ _ _
theorem rk0_le (l : List Bool) (i : Int) : rk0 l i ≤ l.length := rkN_le _ _ _
theorem rk1_all (l : List Bool) (n : Nat) (h : l.length = n) : rk1 l (n : Int) = rkN true l n := by
  unfold rk1; rw [h, show lo n (n : Int) = n by unfold lo; omega]
theorem rk0_all (l : List Bool) (n : Nat) (h : l.length = n) : rk0 l (n : Int) = rkN false l n := by
  unfold rk0; rw [h, show lo n (n : Int) = n by unfold lo; omega]
theorem rk1_at (l : List Bool) (i : Nat) (h : i ≤ l.length) : rk1 l (i : Int) = rkN true l i := by
  unfold rk1; rw [show lo l.length (i : Int) = i by unfold lo; omega]
theorem rk0_at (l : List Bool) (i : Nat) (h : i ≤ l.length) : rk0 l (i : Int) = rkN false l i := by
  unfold rk0; rw [show lo l.length (i : Int) = i by unfold lo; omega]
theorem rk_both (l : List Bool) (i : Int) : rk1 l i + rk0 l i = lo l.length i := rkN_both l _ (lo_le _ _)

/-- Counts of blocks and the rest. -/
theorem rk_block (l : List Bool) (a t : Nat) (h : a ≤ t) (ht : t ≤ l.length) : rkN true l a + onesN l (a : Int) (t : Int) = rkN true l t := by
  unfold rkN onesN
  rw [show lo l.length (a : Int) = a by unfold lo; omega, show hi l.length (a : Int) (t : Int) = t by unfold hi lo; omega, cnt_count, ← List.count_append]
  congr 1
  have : l.take t = l.take a ++ (l.drop a).take (t - a) := by
    rw [show t = a + (t - a) by omega, List.take_add]; simp
  exact this.symm

/-- The first place from 0 up to n of which p holds; n, if there is none. -/
def firstN (n : Nat) (p : Nat → Bool) : Nat := (List.range n).findIdx p

theorem firstN_eq (n : Nat) (p : Nat → Bool) (k : Nat) (hk : k ≤ n) (h1 : ∀ j, j < k → p j = false) (h2 : k < n → p k = true) : firstN n p = k := by
  unfold firstN
  rcases Nat.lt_or_ge k n with h | h
  · rw [List.findIdx_eq (by simpa using h)]
    refine ⟨by simpa using h2 h, ?_⟩
    intro j hj
    simpa using h1 j hj
  · have e : k = n := by omega
    subst e
    have := List.findIdx_eq_length (xs := List.range k) (p := p)
    rw [List.length_range] at this
    rw [this]
    intro y hy
    exact h1 y (by simpa using hy)

theorem firstN_le (n : Nat) (p : Nat → Bool) : firstN n p ≤ n := by
  have := List.findIdx_le_length (xs := List.range n) (p := p)
  simpa [firstN] using this

/-- The place of the bit b ahead of which just k are; -1, if there is none. -/
def selN (b : Bool) (l : List Bool) (k : Int) : Int :=
  if 0 ≤ k ∧ k < (rkN b l l.length : Int) then ((firstN l.length fun i => decide (k < (rkN b l (i + 1) : Int)) : Nat) : Int) else -1

theorem selN_none (b : Bool) (l : List Bool) (k : Int) (h : k < 0 ∨ (rkN b l l.length : Int) ≤ k) : selN b l k = -1 := by
  unfold selN; rw [if_neg (by omega)]

end Go.Proofs.Ytfhlcclbjagdmaa

/- Plain facts on lists of bits and the numbers that they are: no program is named here. -/
namespace Go.Proofs.Ytfhlcclbjagdmaa.M

/-- The number whose bits these are, the first one the least. -/
def num : List Bool → Nat
  | [] => 0
  | b :: r => (if b then 1 else 0) + 2 * num r

/-- How many are true. -/
def cnt : List Bool → Nat
  | [] => 0
  | b :: r => (if b then 1 else 0) + cnt r

theorem cnt_append (a b : List Bool) : cnt (a ++ b) = cnt a + cnt b := by
  induction a with
  | nil => simp [cnt]
  | cons x r ih => simp [cnt, ih]; omega

theorem cnt_le (a : List Bool) : cnt a ≤ a.length := by
  induction a with
  | nil => simp [cnt]
  | cons x r ih => simp [cnt]; split <;> omega

theorem num_lt (l : List Bool) : num l < 2 ^ l.length := by
  induction l with
  | nil => simp [num]
  | cons b r ih => simp only [num, List.length_cons, Nat.pow_succ]; split <;> omega

theorem num_testBit (l : List Bool) (i : Nat) : (num l).testBit i = l.getD i false := by
  induction l generalizing i with
  | nil => simp [num]
  | cons b r ih =>
    cases i with
    | zero => cases b <;> simp [num, Nat.testBit_zero]
    | succ i =>
      rw [Nat.testBit_succ]
      have : num (b :: r) / 2 = num r := by simp only [num]; split <;> omega
      rw [this, ih]
      simp

theorem num_append (a b : List Bool) : num (a ++ b) = num a + 2 ^ a.length * num b := by
  induction a with
  | nil => simp [num]
  | cons x r ih => simp only [num, List.cons_append, ih, List.length_cons, Nat.pow_succ]; rw [Nat.mul_add, Nat.add_assoc]; congr 2; rw [Nat.mul_comm (2 ^ r.length) 2, Nat.mul_assoc]

theorem num_inj : ∀ (a b : List Bool), a.length = b.length → num a = num b → a = b
  | [], [], _, _ => rfl
  | x :: a, y :: b, h, e => by
    simp only [num] at e
    have hx : x = y := by
      cases x <;> cases y <;> simp at e ⊢ <;> omega
    subst hx
    have e' : num a = num b := by omega
    rw [num_inj a b (by simpa using h) e']

/-- Any number below 2^n is that of n bits. -/
def bitsOf (x : Nat) : Nat → List Bool
  | 0 => []
  | n + 1 => (x % 2 == 1) :: bitsOf (x / 2) n

theorem bitsOf_length (x n : Nat) : (bitsOf x n).length = n := by
  induction n generalizing x with
  | zero => rfl
  | succ n ih => simp [bitsOf, ih]

theorem num_bitsOf (x n : Nat) (h : x < 2 ^ n) : num (bitsOf x n) = x := by
  induction n generalizing x with
  | zero => simp at h; simp [bitsOf, num, h]
  | succ n ih =>
    simp only [bitsOf, num]
    rw [ih (x / 2) (by rw [Nat.pow_succ] at h; omega)]
    rcases Nat.mod_two_eq_zero_or_one x with e | e <;> simp [e] <;> omega

theorem bitsOf_getD (x n i : Nat) (h : i < n) : (bitsOf x n).getD i false = x.testBit i := by
  induction n generalizing x i with
  | zero => omega
  | succ n ih =>
    cases i with
    | zero => simp [bitsOf, Nat.testBit_zero]; rw [Bool.eq_iff_iff]; simp
    | succ i => simp only [bitsOf, List.getD_cons_succ]; rw [ih (x / 2) i (by omega), Nat.testBit_succ]

/-- How many words n bits fill or begin. -/
def nw (n : Nat) : Nat := (n + 63) / 64

/-- Word k of a row. -/
def wd (l : List Bool) (k : Nat) : Nat := num ((l.drop (64 * k)).take 64)

theorem wd_lt (l : List Bool) (k : Nat) : wd l k < 2 ^ 64 :=
  Nat.lt_of_lt_of_le (num_lt _) (Nat.pow_le_pow_right (by decide) (by simp; omega))

theorem wd_bit (l : List Bool) (k j : Nat) (h : j < 64) : (wd l k).testBit j = l.getD (64 * k + j) false := by
  rw [wd, num_testBit]
  simp [List.getD_eq_getElem?_getD, List.getElem?_drop, h]

theorem wd_bit_ge (l : List Bool) (k j : Nat) (h : 64 ≤ j) : (wd l k).testBit j = false := by
  apply Nat.testBit_lt_two_pow
  exact Nat.lt_of_lt_of_le (wd_lt l k) (Nat.pow_le_pow_right (by decide) h)

theorem wd_out (l : List Bool) (k : Nat) (h : nw l.length ≤ k) : wd l k = 0 := by
  unfold nw at h
  have : l.drop (64 * k) = [] := List.drop_eq_nil_of_le (by omega)
  simp [wd, this, num]

/-- A piece of one word: the bits from p on, q - p of them. -/
theorem wd_piece (l : List Bool) (p n : Nat) (h : p % 64 + n ≤ 64) :
    (wd l (p / 64) / 2 ^ (p % 64)) &&& (2 ^ n - 1) = num ((l.drop p).take n) := by
  apply Nat.eq_of_testBit_eq
  intro i
  rw [Nat.and_two_pow_sub_one_eq_mod, Nat.testBit_mod_two_pow, Nat.testBit_div_two_pow, num_testBit]
  simp only [List.getD_eq_getElem?_getD, List.getElem?_take, List.getElem?_drop]
  by_cases hi : i < n
  · rw [wd_bit _ _ _ (by omega)]
    have e : 64 * (p / 64) + (i + p % 64) = p + i := by omega
    simp [hi, e]
  · simp [hi]

/-- Bits behind bits: by 'or'. -/
theorem num_or (a b : List Bool) : num a ||| (num b * 2 ^ a.length) = num (a ++ b) := by
  apply Nat.eq_of_testBit_eq
  intro i
  rw [Nat.testBit_or, Nat.mul_comm, Nat.testBit_two_pow_mul, num_testBit, num_testBit, num_testBit]
  simp only [List.getD_eq_getElem?_getD, List.getElem?_append]
  by_cases hi : i < a.length
  · simp [hi, Nat.not_le.2 hi]
  · simp [hi, Nat.le_of_not_lt hi]

/-- Bits put behind a row: what becomes of its words (the piece lies within one word). -/
theorem wd_append (l b : List Bool) (k : Nat) (h : l.length % 64 + b.length ≤ 64) :
    wd (l ++ b) k = if k = l.length / 64 then wd l k ||| (num b * 2 ^ (l.length % 64)) else wd l k := by
  apply Nat.eq_of_testBit_eq
  intro i
  by_cases hi : i < 64
  · rw [wd_bit _ _ _ hi]
    split
    · rename_i hk
      subst hk
      rw [Nat.testBit_or, wd_bit _ _ _ hi, Nat.mul_comm (num b), Nat.testBit_two_pow_mul, num_testBit]
      simp only [List.getD_eq_getElem?_getD, List.getElem?_append]
      by_cases hj : i < l.length % 64
      · have e : 64 * (l.length / 64) + i < l.length := by omega
        simp [e, Nat.not_le.2 hj]
      · have e : ¬ 64 * (l.length / 64) + i < l.length := by omega
        have e2 : 64 * (l.length / 64) + i - l.length = i - l.length % 64 := by omega
        simp [e, e2, Nat.le_of_not_lt hj]
    · rename_i hk
      rw [wd_bit _ _ _ hi]
      simp only [List.getD_eq_getElem?_getD, List.getElem?_append]
      by_cases hj : 64 * k + i < l.length
      · simp [hj]
      · have e : b.length ≤ 64 * k + i - l.length := by omega
        simp [hj, List.getElem?_eq_none e]
  · rw [wd_bit_ge _ _ _ (by omega)]
    split
    · rw [Nat.testBit_or, wd_bit_ge _ _ _ (by omega), Nat.mul_comm, Nat.testBit_two_pow_mul, num_testBit]
      have e : b.length ≤ i - l.length % 64 := by omega
      simp [List.getElem?_eq_none e]
    · rw [wd_bit_ge _ _ _ (by omega)]

theorem wd_snoc_false (l : List Bool) (k : Nat) : wd (l ++ [false]) k = wd l k := by
  rw [wd_append _ _ _ (by simp; omega)]
  simp [num]

theorem wd_snoc_true (l : List Bool) (k : Nat) : wd (l ++ [true]) k = if k = l.length / 64 then wd l k ||| 2 ^ (l.length % 64) else wd l k := by
  rw [wd_append _ _ _ (by simp; omega)]
  simp [num]

end Go.Proofs.Ytfhlcclbjagdmaa.M

/- Plain facts on codes that are counted up: none begins another one. -/
import Derived.Test.YtdidoecigkbffaaGreatSI
namespace Go.Proofs.YtdidoecigkbffaaGreat
open S J

/-- The number of digits, the greatest first. -/
def nb : List Bool → Nat
  | [] => 0
  | b :: l => (if b then 2 ^ l.length else 0) + nb l

theorem nb_append (a b : List Bool) : nb (a ++ b) = nb a * 2 ^ b.length + nb b := by
  induction a with
  | nil => simp [nb]
  | cons x a ih =>
    simp only [List.cons_append, nb, ih, List.length_append]
    cases x
    · simp
    · simp only [if_true]; rw [Nat.pow_add, Nat.add_mul]; omega
theorem nb_lt (l : List Bool) : nb l < 2 ^ l.length := by
  induction l with
  | nil => simp [nb]
  | cons x l ih =>
    simp only [nb, List.length_cons, Nat.pow_succ]
    cases x <;> simp <;> omega
theorem nb_zeros (n : Nat) : nb (List.replicate n false) = 0 := by
  induction n with
  | zero => rfl
  | succ n ih => rw [List.replicate_succ, nb, ih]; rfl
theorem nb_ones (n : Nat) : nb (List.replicate n true) + 1 = 2 ^ n := by
  induction n with
  | zero => rfl
  | succ n ih => rw [List.replicate_succ, nb, List.length_replicate, Nat.pow_succ]; simp; omega
theorem nb_inj : ∀ {a b : List Bool}, a.length = b.length → nb a = nb b → a = b := by
  intro a
  induction a with
  | nil => intro b h _; simp at h; exact (List.eq_nil_of_length_eq_zero h.symm).symm
  | cons x a ih =>
    intro b h1 h2
    cases b with
    | nil => simp at h1
    | cons y b =>
      simp only [List.length_cons, Nat.add_right_cancel_iff] at h1
      simp only [nb, h1] at h2
      have l1 := nb_lt a
      have l2 := nb_lt b
      rw [h1] at l1
      cases x <;> cases y <;> simp at h2
      · rw [ih h1 h2]
      · omega
      · omega
      · rw [ih h1 h2]

/-- What stands ahead of the last 0. -/
def bump : List Bool → Option (List Bool)
  | [] => none
  | x :: t => match bump t with
    | some a => some (x :: a)
    | none => if x then none else some []

theorem bump_none {l : List Bool} (h : bump l = none) : l = List.replicate l.length true := by
  induction l with
  | nil => rfl
  | cons x t ih =>
    unfold bump at h
    cases hb : bump t with
    | some a => rw [hb] at h; simp at h
    | none =>
      rw [hb] at h
      cases x
      · simp at h
      · rw [List.length_cons, List.replicate_succ, ← ih hb]

theorem bump_some : ∀ {l a : List Bool}, bump l = some a → a.length + 1 ≤ l.length ∧ l = a ++ false :: List.replicate (l.length - a.length - 1) true := by
  intro l
  induction l with
  | nil => intro a h; simp [bump] at h
  | cons x t ih =>
    intro a h
    unfold bump at h
    cases hb : bump t with
    | some a' =>
      rw [hb] at h
      simp only [Option.some.injEq] at h
      subst h
      obtain ⟨h1, h2⟩ := ih hb
      refine ⟨by simp; omega, ?_⟩
      simp only [List.length_cons, List.cons_append, List.cons.injEq, true_and]
      rw [show t.length + 1 - (a'.length + 1) - 1 = t.length - a'.length - 1 by omega]
      exact h2
    | none =>
      rw [hb] at h
      cases x
      · simp at h
        subst h
        refine ⟨by simp, ?_⟩
        simp
        exact bump_none hb
      · simp at h

def codeSeq (d : Nat → Nat) : Nat → List Bool
  | 0 => List.replicate (d 0) false
  | k + 1 => match bump (codeSeq d k) with
    | some a => nextC a (d (k + 1))
    | none => []

def ahead (d : Nat → Nat) (M k : Nat) : Nat := ((List.range k).map fun j => 2 ^ (M - d j)).sum
theorem ahead_succ (d : Nat → Nat) (M k : Nat) : ahead d M (k + 1) = ahead d M k + 2 ^ (M - d k) := by
  unfold ahead
  rw [List.range_succ, List.map_append, List.sum_append]; simp
theorem ahead_mono (d : Nat → Nat) (M : Nat) {i k : Nat} (h : i ≤ k) : ahead d M i ≤ ahead d M k := by
  induction k with
  | zero => rw [show i = 0 by omega]; exact Nat.le_refl _
  | succ k ih =>
    by_cases e : i = k + 1
    · rw [e]; exact Nat.le_refl _
    · rw [ahead_succ]; exact Nat.le_trans (ih (by omega)) (Nat.le_add_right _ _)

/-- Depths that leave no code over. -/
structure Full (d : Nat → Nat) (M n : Nat) : Prop where
  le : ∀ k, k < n → d k ≤ M
  mono : ∀ i k, i ≤ k → k < n → d i ≤ d k
  sum : ahead d M n = 2 ^ M

theorem Full.codes {d : Nat → Nat} {M n : Nat} (h : Full d M n) : ∀ k, k < n → (codeSeq d k).length = d k ∧ nb (codeSeq d k) * 2 ^ (M - d k) = ahead d M k := by
  intro k
  induction k with
  | zero => intro _; exact ⟨by simp [codeSeq], by simp [codeSeq, nb_zeros, ahead]⟩
  | succ k ih =>
    intro hk
    obtain ⟨i1, i2⟩ := ih (by omega)
    have hlk := h.le k (by omega)
    have hlk1 := h.le (k + 1) hk
    have hm := h.mono k (k + 1) (by omega) hk
    have hs1 := ahead_succ d M k
    have hs2 := ahead_succ d M (k + 1)
    have hs3 := ahead_mono d M (show k + 1 + 1 ≤ n by omega)
    rw [h.sum] at hs3
    have hp : 0 < 2 ^ (M - d (k + 1)) := Nat.pow_pos (by decide)
    have hlt : (nb (codeSeq d k) + 1) * 2 ^ (M - d k) < 2 ^ d k * 2 ^ (M - d k) := by
      rw [← Nat.pow_add, show d k + (M - d k) = M by omega, Nat.add_mul, i2, Nat.one_mul]; omega
    have hlt2 := Nat.lt_of_mul_lt_mul_right hlt
    cases hb : bump (codeSeq d k) with
    | none =>
      exfalso
      have := bump_none hb
      have h2 := nb_ones (d k)
      rw [i1] at this
      rw [this] at hlt2
      omega
    | some a =>
      obtain ⟨b1, b2⟩ := bump_some hb
      rw [i1] at b1 b2
      have e : codeSeq d (k + 1) = nextC a (d (k + 1)) := by simp only [codeSeq, hb]
      rw [e]
      have hv : nb (nextC a (d (k + 1))) = (nb (codeSeq d k) + 1) * 2 ^ (d (k + 1) - d k) := by
        have n1 : nb (codeSeq d k) + 1 = nb a * 2 ^ (d k - a.length) + 2 ^ (d k - a.length - 1) := by
          conv => lhs; rw [b2]
          rw [nb_append, nb]
          have := nb_ones (d k - a.length - 1)
          simp only [List.length_cons, List.length_replicate, Bool.false_eq_true, if_false, Nat.zero_add]
          rw [show d k - a.length - 1 + 1 = d k - a.length by omega]
          omega
        unfold nextC
        rw [nb_append, nb, nb_zeros, n1]
        simp only [List.length_cons, List.length_replicate, if_true, Nat.add_zero]
        rw [Nat.add_mul, Nat.mul_assoc, ← Nat.pow_add, ← Nat.pow_add]
        rw [show d (k + 1) - a.length - 1 + 1 = d k - a.length + (d (k + 1) - d k) by omega, show d (k + 1) - a.length - 1 = d k - a.length - 1 + (d (k + 1) - d k) by omega]
      refine ⟨by unfold nextC; simp; omega, ?_⟩
      rw [hv, Nat.mul_assoc, ← Nat.pow_add, show d (k + 1) - d k + (M - d (k + 1)) = M - d k by omega, Nat.add_mul, i2, hs1, Nat.one_mul]

/-- Each code but the last has a 0; the next one stands behind it. -/
theorem Full.next {d : Nat → Nat} {M n : Nat} (h : Full d M n) (k : Nat) (hk : k + 1 < n) : ∃ a, codeSeq d k = a ++ false :: List.replicate (d k - a.length - 1) true ∧ a.length + 1 ≤ d k ∧ codeSeq d (k + 1) = nextC a (d (k + 1)) := by
  obtain ⟨i1, i2⟩ := h.codes k (by omega)
  have hlk := h.le k (by omega)
  have hlk1 := h.le (k + 1) hk
  have hs1 := ahead_succ d M k
  have hs2 := ahead_succ d M (k + 1)
  have hs3 := ahead_mono d M (show k + 1 + 1 ≤ n by omega)
  rw [h.sum] at hs3
  have hp : 0 < 2 ^ (M - d (k + 1)) := Nat.pow_pos (by decide)
  have hlt : (nb (codeSeq d k) + 1) * 2 ^ (M - d k) < 2 ^ d k * 2 ^ (M - d k) := by
    rw [← Nat.pow_add, show d k + (M - d k) = M by omega, Nat.add_mul, i2, Nat.one_mul]; omega
  have hlt2 := Nat.lt_of_mul_lt_mul_right hlt
  cases hb : bump (codeSeq d k) with
  | none =>
    exfalso
    have := bump_none hb
    have h2 := nb_ones (d k)
    rw [i1] at this
    rw [this] at hlt2
    omega
  | some a =>
    obtain ⟨b1, b2⟩ := bump_some hb
    rw [i1] at b1 b2
    exact ⟨a, b2, b1, by simp only [codeSeq, hb]⟩

/-- No code begins another one. -/
theorem Full.free {d : Nat → Nat} {M n : Nat} (h : Full d M n) {i k : Nat} (hi : i < n) (hk : k < n) (hik : i ≠ k) (s : List Bool) : codeSeq d k ≠ codeSeq d i ++ s := by
  intro e
  obtain ⟨i1, i2⟩ := h.codes i hi
  obtain ⟨k1, k2⟩ := h.codes k hk
  have hl : d k = d i + s.length := by rw [← k1, e, List.length_append, i1]
  have hv : nb (codeSeq d k) = nb (codeSeq d i) * 2 ^ s.length + nb s := by rw [e, nb_append]
  have hs := nb_lt s
  have hlk := h.le k hk
  have e2 : 2 ^ (M - d i) = 2 ^ s.length * 2 ^ (M - d k) := by rw [← Nat.pow_add]; congr 1; omega
  rw [e2, ← Nat.mul_assoc] at i2
  rw [hv, Nat.add_mul, i2] at k2
  have hb : nb s * 2 ^ (M - d k) < 2 ^ s.length * 2 ^ (M - d k) := Nat.mul_lt_mul_of_pos_right hs (Nat.pow_pos (by decide))
  rw [← e2] at hb
  rcases Nat.lt_or_gt_of_ne hik with hlt | hlt
  · have := ahead_mono d M (show i + 1 ≤ k by omega)
    rw [ahead_succ] at this
    omega
  · have hm := h.mono k i (by omega) hi
    have := ahead_mono d M (show k + 1 ≤ i by omega)
    rw [ahead_succ] at this
    have hp : 0 < 2 ^ (M - d k) := Nat.pow_pos (by decide)
    omega

end Go.Proofs.YtdidoecigkbffaaGreat

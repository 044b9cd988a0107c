/- Plain facts on where the symbols stand, row by row. -/
import Derived.Test.YtpnjccomngdblaaGreatWH
set_option maxRecDepth 100000
namespace Go.Proofs.YtpnjccomngdblaaGreat
open Go.RowKit
open M

/-- How many of the first i have these first bits; where those begin that have them; where they stand. -/
def preN (l : List Int) (s p i : Nat) : Nat := (withI (l.take i) s p).length
def begN (l : List Int) (s p : Nat) : Nat := (sortI l s p).length
def posN (l : List Int) (s p i : Nat) : Nat := begN l s p + preN l s p i
def bN (t : Bool) : Nat := if t = true then 1 else 0
def rowK (l : List Int) (W k : Nat) : List Bool := bitsI (curI l W k) (W - 1 - k)
def Sy (l : List Int) (W : Nat) : Prop := ∀ x ∈ l, 0 ≤ x ∧ x < 2 ^ W

theorem bN_b2i (t : Bool) : b2i t = (bN t : Nat) := by cases t <;> rfl

theorem with_split (l : List Int) (s p : Nat) : (withI l (s + 1) p).length = (withI l s (2 * p)).length + (withI l s (2 * p + 1)).length := by
  have h0 := withI_child l s p false
  have h1 := withI_child l s p true
  simp only [Bool.false_eq_true, if_false, Nat.add_zero, if_true] at h0 h1
  rw [h0, h1]
  generalize withI l (s + 1) p = m
  induction m with
  | nil => rfl
  | cons x r ih =>
    simp only [List.filter_cons, List.length_cons, ih]
    by_cases hx : x / 2 ^ s % 2 = 1
    · simp [hx]; omega
    · simp [hx]; omega
theorem pre_split (l : List Int) (s p i : Nat) : preN l (s + 1) p i = preN l s (2 * p) i + preN l s (2 * p + 1) i := with_split _ s p
theorem beg_step (l : List Int) (s p : Nat) (t : Bool) : begN l s (2 * p + bN t) = begN l (s + 1) p + if t = true then preN l s (2 * p) l.length else 0 := by
  unfold begN preN bN
  rw [List.take_length]
  cases t
  · simp [sortI_half]
  · simp only [if_true]; exact sortI_half1 l s p
theorem pre_mono (l : List Int) (s p i j : Nat) (h : i ≤ j) : preN l s p i ≤ preN l s p j := by
  unfold preN withI
  have e : (l.take j).take i = l.take i := by rw [List.take_take, Nat.min_eq_left h]
  rw [← e]
  generalize l.take j = m
  exact (List.Sublist.filter _ (List.take_sublist i m)).length_le
theorem pre_ge (l : List Int) (s p i : Nat) (h : l.length ≤ i) : preN l s p i = preN l s p l.length := by
  unfold preN; rw [List.take_of_length_le h, List.take_length]
theorem pre_zero (l : List Int) (s p : Nat) : preN l s p 0 = 0 := by simp [preN, withI]

theorem rowK_len (l : List Int) (W k : Nat) (hk : k ≤ W) (h : Sy l W) : (rowK l W k).length = l.length := by
  unfold rowK; rw [bitsI_len]; exact curI_len l W k hk h
theorem rowsI_at (l : List Int) (W k : Nat) (hk : k < W) : (rowsI l W W).getD k [] = rowK l W k := by
  unfold rowsI rowK
  simp [List.getD_eq_getElem?_getD, hk]

theorem pos_all (l : List Int) (W k p : Nat) (hk : k ≤ W) (h : Sy l W) (hp : p < 2 ^ k) : posN l (W - k) p l.length ≤ l.length := by
  obtain ⟨r, e⟩ := curI_parts l W k p h hp
  have h1 := curI_len l W k hk h
  rw [e] at h1
  simp only [List.length_append] at h1
  unfold posN begN preN
  rw [List.take_length]
  omega
theorem pos_le (l : List Int) (s p i : Nat) : posN l s p i ≤ posN l s p l.length := by
  unfold posN
  by_cases hi : i ≤ l.length
  · have := pre_mono l s p i l.length hi; omega
  · rw [pre_ge l _ _ i (by omega)]; exact Nat.le_refl _
theorem pos_mono (l : List Int) (s p i j : Nat) (h : i ≤ j) : posN l s p i ≤ posN l s p j := by
  unfold posN; have := pre_mono l s p i j h; omega
theorem beg_le (l : List Int) (s p i : Nat) : begN l s p ≤ posN l s p i := by unfold posN; omega

theorem node_rk (l : List Int) (W k p i : Nat) (hk : k < W) (h : Sy l W) (hp : p < 2 ^ k) (t : Bool) :
    rkN t (rowK l W k) (posN l (W - k) p i) = rkN t (rowK l W k) (begN l (W - k) p) + preN l (W - 1 - k) (2 * p + bN t) i := by
  have := rk_node l W k p i h hp hk t
  exact this

/-- How the part of those whose first bits are p goes on. -/
theorem node_fork {w : World} {F : FP} (l : List Int) (W k p : Nat) (hk : k < W) (h : Sy l W) (hp : p < 2 ^ k) (hF : FK w F (rowK l W k)) (hb : F.b = begN l (W - k) p) (he : F.e = posN l (W - k) p l.length) (t : Bool) :
    nb F t = begN l (W - 1 - k) (2 * p + bN t) ∧ ne F t = posN l (W - 1 - k) (2 * p + bN t) l.length ∧ (if t = true then F.o else F.z) = rkN t (rowK l W k) F.b ∧
    ∀ i r, r + (if t = true then F.o else F.z) = nb F t + rkN t (rowK l W k) (posN l (W - k) p i) → r = posN l (W - 1 - k) (2 * p + bN t) i := by
  have e3 : W - k = (W - 1 - k) + 1 := by omega
  have hm := hF.m
  rw [he, node_rk l W k p l.length hk h hp false, ← hb, ← hF.z] at hm
  have b0 := beg_step l (W - 1 - k) p false
  have b1 := beg_step l (W - 1 - k) p true
  rw [← e3, ← hb] at b0 b1
  have hs := pre_split l (W - 1 - k) p l.length
  rw [← e3] at hs
  have hz := hF.z
  have ho := hF.o
  have hoz : (if t = true then F.o else F.z) = rkN t (rowK l W k) F.b := by cases t <;> simp [hz, ho]
  have hnb : nb F t = begN l (W - 1 - k) (2 * p + bN t) := by
    unfold nb
    cases t
    · simp only [Bool.false_eq_true, if_false, Nat.add_zero] at b0 ⊢; omega
    · simp only [if_true] at b1 ⊢
      simp only [bN, Bool.false_eq_true, if_false, Nat.add_zero] at hm
      omega
  refine ⟨hnb, ?_, hoz, ?_⟩
  · unfold ne posN
    rw [← hnb]
    unfold nb
    cases t
    · simp only [bN, Bool.false_eq_true, if_false, Nat.add_zero] at hm ⊢; omega
    · simp only [bN, Bool.false_eq_true, if_false, Nat.add_zero, if_true] at hm ⊢
      unfold posN at he
      rw [hs] at he
      omega
  · intro i r hr
    rw [node_rk l W k p i hk h hp t, ← hb, ← hoz] at hr
    unfold posN
    rw [← hnb]
    omega

/-- What stands at a place of row k. -/
theorem node_at (l : List Int) (W k p j : Nat) (h : Sy l W) (hp : p < 2 ^ k) (hj : j < l.length) (hx : l.getD j 0 / 2 ^ (W - k) = (p : Int)) :
    (rowK l W k).getD (posN l (W - k) p j) false = decide (l.getD j 0 / 2 ^ (W - 1 - k) % 2 = 1) ∧ posN l (W - k) p j < posN l (W - k) p l.length := by
  obtain ⟨r, e⟩ := curI_parts l W k p h hp
  have hs : l = l.take j ++ (l.getD j 0 :: l.drop (j + 1)) := by
    have e1 : l.getD j 0 = l[j] := by simp [List.getD_eq_getElem?_getD, hj]
    rw [e1, List.getElem_cons_drop, List.take_append_drop]
  have hw : withI l (W - k) p = withI (l.take j) (W - k) p ++ (l.getD j 0 :: withI (l.drop (j + 1)) (W - k) p) := by
    conv => lhs; rw [hs]
    unfold withI
    rw [List.filter_append, List.filter_cons, if_pos (decide_eq_true hx)]
  constructor
  · unfold rowK
    rw [e, hw]
    unfold posN begN preN bitsI
    simp only [List.map_append, List.map_cons, List.getD_eq_getElem?_getD]
    rw [List.getElem?_append_right (by simp), List.length_map, Nat.add_sub_cancel_left, List.append_assoc, List.getElem?_append_right (by simp), List.length_map, Nat.sub_self]
    simp
  · unfold posN preN
    rw [List.take_length, hw]
    simp

/-- A range of the list; how many there are less than c, and are c. -/
def rng (l : List Int) (f t : Nat) : List Int := (l.take t).drop f
def ltN (m : List Int) (c : Nat) : Nat := m.countP fun x => decide (x < (c : Int))
def eqN (m : List Int) (c : Nat) : Nat := m.countP fun x => decide (x = (c : Int))

theorem rng_pre (l : List Int) (s p f t : Nat) (h : f ≤ t) : preN l s p t = preN l s p f + (withI (rng l f t) s p).length := by
  unfold preN rng
  have e : l.take t = l.take f ++ (l.take t).drop f := by
    conv => lhs; rw [← List.take_append_drop f (l.take t)]
    rw [List.take_take, Nat.min_eq_left h]
  conv => lhs; rw [e]
  unfold withI
  rw [List.filter_append, List.length_append]
theorem rng_pos (l : List Int) (s p f t : Nat) (h : f ≤ t) : posN l s p t = posN l s p f + (withI (rng l f t) s p).length := by
  unfold posN; rw [rng_pre l s p f t h]; omega
theorem rng_mem (l : List Int) (f t : Nat) {x : Int} (h : x ∈ rng l f t) : x ∈ l := List.mem_of_mem_take (List.mem_of_mem_drop h)

theorem with_zero (m : List Int) (c : Nat) : (withI m 0 c).length = eqN m c := by
  unfold withI eqN
  rw [List.countP_eq_length_filter]
  simp
theorem sort_zero (m : List Int) (c : Nat) (h : ∀ x ∈ m, 0 ≤ x) : (sortI m 0 c).length = ltN m c := by
  rw [sortI_count]
  unfold ltN
  refine List.countP_congr fun x hx => ?_
  have := h x hx
  simp; omega
/-- Where none of the range is left whose first bits are c's. -/
theorem none_left (m : List Int) (s c : Nat) (h : ∀ x ∈ m, 0 ≤ x) (h0 : (withI m s (c / 2 ^ s)).length = 0) : (sortI m s (c / 2 ^ s)).length = ltN m c ∧ eqN m c = 0 := by
  have hn : ∀ x ∈ m, x / 2 ^ s ≠ ((c / 2 ^ s : Nat) : Int) := by
    intro x hx e
    have : x ∈ withI m s (c / 2 ^ s) := by unfold withI; rw [List.mem_filter]; exact ⟨hx, decide_eq_true e⟩
    rw [List.length_eq_zero_iff] at h0
    rw [h0] at this
    simp at this
  have hp : (0 : Int) < 2 ^ s := Int.pow_pos (by decide)
  have ec : ((c / 2 ^ s : Nat) : Int) = (c : Int) / 2 ^ s := by simp
  constructor
  · rw [sortI_count]
    unfold ltN
    refine List.countP_congr fun x hx => ?_
    have h1 := h x hx
    have h2 := hn x hx
    rw [ec] at h2 ⊢
    have h3 : 0 ≤ x / 2 ^ s := Int.ediv_nonneg h1 (by omega)
    simp only [decide_eq_true_eq]
    constructor
    · rintro ⟨-, h4⟩
      by_cases hc : x < (c : Int)
      · exact hc
      · have := Int.ediv_le_ediv hp (show (c : Int) ≤ x by omega)
        omega
    · intro hc
      have := Int.ediv_le_ediv hp (show x ≤ (c : Int) by omega)
      omega
  · unfold eqN
    rw [List.countP_eq_zero]
    intro x hx
    have h2 := hn x hx
    rw [decide_eq_true_eq]
    rintro rfl
    rw [ec] at h2
    exact h2 rfl
theorem sort_step (m : List Int) (s p : Nat) (t : Bool) : (sortI m s (2 * p + bN t)).length = (sortI m (s + 1) p).length + if t = true then (withI m s (2 * p)).length else 0 := by
  unfold bN
  cases t
  · simp [sortI_half]
  · simp only [if_true]; exact sortI_half1 m s p

/-- The first bits of c, one more. -/
theorem bits_step (c W k : Nat) (hk : k < W) : 2 * (c / 2 ^ (W - k)) + bN (decide ((c : Int) / 2 ^ (W - 1 - k) % 2 = 1)) = c / 2 ^ (W - 1 - k) := by
  have e : W - k = (W - 1 - k) + 1 := by omega
  rw [e, Nat.pow_succ, ← Nat.div_div_eq_div_mul]
  have ec : (c : Int) / 2 ^ (W - 1 - k) = ((c / 2 ^ (W - 1 - k) : Nat) : Int) := by simp
  rw [ec]
  generalize c / 2 ^ (W - 1 - k) = y
  unfold bN
  by_cases hy : y % 2 = 1
  · rw [if_pos (by rw [decide_eq_true_eq]; omega)]; omega
  · rw [if_neg (by rw [decide_eq_true_eq]; omega)]; omega
theorem first_lt (c W k : Nat) (hk : k ≤ W) (hc : c < 2 ^ W) : c / 2 ^ (W - k) < 2 ^ k := by
  rw [Nat.div_lt_iff_lt_mul (Nat.pow_pos (by decide)), ← Nat.pow_add, show k + (W - k) = W by omega]; exact hc

end Go.Proofs.YtpnjccomngdblaaGreat

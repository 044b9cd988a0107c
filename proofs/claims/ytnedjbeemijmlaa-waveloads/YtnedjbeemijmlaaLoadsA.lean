/- Any rows of bits of one length are those of a list of symbols. -/
import Derived.Test.YtnedjbeemijmlaaWZ
set_option maxRecDepth 100000
namespace Go.Proofs.Ytnedjbeemijmlaa
open Go.RowKit
open M

theorem div_two_pow (x : Int) (s : Nat) : x / 2 / 2 ^ s = x / 2 ^ (s + 1) := by
  rw [Int.pow_succ, Int.mul_comm, Int.ediv_ediv_of_nonneg (by decide)]

theorem withI_half (l : List Int) (s v : Nat) : (withI l (s + 1) v).map (fun x => x / 2) = withI (l.map fun x => x / 2) s v := by
  unfold withI
  rw [List.filter_map]
  congr 1
  apply List.filter_congr
  intro x _
  show _ = decide (x / 2 / 2 ^ s = (v : Int))
  rw [div_two_pow]

theorem sortI_div (l : List Int) (s k : Nat) : (sortI l (s + 1) k).map (fun x => x / 2) = sortI (l.map fun x => x / 2) s k := by
  unfold sortI
  rw [List.map_flatMap]
  congr 1
  funext v
  exact withI_half l s v

theorem bitsI_half (l : List Int) (s : Nat) : bitsI l (s + 1) = bitsI (l.map fun x => x / 2) s := by
  unfold bitsI
  rw [List.map_map]
  apply List.map_congr_left
  intro x _
  show _ = decide (x / 2 / 2 ^ s % 2 = 1)
  rw [div_two_pow]

/-- Those whose first bits are a and above. -/
def restI (l : List Int) (s a n : Nat) : List Int := (List.range n).flatMap fun v => withI l s (a + v)
theorem sortI_split (l : List Int) (s x d : Nat) : sortI l s (x + 1 + d) = sortI l s x ++ (withI l s x ++ restI l s (x + 1) d) := by
  unfold restI sortI
  rw [List.range_add, List.flatMap_append, List.range_succ, List.flatMap_append, List.append_assoc, List.flatMap_map]
  simp

theorem withI_cons (y : Int) (L : List Int) (s v : Nat) : withI (y :: L) s v = if y / 2 ^ s = (v : Int) then y :: withI L s v else withI L s v := by
  unfold withI
  rw [List.filter_cons]
  by_cases h : y / 2 ^ s = (v : Int)
  · rw [if_pos (decide_eq_true h), if_pos h]
  · rw [if_neg (by rw [decide_eq_true_eq]; exact h), if_neg h]

theorem sortI_cons (y : Int) (L : List Int) (s x d : Nat) (h : y / 2 ^ s = (x : Int)) : sortI (y :: L) s (x + 1 + d) = sortI L s x ++ y :: (withI L s x ++ restI L s (x + 1) d) := by
  rw [sortI_split, withI_cons, if_pos h]
  have e1 : sortI (y :: L) s x = sortI L s x := by
    unfold sortI
    rw [List.flatMap_def, List.flatMap_def]
    congr 1
    apply List.map_congr_left
    intro v hv
    rw [List.mem_range] at hv
    rw [withI_cons, if_neg (by omega)]
  have e2 : restI (y :: L) s (x + 1) d = restI L s (x + 1) d := by
    unfold restI
    congr 1
    funext v
    rw [withI_cons, if_neg (by omega)]
  rw [e1, e2]
  rfl

theorem sortI_full (l : List Int) (K : Nat) (h : ∀ x ∈ l, 0 ≤ x ∧ x < (K : Int)) : (sortI l 0 K).length = l.length := by
  induction l with
  | nil => have := sortI_len [] 0 K; simp at this ⊢; exact this
  | cons y L ih =>
    have hy := h y (by simp)
    obtain ⟨x, rfl⟩ : ∃ x : Nat, y = (x : Int) := ⟨y.toNat, by omega⟩
    obtain ⟨d, rfl⟩ : ∃ d, K = x + 1 + d := ⟨K - x - 1, by omega⟩
    rw [sortI_cons (x : Int) L 0 x d (by simp)]
    have := ih (fun z hz => h z (by simp [hz]))
    rw [sortI_split] at this
    simp only [List.length_append, List.length_cons] at this ⊢
    omega

/-- The last row of bits. -/
theorem last_row (K : Nat) (l' : List Int) (h : ∀ x ∈ l', 0 ≤ x ∧ x < (K : Int)) (r : List Bool) (hr : r.length = l'.length) :
    ∃ l : List Int, (l.map fun x => x / 2) = l' ∧ (∀ x ∈ l, 0 ≤ x) ∧ bitsI (sortI l 1 K) 0 = r := by
  induction l' generalizing r with
  | nil =>
    refine ⟨[], rfl, by simp, ?_⟩
    have : r = [] := by simpa using hr
    subst this
    unfold sortI withI bitsI; simp
  | cons y t ih =>
    have hy := h y (by simp)
    have ht : ∀ x ∈ t, 0 ≤ x ∧ x < (K : Int) := fun z hz => h z (by simp [hz])
    obtain ⟨x, rfl⟩ : ∃ x : Nat, y = (x : Int) := ⟨y.toNat, by omega⟩
    obtain ⟨d, rfl⟩ : ∃ d, K = x + 1 + d := ⟨K - x - 1, by omega⟩
    have hall := sortI_full t _ ht
    have hsp := sortI_split t 0 x d
    have hlen : (sortI t 0 x).length ≤ t.length := by
      rw [← hall, hsp, List.length_append]; omega
    rw [List.length_cons] at hr
    generalize ha : (sortI t 0 x).length = a at *
    obtain ⟨lt, h1, h2, h3⟩ := ih ht (r.take a ++ r.drop (a + 1)) (by rw [List.length_append, List.length_take, List.length_drop]; omega)
    have hA : (sortI lt 1 x).length = a := by
      have := congrArg List.length (sortI_div lt 0 x)
      rw [List.length_map, h1, ha] at this
      exact this
    rw [sortI_split] at h3
    have h3 : bitsI (sortI lt 1 x) 0 ++ bitsI (withI lt 1 x ++ restI lt 1 (x + 1) d) 0 = r.take a ++ r.drop (a + 1) := by
      rw [← h3]; unfold bitsI; rw [← List.map_append]
    have hl2 : (bitsI (sortI lt 1 x) 0).length = (r.take a).length := by
      unfold bitsI; rw [List.length_map, hA, List.length_take]; omega
    obtain ⟨h4, h5⟩ := List.append_inj h3 hl2
    have hra : a < r.length := by omega
    have hval : ∃ z : Int, z / 2 = (x : Int) ∧ 0 ≤ z ∧ decide (z / 2 ^ 0 % 2 = 1) = r[a] := by
      cases hb : r[a]
      · exact ⟨2 * (x : Int), by omega, by omega, by simp⟩
      · exact ⟨2 * (x : Int) + 1, by omega, by omega, by simp⟩
    obtain ⟨z, hz1, hz2, hz3⟩ := hval
    refine ⟨z :: lt, by simp [hz1, h1], ?_, ?_⟩
    · intro q hq
      rcases List.mem_cons.1 hq with rfl | hq
      · exact hz2
      · exact h2 q hq
    · rw [sortI_cons z lt 1 x d (by simpa using hz1)]
      have e : bitsI (sortI lt 1 x ++ z :: (withI lt 1 x ++ restI lt 1 (x + 1) d)) 0 = bitsI (sortI lt 1 x) 0 ++ decide (z / 2 ^ 0 % 2 = 1) :: bitsI (withI lt 1 x ++ restI lt 1 (x + 1) d) 0 := by
        unfold bitsI; rw [List.map_append, List.map_cons]
      rw [e, h4, h5, hz3]
      have : r.drop a = r[a] :: r.drop (a + 1) := by rw [List.drop_eq_getElem_cons hra]
      rw [← this, List.take_append_drop]

/-- Any rows of bits, as many as W, of one length, are those of a list of symbols below 2^W. -/
theorem rows_are (n W : Nat) (ls : List (List Bool)) (hW : ls.length = W) (hn : ∀ r ∈ ls, r.length = n) :
    ∃ l : List Int, l.length = n ∧ (∀ x ∈ l, 0 ≤ x ∧ x < 2 ^ W) ∧ rowsI l W W = ls := by
  induction W generalizing ls with
  | zero =>
    have : ls = [] := by simpa using hW
    subst this
    exact ⟨List.replicate n 0, by simp, fun x hx => by rw [List.eq_of_mem_replicate hx]; decide, by simp [rowsI]⟩
  | succ W ih =>
    have hne : ls ≠ [] := by rintro rfl; simp at hW
    obtain ⟨ls', r, rfl⟩ : ∃ ls' r, ls = ls' ++ [r] := ⟨ls.dropLast, ls.getLast hne, (List.dropLast_concat_getLast hne).symm⟩
    rw [List.length_append, List.length_singleton] at hW
    obtain ⟨l', h1, h2, h3⟩ := ih ls' (by omega) (fun q hq => hn q (by simp [hq]))
    have hr : r.length = n := hn r (by simp)
    obtain ⟨l, g1, g2, g3⟩ := last_row (2 ^ W) l' (fun x hx => by have := h2 x hx; simpa using this) r (by omega)
    have gx : ∀ x ∈ l, 0 ≤ x ∧ x < 2 ^ (W + 1) := fun x hx => by
      have hm : x / 2 ∈ l' := by rw [← g1]; exact List.mem_map.2 ⟨x, hx, rfl⟩
      have := (h2 _ hm).2
      refine ⟨g2 x hx, ?_⟩
      rw [Int.pow_succ]
      omega
    refine ⟨l, by rw [← h1, ← g1, List.length_map], gx, ?_⟩
    rw [rowsI_succ]
    congr 1
    · rw [← h3]
      unfold rowsI
      apply List.map_congr_left
      intro j hj
      rw [List.mem_range] at hj
      rw [show W + 1 - 1 - j = (W - 1 - j) + 1 by omega, bitsI_half]
      congr 1
      unfold curI
      by_cases h0 : j = 0
      · rw [if_pos h0, if_pos h0, g1]
      · rw [if_neg h0, if_neg h0, show W + 1 - j = (W - j) + 1 by omega, sortI_div, g1]
    · rw [show W + 1 - 1 - W = 0 by omega]
      congr 1
      unfold curI
      by_cases h0 : W = 0
      · subst h0
        rw [if_pos rfl]
        rw [← g3]
        congr 1
        unfold sortI withI
        simp only [Nat.pow_zero]
        symm
        simp only [List.range_one, List.flatMap_cons, List.flatMap_nil, List.append_nil]
        rw [List.filter_eq_self]
        intro x hx
        rw [decide_eq_true_eq]
        have := gx x hx
        simp at this ⊢
        omega
      · rw [if_neg h0, show W + 1 - W = 1 by omega, g3]

end Go.Proofs.Ytnedjbeemijmlaa

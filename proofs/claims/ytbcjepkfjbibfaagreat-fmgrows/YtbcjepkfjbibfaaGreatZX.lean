/- Plain facts: how often a row stands, told by what stands behind it. -/
import Derived.Test.YtbcjepkfjbibfaaGreatZW
set_option maxRecDepth 100000
namespace Go.Proofs.YtbcjepkfjbibfaaGreat

variable {l : List Int}

theorem fnd_count (l p : List Int) : (fndL l p).length = (List.range (l.length + 1)).countP (stB l p) := by
  unfold fndL
  rw [List.length_map, List.countP_eq_length_filter]

theorem st_snoc (r : List Int) (c : Int) (q : Nat) : stB l (r ++ [c]) q = (stB l r q && (decide (q + r.length < l.length) && decide (l.getD (q + r.length) 0 = c))) := by
  have h1 := st_at (l := l) (r ++ [c]) q
  have h2 := st_at (l := l) r q
  rw [Bool.eq_iff_iff, Bool.and_eq_true, Bool.and_eq_true, decide_eq_true_eq, decide_eq_true_eq, h1, h2]
  have hl : (r ++ [c]).length = r.length + 1 := by simp
  rw [hl]
  have hA : ∀ i, i < r.length → (r ++ [c]).getD i 0 = r.getD i 0 := fun i hi => by
    rw [List.getD_eq_getElem?_getD, List.getD_eq_getElem?_getD, List.getElem?_append_left hi]
  have hB : (r ++ [c]).getD r.length 0 = c := by simp [List.getD_eq_getElem?_getD]
  constructor
  · rintro ⟨k1, k2⟩
    refine ⟨⟨by omega, fun i hi => ?_⟩, by omega, ?_⟩
    · rw [k2 i (by omega), hA i hi]
    · rw [k2 r.length (by omega), hB]
  · rintro ⟨⟨k1, k2⟩, k3, k4⟩
    refine ⟨by omega, fun i hi => ?_⟩
    by_cases e : i = r.length
    · subst e; rw [hB]; exact k4
    · rw [hA i (by omega)]; exact k2 i (by omega)

/-- How often it stands with a symbol less than c behind it. -/
def growN (l r : List Int) (c : Int) : Nat := (List.range (l.length + 1)).countP fun q => stB l r q && (decide (q + r.length < l.length) && decide (l.getD (q + r.length) 0 < c))
theorem countP_no {β : Type} (f : β → Bool) (xs : List β) (h : ∀ x ∈ xs, f x = false) : xs.countP f = 0 := by
  rw [List.countP_eq_zero]
  intro a ha
  rw [h a ha]
  decide
theorem grow_zero (r : List Int) (h : ∀ x ∈ l, 0 ≤ x) : growN l r 0 = 0 := by
  refine countP_no _ _ fun q _ => ?_
  by_cases k : q + r.length < l.length
  · have := h _ (getD_mem (b := 0) k)
    rw [decide_eq_false (p := l.getD (q + r.length) 0 < 0) (by omega), Bool.and_false, Bool.and_false]
  · rw [decide_eq_false k, Bool.false_and, Bool.and_false]
theorem grow_succ (r : List Int) (c : Int) : growN l r (c + 1) = growN l r c + (fndL l (r ++ [c])).length := by
  rw [fnd_count]
  unfold growN
  rw [← countP_both]
  · refine List.countP_congr fun q _ => ?_
    rw [st_snoc]
    cases stB l r q <;> by_cases k : q + r.length < l.length
    all_goals simp only [Bool.false_and, Bool.or_false, Bool.true_and, k, decide_true, decide_false, Bool.and_false, Bool.or_eq_true, decide_eq_true_eq]
    omega
  · intro q _
    rw [st_snoc]
    rintro ⟨k1, k2⟩
    simp only [Bool.and_eq_true, decide_eq_true_eq] at k1 k2
    omega
/-- Does it stand at the end, as far as i symbols of it go? -/
def endB (l r : List Int) (i : Nat) : Bool := decide (r.length ≤ l.length) && (List.range i).all fun j => decide (l.getD (l.length - r.length + j) 0 = r.getD j 0)
theorem endB_succ (r : List Int) (i : Nat) : endB l r (i + 1) = (endB l r i && decide (l.getD (l.length - r.length + i) 0 = r.getD i 0)) := by
  unfold endB
  rw [List.range_succ, List.all_append]
  simp [Bool.and_assoc]
theorem endB_le {r : List Int} {i : Nat} (h : endB l r i = true) : r.length ≤ l.length := by
  unfold endB at h
  rw [Bool.and_eq_true, decide_eq_true_eq] at h
  exact h.1
theorem endB_down {r : List Int} {i : Nat} (h : endB l r i = false) : ∀ d, endB l r (i + d) = false
  | 0 => h
  | d + 1 => by rw [← Nat.add_assoc, endB_succ, endB_down h d, Bool.false_and]
theorem endB_len (r : List Int) : endB l r r.length = (decide (r.length ≤ l.length) && stB l r (l.length - r.length)) := by
  rw [Bool.eq_iff_iff, Bool.and_eq_true]
  unfold endB
  rw [Bool.and_eq_true, st_at, List.all_eq_true]
  constructor
  · rintro ⟨k1, k2⟩
    rw [decide_eq_true_eq] at k1
    exact ⟨by rw [decide_eq_true_eq]; exact k1, by omega, fun i hi => by simpa using k2 i (List.mem_range.2 hi)⟩
  · rintro ⟨k1, -, k3⟩
    exact ⟨k1, fun j hj => by rw [decide_eq_true_eq]; exact k3 j (List.mem_range.1 hj)⟩
theorem countP_one (f : Nat → Bool) (N e : Nat) (he : e < N) (h : ∀ q, q < N → q ≠ e → f q = false) : (List.range N).countP f = if f e then 1 else 0 := by
  induction N with
  | zero => omega
  | succ N ih =>
    rw [List.range_succ, List.countP_append, List.countP_singleton]
    by_cases k : e = N
    · subst k
      rw [countP_no f (List.range e) fun q hq => h q (by have := List.mem_range.1 hq; omega) (by have := List.mem_range.1 hq; omega), Nat.zero_add]
    · rw [ih (by omega) (fun q hq => h q (by omega)), h N (by omega) (by omega)]
      simp
theorem grow_end (r : List Int) (s : Int) (h : ∀ x ∈ l, x < s) : (fndL l r).length = growN l r s + (if endB l r r.length then 1 else 0) := by
  rw [fnd_count, endB_len]
  by_cases hle : r.length ≤ l.length
  · rw [decide_eq_true hle, Bool.true_and]
    have h1 : (if stB l r (l.length - r.length) then 1 else 0) = (List.range (l.length + 1)).countP fun q => stB l r q && decide (q = l.length - r.length) := by
      rw [countP_one (fun q => stB l r q && decide (q = l.length - r.length)) (l.length + 1) (l.length - r.length) (by omega) (fun q _ hq => by simp only [decide_eq_false hq, Bool.and_false])]
      simp
    rw [h1]
    unfold growN
    rw [← countP_both]
    · refine List.countP_congr fun q _ => ?_
      have hst := st_at (l := l) r q
      by_cases k : q + r.length < l.length
      · have hx := h _ (getD_mem (b := 0) k)
        rw [decide_eq_true k, decide_eq_true hx, decide_eq_false (p := q = l.length - r.length) (by omega)]
        simp
      · by_cases e : q = l.length - r.length
        · rw [decide_eq_false k, decide_eq_true e]
          simp
        · have : stB l r q = false := by rw [← Bool.not_eq_true, hst]; omega
          simp [this]
    · intro q _
      rintro ⟨k1, k2⟩
      simp only [Bool.and_eq_true, decide_eq_true_eq] at k1 k2
      omega
  · rw [decide_eq_false hle, Bool.false_and, if_neg (by decide), Nat.add_zero]
    unfold growN
    refine List.countP_congr fun q _ => ?_
    have hst := st_at (l := l) r q
    have : stB l r q = false := by rw [← Bool.not_eq_true, hst]; omega
    simp [this]
theorem grow_le (r : List Int) (c : Int) : growN l r c ≤ l.length + 1 := by
  have := List.countP_le_length (p := fun q => stB l r q && (decide (q + r.length < l.length) && decide (l.getD (q + r.length) 0 < c))) (l := List.range (l.length + 1))
  rwa [List.length_range] at this

end Go.Proofs.YtbcjepkfjbibfaaGreat

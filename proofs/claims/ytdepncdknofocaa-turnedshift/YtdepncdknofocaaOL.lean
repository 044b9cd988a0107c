/- Plain facts on ranks: the lesser key has the lesser rank; no rank is left out; ranks of ranks are the ranks. The document's Select at 0. -/
import Derived.Test.YtdepncdknofocaaOK
set_option maxRecDepth 100000
namespace Go.Proofs.Ytdepncdknofocaa
open Go.RowKit
open M

theorem nless_lt (κ : Int → Int) (n : Nat) {p : Nat} {v : Int} (hp : p < n) (h : κ p < v) : nless κ n (κ p) < nless κ n v := by
  have h1 := fst_one κ (κ p) n
  rw [if_pos ⟨p, hp, rfl⟩] at h1
  have h2 := filter_two (List.range n) (fun k : Nat => decide (κ k ≤ κ p) && fstB κ k) (fun k : Nat => decide (κ k < κ p) && fstB κ k) (fun k : Nat => decide (κ k = κ p) && fstB κ k) (fun k _ => by
    rw [← Bool.and_or_distrib_right]
    congr 1
    rw [← Bool.decide_or, decide_eq_decide]; omega) (fun k _ => by
    by_cases e : κ k = κ p
    · simp [e]
    · rw [decide_eq_false e]; simp)
  rw [h1] at h2
  have h3 : ((List.range n).filter fun k : Nat => decide (κ k ≤ κ p) && fstB κ k).length ≤ nless κ n v := by
    unfold nless
    rw [← List.countP_eq_length_filter, ← List.countP_eq_length_filter]
    apply List.countP_mono_left
    intro k _ hk
    simp only [Bool.and_eq_true, decide_eq_true_eq] at hk ⊢
    exact ⟨by omega, hk.2⟩
  unfold nless at h3 ⊢
  omega
theorem nless_iff (κ : Int → Int) (n : Nat) {p q : Nat} (hp : p < n) (hq : q < n) : (nless κ n (κ p) < nless κ n (κ q) ↔ κ p < κ q) ∧ (nless κ n (κ p) = nless κ n (κ q) ↔ κ p = κ q) := by
  rcases Int.lt_trichotomy (κ p) (κ q) with h | h | h
  · have := nless_lt κ n hp h
    constructor <;> constructor <;> intro _ <;> omega
  · rw [h]
    constructor <;> constructor <;> intro _ <;> first | omega | rfl
  · have := nless_lt κ n hq h
    constructor <;> constructor <;> intro _ <;> omega

theorem kyI_rnk (κ : Int → Int) (n : Nat) {p : Nat} (hp : p < n) : kyI (rnkL κ n) (p : Int) = ((nless κ n (κ p) : Nat) : Int) := by
  unfold kyI
  rw [Int.toNat_natCast, rnkL_at κ n p hp]

/-- Keys in one order have the same ranks. -/
theorem rnk_congr (κ κ' : Int → Int) (n : Nat) (h1 : ∀ p q : Nat, p < n → q < n → (κ p < κ q ↔ κ' p < κ' q)) : rnkL κ n = rnkL κ' n := by
  have h2 : ∀ p q : Nat, p < n → q < n → (κ p = κ q ↔ κ' p = κ' q) := fun p q hp hq => by
    have a := h1 p q hp hq
    have b := h1 q p hq hp
    omega
  unfold rnkL
  apply List.map_congr_left
  intro p hp
  have hp' := List.mem_range.1 hp
  congr 1
  unfold nless
  congr 1
  apply List.filter_congr
  intro k hk
  have hk' := List.mem_range.1 hk
  have e1 : decide (κ k < κ p) = decide (κ' k < κ' p) := by rw [decide_eq_decide]; exact h1 k p hk' hp'
  have e2 : fstB κ k = fstB κ' k := by
    unfold fstB
    rw [Bool.eq_iff_iff, List.all_eq_true, List.all_eq_true]
    constructor
    · intro h j hj
      have hj' := List.mem_range.1 hj
      have := h j hj
      simp only [decide_eq_true_eq] at this ⊢
      exact fun e => this ((h2 j k (by omega) hk').2 e)
    · intro h j hj
      have hj' := List.mem_range.1 hj
      have := h j hj
      simp only [decide_eq_true_eq] at this ⊢
      exact fun e => this ((h2 j k (by omega) hk').1 e)
  rw [e1, e2]
theorem rnk_twice (κ : Int → Int) (n : Nat) : rnkL (kyI (rnkL κ n)) n = rnkL κ n := by
  apply rnk_congr
  intro p q hp hq
  rw [kyI_rnk κ n hp, kyI_rnk κ n hq]
  have := (nless_iff κ n hp hq).1
  omega

theorem nless_le (κ : Int → Int) (n : Nat) (v : Int) : nless κ n v ≤ n := Nat.le_trans (List.length_filter_le _ _) (by rw [List.length_range]; exact Nat.le_refl _)

/-- No rank is left out. -/
theorem rnk_dense (κ : Int → Int) (n : Nat) {p v : Nat} (hp : p < n) (hv : v ≤ nless κ n (κ p)) : ∃ q : Nat, q < n ∧ nless κ n (κ q) = v := by
  have key : ∀ i, i < n → ∀ v, v ≤ rkI κ (ordP κ n) i → ∃ j, j < n ∧ rkI κ (ordP κ n) j = v := by
    intro i
    induction i with
    | zero => intro hi v hv; exact ⟨0, hi, by have h0 : rkI κ (ordP κ n) 0 = 0 := rfl; omega⟩
    | succ i ih =>
      intro hi v hv
      by_cases e : v ≤ rkI κ (ordP κ n) i
      · exact ih (by omega) v e
      · refine ⟨i + 1, hi, ?_⟩
        have hs : rkI κ (ordP κ n) (i + 1) = rkI κ (ordP κ n) i + if κ ((ordP κ n).getD i 0) = κ ((ordP κ n).getD (i + 1) 0) then 0 else 1 := rfl
        split at hs <;> omega
  have hm : (p : Int) ∈ ordP κ n := ordP_mem.2 (by omega)
  obtain ⟨i, hi, e⟩ := List.getElem_of_mem hm
  rw [ordP_length] at hi
  have e2 : (ordP κ n).getD i 0 = (p : Int) := by simp [List.getD_eq_getElem?_getD, ordP_length, hi, e]
  have h1 := rkI_less κ n i hi
  rw [e2] at h1
  obtain ⟨j, hj, h2⟩ := key i hi v (by omega)
  obtain ⟨q, hq, hqn⟩ := ordP_at κ n hj
  have h3 := rkI_less κ n j hj
  rw [hq] at h3
  exact ⟨q, hqn, by omega⟩

/-- Keys in order: they stand so already. -/
theorem ordP_sorted (l : List Int) (h : ∀ i j, i ≤ j → j < l.length → l.getD i 0 ≤ l.getD j 0) : ordP (kyI l) l.length = plcs l.length := by
  symm
  refine isort_uniq (Same.refl _ _) ?_
  refine List.Pairwise.imp_of_mem (fun {a b} ha hb hab => ?_) (plcs_rise l.length)
  have h1 := plcs_mem.1 ha
  have h2 := plcs_mem.1 hb
  exact h a.toNat b.toNat (by omega) (by omega)
/-- The keys in order. -/
def srtL (m : List Int) (k : Nat) : List Int := ((ordP (kyI m) m.length).take k).map (kyI m)
theorem srtL_succ (m : List Int) (k : Nat) (h : k < m.length) : srtL m (k + 1) = srtL m k ++ [kyI m ((ordP (kyI m) m.length).getD k 0)] := by
  unfold srtL
  rw [takeI_snoc _ k (by rw [ordP_length]; exact h), List.map_append]; rfl
theorem srtL_len (m : List Int) (k : Nat) (h : k ≤ m.length) : (srtL m k).length = k := by
  unfold srtL
  rw [List.length_map, List.length_take, ordP_length]; omega
theorem srtL_at (m : List Int) (i : Nat) (h : i < m.length) : (srtL m m.length).getD i 0 = kyI m ((ordP (kyI m) m.length).getD i 0) := by
  unfold srtL
  rw [List.take_of_length_le (by rw [ordP_length]; exact Nat.le_refl _)]
  have : i < (ordP (kyI m) m.length).length := by rw [ordP_length]; exact h
  simp [List.getD_eq_getElem?_getD, this]
theorem srtL_mem (m : List Int) (k : Nat) : ∀ x ∈ srtL m k, x ∈ m := by
  intro x hx
  unfold srtL at hx
  obtain ⟨y, hy, rfl⟩ := List.mem_map.1 hx
  have := ordP_mem.1 (List.mem_of_mem_take hy)
  exact memI m y.toNat (by omega)
theorem srtL_ord (m : List Int) : ordP (kyI (srtL m m.length)) m.length = plcs m.length := by
  have hl := srtL_len m m.length (Nat.le_refl _)
  have := ordP_sorted (srtL m m.length) (fun i j hij hj => by
    rw [hl] at hj
    rw [srtL_at m i (by omega), srtL_at m j hj]
    exact pw_at (ordP_pw (kyI m) m.length) hij (by rw [ordP_length]; exact hj))
  rw [hl] at this
  exact this

end Go.Proofs.Ytdepncdknofocaa

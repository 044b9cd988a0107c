/- Which symbols stand in a range: the document's answer is the row's. -/
import Derived.Test.YtnedjbeemijmlaaWW
set_option maxRecDepth 100000
namespace Go.Proofs.Ytnedjbeemijmlaa
open Go.RowKit
open M

theorem mem_rng (l : List Int) (f t : Int) (x : Int) : x ∈ rng l (lo l.length f) (hi l.length f t) ↔ isTo l f t x l.length = true := by
  unfold rng isTo
  rw [List.any_eq_true]
  constructor
  · intro h
    obtain ⟨j, hj, e⟩ := List.getElem_of_mem h
    rw [List.length_drop, List.length_take] at hj
    rw [List.getElem_drop, List.getElem_take] at e
    refine ⟨lo l.length f + j, by rw [List.mem_range]; omega, ?_⟩
    have e2 : l.getD (lo l.length f + j) 0 = x := by
      simp [List.getD_eq_getElem?_getD, show lo l.length f + j < l.length by omega, e]
    have h1 : f ≤ ((lo l.length f + j : Nat) : Int) := by unfold hi lo at *; omega
    have h2 : ((lo l.length f + j : Nat) : Int) < t := by unfold hi lo at *; omega
    rw [decide_eq_true h1, decide_eq_true h2, decide_eq_true e2]; rfl
  · rintro ⟨j, hj, h⟩
    rw [List.mem_range] at hj
    simp only [Bool.and_eq_true, decide_eq_true_eq] at h
    obtain ⟨⟨h1, h2⟩, h3⟩ := h
    have e2 : l[j] = x := by rw [← h3]; simp [List.getD_eq_getElem?_getD, hj]
    have hlo : lo l.length f ≤ j := by unfold lo; omega
    have hhi : j < hi l.length f t := by unfold hi lo; omega
    rw [List.mem_iff_getElem]
    refine ⟨j - lo l.length f, by rw [List.length_drop, List.length_take]; omega, ?_⟩
    rw [List.getElem_drop, List.getElem_take]
    rw [← e2]
    congr 1
    omega

theorem dis_to (l : List Int) (f t : Int) (W K : Nat) (hW : ∀ x ∈ l, x < 2 ^ W) (hK : ∀ x ∈ l, x < (K : Int)) : disL (rng l (lo l.length f) (hi l.length f t)) W 0 = disTo l f t K := by
  have hM : ∀ x : Int, x ∈ rng l (lo l.length f) (hi l.length f t) → x ∈ l := fun x hx => rng_mem _ _ _ hx
  have key : ∀ A B : Nat, A ≤ B → (∀ x ∈ l, x < (A : Int)) → ((List.range B).filter fun (i : Nat) => decide ((i : Int) ∈ rng l (lo l.length f) (hi l.length f t))) = (List.range A).filter fun (i : Nat) => decide ((i : Int) ∈ rng l (lo l.length f) (hi l.length f t)) := by
    intro A B hAB hA
    obtain ⟨d, rfl⟩ : ∃ d, B = A + d := ⟨B - A, by omega⟩
    rw [List.range_add, List.filter_append]
    have : ((List.range d).map (A + ·)).filter (fun (i : Nat) => decide ((i : Int) ∈ rng l (lo l.length f) (hi l.length f t))) = [] := by
      rw [List.filter_eq_nil_iff]
      intro i hi
      rw [List.mem_map] at hi
      obtain ⟨j, -, rfl⟩ := hi
      rw [decide_eq_true_eq]
      intro hx
      have := hA _ (hM _ hx)
      omega
    rw [this, List.append_nil]
  have hW' : ∀ x ∈ l, x < ((2 ^ W : Nat) : Int) := fun x hx => by have := hW x hx; simpa using this
  have e : ((List.range (2 ^ W)).filter fun (i : Nat) => decide ((i : Int) ∈ rng l (lo l.length f) (hi l.length f t))) = (List.range K).filter fun (i : Nat) => decide ((i : Int) ∈ rng l (lo l.length f) (hi l.length f t)) := by
    rcases Nat.le_total (2 ^ W) K with h | h
    · exact (key _ _ h hW').symm
    · exact key _ _ h hK
  unfold disL disTo
  simp only [Nat.zero_mul, Nat.zero_add]
  rw [e]
  have e3 : (fun (i : Nat) => decide ((i : Int) ∈ rng l (lo l.length f) (hi l.length f t))) = fun (x : Nat) => isTo l f t (x : Int) l.length := by
    funext i
    rw [Bool.eq_iff_iff, decide_eq_true_eq]
    exact mem_rng l f t (i : Int)
  rw [e3]
  rfl

end Go.Proofs.Ytnedjbeemijmlaa

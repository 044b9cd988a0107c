/- Lists that rise: the contracts of Rises and of the document's Rises; rising. -/
import Derived.Test.YtjepgdfcjbgahaaOK
set_option maxRecDepth 100000
namespace Go.Proofs.Ytjepgdfcjbgahaa
open Go.RowKit
open M
attribute [local go_sem ↓] Go.wp_at_zero Go.wp_at_succ

/-- Is each number less than the one behind it, up to i? -/
def riseN (l : List Int) (i : Nat) : Bool := (List.range (i - 1)).all fun j => decide (l.getD j 0 < l.getD (j + 1) 0)
theorem riseN_succ (l : List Int) (i : Nat) (h : 0 < i) : riseN l (i + 1) = (riseN l i && decide (l.getD (i - 1) 0 < l.getD i 0)) := by
  unfold riseN
  obtain ⟨k, rfl⟩ : ∃ k, i = k + 1 := ⟨i - 1, by omega⟩
  rw [show k + 1 + 1 - 1 = k + 1 by omega, show k + 1 - 1 = k by omega, List.range_succ, List.all_append]; simp
theorem riseN_bad (l : List Int) (n i : Nat) (h : 0 < i) (hi : i < n) (hb : ¬ l.getD (i - 1) 0 < l.getD i 0) : riseN l n = false := by
  unfold riseN
  rw [List.all_eq_false]
  refine ⟨i - 1, List.mem_range.2 (by omega), ?_⟩
  rw [show i - 1 + 1 = i by omega]
  simpa using hb

/-- The numbers from 0 up to k that are among these. -/
def rsL (P : Nat → Bool) (k : Nat) : List Int := ((List.range k).filter P).map fun i : Nat => (i : Int)
theorem rsL_succ (P : Nat → Bool) (k : Nat) : rsL P (k + 1) = rsL P k ++ if P k = true then [(k : Int)] else [] := by
  unfold rsL
  rw [List.range_succ, List.filter_append, List.map_append, List.filter_cons]
  split <;> simp
theorem rsL_mem {P : Nat → Bool} {k : Nat} {x : Int} : x ∈ rsL P k ↔ ∃ i : Nat, x = (i : Int) ∧ i < k ∧ P i = true := by
  unfold rsL
  rw [List.mem_map]
  constructor
  · rintro ⟨i, hi, rfl⟩
    rw [List.mem_filter, List.mem_range] at hi
    exact ⟨i, rfl, hi.1, hi.2⟩
  · rintro ⟨i, rfl, h1, h2⟩
    exact ⟨i, by rw [List.mem_filter, List.mem_range]; exact ⟨h1, h2⟩, rfl⟩
theorem rsL_len (P : Nat → Bool) (k : Nat) : (rsL P k).length ≤ k := by
  unfold rsL
  rw [List.length_map]
  exact Nat.le_trans (List.length_filter_le _ _) (by rw [List.length_range]; exact Nat.le_refl _)
theorem rsL_rise (P : Nat → Bool) (k : Nat) : (rsL P k).Pairwise (· < ·) := by
  unfold rsL
  rw [List.pairwise_map]
  exact (List.pairwise_lt_range.filter _).imp fun h => by omega
theorem riseN_of {l : List Int} (h : l.Pairwise (· < ·)) : riseN l l.length = true := by
  unfold riseN
  rw [List.all_eq_true]
  intro j hj
  have hj' := List.mem_range.1 hj
  have := List.pairwise_iff_getElem.1 h j (j + 1) (by omega) (by omega) (by omega)
  simp only [List.getD_eq_getElem?_getD, List.getElem?_eq_getElem (show j < l.length by omega), List.getElem?_eq_getElem (show j + 1 < l.length by omega), Option.getD_some]
  exact decide_eq_true this

/-- A row of bits of the call's own. -/
structure DB (w : World) (D n : Nat) (d : Nat → Bool) (u : World) : Prop where
  cell : ∀ i, i < n → u.cell? ⟨D, i, none⟩ = some (.bool (d i))
  frz : ∀ i, i < n → u.frozen? ⟨D, i, none⟩ = false
  lo : w.heap.size ≤ D
  hi : D < u.heap.size
  bel : Below w.heap.size w u
theorem DB.set {w u : World} {D n : Nat} {d : Nat → Bool} (h : DB w D n d u) {i : Nat} (_hi : i < n) (x : Bool) : DB w D n (fun k => if k = i then x else d k) (u.setCell ⟨D, i, none⟩ (.bool x)) := by
  refine ⟨fun k hk => ?_, fun k hk => by simpa using h.frz k hk, h.lo, by simpa using h.hi, h.bel.setCell h.lo _⟩
  rw [cell_set _ _ _ _ _ _ (h.cell k hk)]
  by_cases e : k = i
  · simp [e]
  · simp [e]
theorem DB.kept {w u u' : World} {D n : Nat} {d : Nat → Bool} (h : DB w D n d u) (hb : Below u.heap.size u u') : DB w D n d u' :=
  ⟨fun i hi => by rw [hb.cell (p := ⟨D, i, none⟩) h.hi]; exact h.cell i hi, fun i hi => by rw [hb.frozen (p := ⟨D, i, none⟩) h.hi]; exact h.frz i hi, h.lo, Nat.lt_of_lt_of_le h.hi hb.size, h.bel.trans (hb.mono h.bel.size)⟩

def Z64 : Array Value := Array.replicate 64 (.bool false)
theorem Z64_at (i : Nat) (h : i < 64) : Z64[i]? = some (.bool false) := by simp [Z64, h]
theorem and63 (x : Int) : bits .and .i64 x 63 = x % 64 := and_mask x 6 (by omega)

/-- Some numbers from 0 to 63, rising. -/
def RisEnd (w : World) (e : Ending) (u : World) : Prop := ∃ (v : Value) (P : Nat → Bool), e = .returned v ∧ OwnI w v (rsL P 64) u

end Go.Proofs.Ytjepgdfcjbgahaa

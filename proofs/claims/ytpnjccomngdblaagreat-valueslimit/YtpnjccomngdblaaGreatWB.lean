/- The contracts of symbols and of the document's Distinct. -/
import Derived.Test.YtpnjccomngdblaaGreatWA
set_option maxRecDepth 100000
namespace Go.Proofs.YtpnjccomngdblaaGreat
open Go.RowKit
open M
attribute [local go_sem ↓] Go.wp_at_zero Go.wp_at_succ

/-- What symbols tells: a size from 1 to 32, and some symbols of that size, 80 at most, in a list of its own. -/
def SymsEnd (w : World) (e : Ending) (w' : World) : Prop :=
  ∃ (s : Nat) (v : Value) (m : List Int), e = .returned (.tuple #[v, .int .i64 (s : Int)]) ∧ 1 ≤ s ∧ s ≤ 32 ∧ m.length ≤ 80 ∧ (∀ x ∈ m, 0 ≤ x ∧ x < (s : Int)) ∧ OwnI w v m w'

theorem nums_one (w : World) (y : Int) : NumsAt .i64 (w.alloc (.cells #[.int .i64 y] 3)) (some ⟨w.heap.size, 0, none⟩) [y] := by
  refine .inr ⟨w.heap.size, 0, rfl, by simp, fun j hj => ?_⟩
  match j, hj with
  | 0, _ => simp

/-- Whether x stands in l from f on up to t, among the first k places. -/
def isTo (l : List Int) (f t : Int) (x : Int) (k : Nat) : Bool := (List.range k).any fun j => decide (f ≤ (j : Int)) && decide ((j : Int) < t) && decide (l.getD j 0 = x)
theorem isTo_succ (l : List Int) (f t : Int) (x : Int) (k : Nat) : isTo l f t x (k + 1) = (isTo l f t x k || (decide (f ≤ (k : Int)) && decide ((k : Int) < t) && decide (l.getD k 0 = x))) := by
  unfold isTo; rw [List.range_succ, List.any_append]; simp
/-- Which of the numbers below c stand there. -/
def disTo (l : List Int) (f t : Int) (c : Nat) : List Int := ((List.range c).filter fun (x : Nat) => isTo l f t (x : Int) l.length).map Int.ofNat
theorem disTo_succ (l : List Int) (f t : Int) (c : Nat) : disTo l f t (c + 1) = disTo l f t c ++ if isTo l f t (c : Int) l.length = true then [(c : Int)] else [] := by
  unfold disTo; rw [List.range_succ, List.filter_append, List.map_append]
  congr 1
  by_cases h : isTo l f t (c : Int) l.length = true
  · rw [if_pos h]; simp [h]
  · rw [if_neg h]; simp [h]
theorem disTo_len (l : List Int) (f t : Int) (c : Nat) : (disTo l f t c).length ≤ c := by
  unfold disTo; rw [List.length_map]
  exact Nat.le_trans (List.length_filter_le _ _) (by simp)

end Go.Proofs.YtpnjccomngdblaaGreat

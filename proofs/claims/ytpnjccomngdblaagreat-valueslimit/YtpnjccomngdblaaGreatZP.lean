/- The contracts of the document's Find, Range, Extract. -/
import Derived.Test.YtpnjccomngdblaaGreatZO
set_option maxRecDepth 100000
namespace Go.Proofs.YtpnjccomngdblaaGreat
open Go.RowKit
open M
attribute [local go_sem ↓] Go.wp_at_zero Go.wp_at_succ

/-- Where p stands among the first places. -/
def fdL (l p : List Int) (i : Nat) : List Int := ((List.range i).filter (stB l p)).map Int.ofNat
theorem fdL_succ (l p : List Int) (i : Nat) : fdL l p (i + 1) = fdL l p i ++ if stB l p i = true then [(i : Int)] else [] := by
  unfold fdL
  rw [List.range_succ, List.filter_append, List.map_append]
  congr 1
  by_cases h : stB l p i = true
  · rw [if_pos h]; simp [List.filter, h]
  · rw [if_neg h]; simp [List.filter, h]
theorem fdL_len (l p : List Int) (i : Nat) : (fdL l p i).length ≤ i := by
  unfold fdL
  rw [List.length_map]
  exact Nat.le_trans (List.length_filter_le _ _) (by simp)

/-- How many of the first suffixes are less. -/
def frF (l p : List Int) (i : Nat) : Nat := (List.range i).countP (dpB l false p)
theorem frF_succ (l p : List Int) (i : Nat) : frF l p (i + 1) = frF l p i + if dpB l false p i = true then 1 else 0 := by
  unfold frF
  rw [List.range_succ, List.countP_append, List.countP_singleton]
theorem frF_le (l p : List Int) (i : Nat) : frF l p i ≤ i := by
  have := List.countP_le_length (p := dpB l false p) (l := List.range i)
  rwa [List.length_range] at this

end Go.Proofs.YtpnjccomngdblaaGreat

/- Two rows of texts, one behind the other. -/
import Derived.Test.YtpnjccomngdblaaGreatVW
set_option maxRecDepth 100000
namespace Go.Proofs.YtpnjccomngdblaaGreat
open Go.RowKit
open M

theorem idN_app (ss tt : List ByteArray) (p : ByteArray) : ∀ i, i ≤ tt.length → idN (ss ++ tt) p (ss.length + i) = idN ss p ss.length ++ (idN tt p i).map (· + (ss.length : Int)) := by
  intro i
  induction i with
  | zero =>
    intro _
    unfold idN
    rw [Nat.add_zero]
    simp only [List.range_zero, List.filter_nil, List.map_nil, List.append_nil]
    refine congrArg (List.map Int.ofNat) (List.filter_congr fun j hj => ?_)
    rw [tV_app ss tt (List.mem_range.1 hj)]
  | succ i ih =>
    intro h
    rw [show ss.length + (i + 1) = (ss.length + i) + 1 by omega, idN_succ, ih (by omega), idN_succ, List.map_append, List.append_assoc, tV_app2]
    congr 2
    by_cases hh : hasN (tV tt i) p ((tV tt i).size + 1) = true
    · rw [if_pos hh, if_pos hh]
      simp only [List.map_cons, List.map_nil]
      congr 1
      omega
    · rw [if_neg hh, if_neg hh]; rfl
theorem ids_app (ss tt : List ByteArray) (p : ByteArray) : idsV (ss ++ tt) p = idsV ss p ++ (idsV tt p).map (· + (ss.length : Int)) := by
  have := idN_app ss tt p tt.length (Nat.le_refl _)
  rw [← List.length_append] at this
  exact this
theorem cn_app (ss tt : List ByteArray) (p : ByteArray) : ∀ i, i ≤ tt.length → cnV (ss ++ tt) p (ss.length + i) = cnV ss p ss.length + cnV tt p i := by
  intro i
  induction i with
  | zero =>
    intro _
    have : ∀ j, j ≤ ss.length → cnV (ss ++ tt) p j = cnV ss p j := by
      intro j
      induction j with
      | zero => intro _; rfl
      | succ j ihj => intro hj; rw [cnV, cnV, ihj (by omega), tV_app ss tt (by omega)]
    rw [Nat.add_zero, this _ (Nat.le_refl _)]
    rfl
  | succ i ih =>
    intro h
    rw [show ss.length + (i + 1) = (ss.length + i) + 1 by omega, cnV, cnV, ih (by omega), tV_app2]
    omega
theorem cn_app' (ss tt : List ByteArray) (p : ByteArray) : cnV (ss ++ tt) p (ss ++ tt).length = cnV ss p ss.length + cnV tt p tt.length := by
  rw [List.length_append, cn_app ss tt p _ (Nat.le_refl _)]
theorem bg_all (ss tt : List ByteArray) : bg (ss ++ tt) (ss ++ tt).length = bg ss ss.length + bg tt tt.length := by rw [List.length_append, bg_app2]

end Go.Proofs.YtpnjccomngdblaaGreat

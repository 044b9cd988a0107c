/- The contracts of the document's own answers: Get, Same, Ones. -/
import Derived.Test.YtfhlcclbjagdmaaR
namespace Go.Proofs.Ytfhlcclbjagdmaa
open Go.RowKit
open M

/-- How many of the first i bits are 1 that stand from x on up to y. -/
def cntR (l : List Bool) (x y : Int) : Nat → Nat
  | 0 => 0
  | i + 1 => cntR l x y i + if x ≤ (i : Int) ∧ (i : Int) < y ∧ l.getD i false = true then 1 else 0

theorem cntR_le (l : List Bool) (x y : Int) (i : Nat) : cntR l x y i ≤ i := by
  induction i with
  | zero => simp [cntR]
  | succ i ih => simp only [cntR]; split <;> omega

theorem cntR_eq (l : List Bool) (x y : Int) (i : Nat) (hi' : i ≤ l.length) : cntR l x y i = cnt ((l.take (min i (hi l.length x y))).drop (lo l.length x)) := by
  induction i with
  | zero => simp [cntR, cnt]
  | succ i ih =>
    have ih := ih (by omega)
    have ha : lo l.length x ≤ l.length := by unfold lo; omega
    have hb : lo l.length x ≤ hi l.length x y ∧ hi l.length x y ≤ l.length := by unfold hi; omega
    have hiff : (x ≤ (i : Int) ∧ (i : Int) < y) ↔ (lo l.length x ≤ i ∧ i < hi l.length x y) := by unfold hi lo; omega
    simp only [cntR, ih]
    generalize lo l.length x = a at *
    generalize hi l.length x y = b at *
    by_cases h1 : i < b
    · rw [show min (i + 1) b = i + 1 by omega, show min i b = i by omega, take_snoc l i _ (by omega) rfl]
      by_cases h2 : a ≤ i
      · rw [List.drop_append_of_le_length (by simp; omega), cnt_append]
        have hc : x ≤ (i : Int) ∧ (i : Int) < y := hiff.2 ⟨h2, h1⟩
        simp only [hc.1, hc.2, true_and, cnt]
        simp
      · have e1 : (l.take i ++ [l.getD i false]).drop a = [] := List.drop_eq_nil_of_le (by simp; omega)
        have e2 : (l.take i).drop a = [] := List.drop_eq_nil_of_le (by simp; omega)
        rw [e1, e2]
        simp only [cnt, Nat.zero_add]
        have hc : ¬ (x ≤ (i : Int) ∧ (i : Int) < y) := fun h => h2 (hiff.1 h).1
        rw [if_neg (fun h => hc ⟨h.1, h.2.1⟩)]
    · rw [show min (i + 1) b = b by omega, show min i b = b by omega]
      have hc : ¬ (x ≤ (i : Int) ∧ (i : Int) < y) := fun h => h1 (hiff.1 h).2
      rw [if_neg (fun h => hc ⟨h.1, h.2.1⟩)]
      simp

theorem cntR_all (l : List Bool) (x y : Int) : cntR l x y l.length = onesN l x y := by
  have hb : hi l.length x y ≤ l.length := by unfold hi; omega
  rw [cntR_eq l x y l.length (by omega), show min l.length (hi l.length x y) = hi l.length x y by omega, List.drop_take]
  rfl

end Go.Proofs.Ytfhlcclbjagdmaa

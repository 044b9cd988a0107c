/- The contract of Distinct. -/
import Derived.Test.YtpnjccomngdblaaGreatWT
import Derived.Laws.EntriesVeiled
set_option maxRecDepth 100000
namespace Go.Proofs.YtpnjccomngdblaaGreat
open Go.RowKit
open M
attribute [local go_sem ↓] Go.wp_at_zero Go.wp_at_succ

/-- What the first t of the two bits' calls list. -/
def disUp (M : List Int) (m p t : Nat) : List Int := (List.range t).flatMap fun (v : Nat) => disL M m (2 * p + v)
theorem disUp_succ (M : List Int) (m p t : Nat) : disUp M m p (t + 1) = disUp M m p t ++ disL M m (2 * p + t) := by
  unfold disUp; rw [List.range_succ, List.flatMap_append]; simp
theorem disUp_two (M : List Int) (m p : Nat) : disUp M m p 2 = disL M (m + 1) p := by
  rw [disUp_succ, disUp_succ, disL_step]; simp [disUp]
theorem disUp_len (M : List Int) (m p t : Nat) : (disUp M m p t).length ≤ t * 2 ^ m := by
  induction t with
  | zero => simp [disUp]
  | succ t ih =>
    rw [disUp_succ, List.length_append]
    have := disL_len M m (2 * p + t)
    have e : (t + 1) * 2 ^ m = t * 2 ^ m + 2 ^ m := by rw [Nat.succ_mul]
    omega
/-- A boxed fork's cells, and where the closure stands. -/
theorem fls_of {cb lb : Nat} {F : FP} {v : Value} {u : World} (h : FBx u cb F) (h2 : u.cell? ⟨lb, 0, none⟩ = some v) : (u.cell? ⟨cb, 0, none⟩ = some (.int .i64 (F.R.n : Int)) ∧ u.cell? ⟨cb, 1, none⟩ = some (.slice F.R.a F.R.m F.R.c) ∧ u.cell? ⟨cb, 2, none⟩ = some (.int .i64 (F.R.cn : Int)) ∧ u.cell? ⟨cb, 3, none⟩ = some (.int .i64 (F.R.cW : Int)) ∧ u.cell? ⟨cb, 4, none⟩ = some (.int .i64 (F.R.cL : Int)) ∧ u.cell? ⟨cb, 5, none⟩ = some (.slice F.R.a2 F.R.m2 F.R.c2) ∧ u.cell? ⟨cb, 6, none⟩ = some (.int .i64 (F.b : Int)) ∧ u.cell? ⟨cb, 7, none⟩ = some (.int .i64 (F.m : Int)) ∧ u.cell? ⟨cb, 8, none⟩ = some (.int .i64 (F.e : Int)) ∧ u.cell? ⟨cb, 9, none⟩ = some (.int .i64 (F.z : Int)) ∧ u.cell? ⟨cb, 10, none⟩ = some (.int .i64 (F.o : Int))) ∧ u.cell? ⟨lb, 0, none⟩ = some v :=
  ⟨fs_of h (Below.refl _ _), h2⟩

end Go.Proofs.YtpnjccomngdblaaGreat

/- The walk of ShapedWhole. -/
import Derived.Test.YtdidoecigkbffaaGreatPA
set_option maxRecDepth 100000
namespace Go.Proofs.YtdidoecigkbffaaGreat
open Go.RowKit
open S J M
attribute [local go_sem ↓] Go.wp_at_zero Go.wp_at_succ

theorem and1023 (x : Int) : bits .and .i64 x 1023 = x % 1024 := and_mask x 10 (by omega)
/-- Numbers cut to 1023. -/
def mskL (xs : List Int) (k : Nat) : List Int := (xs.take k).map fun x => x % 1024
theorem mskL_succ (xs : List Int) (k : Nat) (h : k < xs.length) : mskL xs (k + 1) = mskL xs k ++ [xs.getD k 0 % 1024] := by
  unfold mskL
  rw [takeI_snoc xs k h, List.map_append]; rfl
theorem mskL_len (xs : List Int) (k : Nat) (h : k ≤ xs.length) : (mskL xs k).length = k := by simp [mskL]; omega
theorem mskL_in (xs : List Int) (k : Nat) : ∀ x ∈ mskL xs k, 0 ≤ x ∧ x < 1024 := by
  intro x hx
  unfold mskL at hx
  obtain ⟨y, -, rfl⟩ := List.mem_map.1 hx
  omega
theorem nums_one (w : World) (y : Int) : NumsAt .i64 (w.alloc (.cells #[.int .i64 y] 3)) (some ⟨w.heap.size, 0, none⟩) [y] := nums_block w [y]
theorem str_ne {l : List Bool} (h : l ≠ []) : (str l).toList.isEmpty = false := by
  rw [ByteArray.toList_eq]
  cases l with
  | nil => exact absurd rfl h
  | cons b t => rfl
theorem sum_wrap (sm e : Nat) (h : sm + e ≤ 1073741824) : wrap64 ((sm : Int) + wrap64 (e : Int)) = ((sm + e : Nat) : Int) := by
  rw [show wrap64 (e : Int) = (e : Int) by unfold wrap64; omega]
  unfold wrap64
  omega
theorem many_le (xs : List Int) (k : Nat) : many xs k ≤ k := loneL_length xs k

end Go.Proofs.YtdidoecigkbffaaGreat

/- Plain facts on orders: those of one key rise; numbers cut to 15; the loop of masks. -/
import Derived.Test.YtdepncdknofocaaOJ
set_option maxRecDepth 100000
namespace Go.Proofs.Ytdepncdknofocaa
open Go.RowKit
open M

theorem plcs_rise (n : Nat) : (plcs n).Pairwise (· < ·) := by
  unfold plcs
  rw [List.pairwise_map]
  exact List.pairwise_lt_range.imp fun h => by omega
/-- Those of one key stand as they stood. -/
theorem ordP_rise (κ : Int → Int) (n : Nat) {i j : Nat} (hij : i < j) (hj : j < n) : κ ((ordP κ n).getD i 0) < κ ((ordP κ n).getD j 0) ∨ (κ ((ordP κ n).getD i 0) = κ ((ordP κ n).getD j 0) ∧ (ordP κ n).getD i 0 < (ordP κ n).getD j 0) := by
  have h := pw_two (κ := fun x : Int => x) (ordP_pw κ n) (fun d => by
    rw [← ordP_same κ n d]
    exact ((plcs_rise n).imp (fun h => Int.le_of_lt h)).filter _)
  have hl := ordP_length κ n
  have h1 := List.pairwise_iff_getElem.1 h i j (by omega) (by omega) hij
  have h2 := List.pairwise_iff_getElem.1 (ordP_nodup κ n) i j (by omega) (by omega) hij
  have e1 : (ordP κ n).getD i 0 = (ordP κ n)[i]'(by omega) := by simp [List.getD_eq_getElem?_getD, List.getElem?_eq_getElem (show i < (ordP κ n).length by omega)]
  have e2 : (ordP κ n).getD j 0 = (ordP κ n)[j]'(by omega) := by simp [List.getD_eq_getElem?_getD, List.getElem?_eq_getElem (show j < (ordP κ n).length by omega)]
  rw [e1, e2]
  rcases h1 with h | ⟨h, h'⟩
  · exact .inl h
  · exact .inr ⟨h, by omega⟩
theorem ordP_all (κ : Int → Int) (n : Nat) : allB (ordP κ n) = true := by
  unfold allB
  rw [List.all_eq_true, ordP_length]
  intro x hx
  exact decide_eq_true (ordP_mem.2 (plcs_mem.1 hx))
theorem ordP_at (κ : Int → Int) (n : Nat) {i : Nat} (hi : i < n) : ∃ p : Nat, (ordP κ n).getD i 0 = (p : Int) ∧ p < n := by
  have hl := ordP_length κ n
  have hm : (ordP κ n).getD i 0 ∈ ordP κ n := by simp [List.getD_eq_getElem?_getD, hl, hi]
  have := ordP_mem.1 hm
  exact ⟨((ordP κ n).getD i 0).toNat, by omega, by omega⟩

theorem nums_one (w : World) (y : Int) : NumsAt .i64 (w.alloc (.cells #[.int .i64 y] 3)) (some ⟨w.heap.size, 0, none⟩) [y] := nums_block w [y]

theorem and15 (x : Int) : bits .and .i64 x 15 = x % 16 := and_mask x 4 (by omega)
/-- Numbers cut to 15. -/
def msk15 (xs : List Int) (k : Nat) : List Int := (xs.take k).map fun x => x % 16
theorem msk15_succ (xs : List Int) (k : Nat) (h : k < xs.length) : msk15 xs (k + 1) = msk15 xs k ++ [xs.getD k 0 % 16] := by
  unfold msk15
  rw [takeI_snoc xs k h, List.map_append]; rfl
theorem msk15_len (xs : List Int) (k : Nat) (h : k ≤ xs.length) : (msk15 xs k).length = k := by simp [msk15]; omega
theorem msk15_in (xs : List Int) (k : Nat) : ∀ x ∈ msk15 xs k, 0 ≤ x ∧ x < 16 := by
  intro x hx
  unfold msk15 at hx
  obtain ⟨y, -, rfl⟩ := List.mem_map.1 hx
  omega

end Go.Proofs.Ytdepncdknofocaa

/- The chapter's examples: awake; the contracts of few and of the document's Has and All. -/
import Derived.Test.YtdepncdknofocaaOI
set_option maxRecDepth 100000
namespace Go.Proofs.Ytdepncdknofocaa
open Go.RowKit
open M
attribute [local go_sem ↓] Go.wp_at_zero Go.wp_at_succ

theorem nums_block (w : World) (cs : List Int) : NumsAt .i64 (w.alloc (.cells ((cs.map (Value.int .i64)).toArray) 3)) (some ⟨w.heap.size, 0, none⟩) cs := by
  refine .inr ⟨w.heap.size, 0, rfl, by simp, fun j hj => ?_⟩
  rw [cell_new _ _ _ _ _ rfl]
  simp [List.getD_eq_getElem?_getD, hj]
theorem al (w : World) (o : Obj) : Below w.heap.size w (w.alloc o) := (Below.refl _ _).alloc (Nat.le_refl _) _

theorem ex_stable : ordP (kyI [2, 0, 2, 1]) 4 = [1, 3, 0, 2] := by decide
theorem ex_ranks : rnkL (kyI [7, 5, 7, 9]) 4 = [1, 0, 1, 2] := by decide
theorem ex_pairs : rnkL (kyP [1, 0, 1] [4, 9, 3]) 3 = [2, 0, 1] := by decide

/-- Has it each number below its length? -/
def allB (l : List Int) : Bool := (plcs l.length).all fun x => decide (x ∈ l)
end Go.Proofs.Ytdepncdknofocaa

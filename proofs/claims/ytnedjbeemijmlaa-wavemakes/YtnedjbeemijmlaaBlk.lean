/- The block of a slice that came in. -/
import Derived.Test.YtnedjbeemijmlaaWW
set_option maxRecDepth 100000
namespace Go.Proofs.Ytnedjbeemijmlaa
open Go.ChangeShapes Go.WideShapes Go.ChangeAt Go.RowKit

theorem blk_in {W : World} {base : Nat} {a0 : Option Addr} {len cap : Nat} {t e : TypeId} (ht : Try.prog.underlying t = some (.slice e)) (h : Value.okWide Try.prog W .any base t (.slice a0 len cap)) : ∀ b o, a0 = some ⟨b, o, none⟩ → b < W.heap.size := by
  intro b o ea
  subst ea
  simp only [Value.okWide, ht, Cell.okWide, Cell.ok] at h
  obtain ⟨_, _, h⟩ := h
  obtain ⟨_, _, row, cells, h, _⟩ := h
  by_cases hb : b < W.heap.size
  · exact hb
  · have hn : W.heap[b]? = none := by rw [Array.getElem?_eq_none_iff]; omega
    simp [World.shape?, hn] at h

end Go.Proofs.Ytnedjbeemijmlaa

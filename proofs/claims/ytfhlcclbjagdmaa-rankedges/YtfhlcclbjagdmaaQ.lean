/- A slice of bits that came in; the contract of few. -/
import Derived.Test.YtfhlcclbjagdmaaO
import Derived.ProofKit
import Derived.OpenShut
import Derived.ShutString
import Derived.ChangeOld
import Derived.Deep.Grids
namespace Go.Proofs.Ytfhlcclbjagdmaa
open Go.RowKit
open M

theorem own : ownKnob Try.prog.godebug = none := by kernel_rfl
theorem laidOut : laidOutB Try.prog = true := by kernel_rfl
theorem cells4 : Try.prog.cellsOf 4 = 1 := by kernel_rfl

/-- What the reading of an argument says of it. -/
theorem bools_in {H : Type} {enc : TypeId × Value → H} {W : World} {a0 : Option Addr} {len cap : Nat} {x : DataW H} {pl : List MemPlace}
    (h : DataW.Trod enc Try.prog W 0 (fun _ => true) true 22 (.slice a0 len cap) x pl) : ∃ l : List Bool, l.length = len ∧ len ≤ cap ∧ cap ≤ maxLen ∧ BoolsAt W a0 l := by
  obtain ⟨fuel, hf⟩ := h
  rcases Deep.open_bools Try.underlying22 Try.underlying4 cells4 hf with ⟨hcs, _⟩ | ⟨a, l, c, B, hcs, _, hl, hm, _, hcell⟩
  · simp [Value.cells] at hcs
    obtain ⟨rfl, rfl, rfl⟩ := hcs
    exact ⟨[], rfl, by omega, by unfold maxLen; omega, .inl rfl⟩
  · simp [Value.cells] at hcs
    obtain ⟨rfl, rfl, rfl⟩ := hcs
    refine ⟨(List.range len).map B, by simp, hl, hm, ?_⟩
    by_cases h0 : len = 0
    · subst h0; exact .inl rfl
    · obtain ⟨b, off, spot⟩ := a
      have hc0 := hcell 0 (by omega)
      have hspot : spot = none := by simpa [Addr.add] using World.cell?_spot hc0
      subst hspot
      have hlt := World.block_lt_of_cell? W _ hc0
      refine .inr ⟨b, off, rfl, by simpa [Addr.add] using hlt, fun j hj => ?_⟩
      have hj' : j < len := by simpa using hj
      have := hcell j (by omega)
      simp only [Addr.add] at this
      have e : (⟨b, off + j, none⟩ : Addr) = if j = 0 then ⟨b, off, none⟩ else ⟨b, off + j, none⟩ := by split <;> simp_all
      rw [e]
      simpa [hj'] using this

end Go.Proofs.Ytfhlcclbjagdmaa

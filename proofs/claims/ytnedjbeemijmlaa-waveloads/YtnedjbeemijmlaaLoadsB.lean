/- Slices of slices of bits that come in. -/
import Derived.Test.YtnedjbeemijmlaaLoadsA
import Derived.Deep.Slices
set_option maxRecDepth 100000
namespace Go.Proofs.Ytnedjbeemijmlaa
open Go.RowKit
open M

/-- Slices of bits lie at a, a cell each; their bits are ls. -/
def BBAt (w : World) (a : Option Addr) (ls : List (List Bool)) : Prop :=
  ls = [] ∨ ∃ g o, a = some ⟨g, o, none⟩ ∧ g < w.heap.size ∧ ∀ j, j < ls.length → ∃ b c, w.cell? ⟨g, o + j, none⟩ = some (.slice b (ls.getD j []).length c) ∧ (ls.getD j []).length ≤ c ∧ c ≤ maxLen ∧ BoolsAt w b (ls.getD j [])

theorem BBAt.kept {w w' : World} {a : Option Addr} {ls : List (List Bool)} (h : BBAt w a ls) (hb : Below w.heap.size w w') : BBAt w' a ls := by
  rcases h with h | ⟨g, o, h1, h2, h3⟩
  · exact .inl h
  · refine .inr ⟨g, o, h1, Nat.lt_of_lt_of_le h2 hb.size, fun j hj => ?_⟩
    obtain ⟨b, c, e1, e2, e3, e4⟩ := h3 j hj
    exact ⟨b, c, by rw [hb.cell (p := ⟨g, o + j, none⟩) h2]; exact e1, e2, e3, e4.kept hb⟩

theorem cells38 : Try.prog.cellsOf 38 = 1 := by kernel_rfl

theorem addr_add (b off j : Nat) : (⟨b, off, none⟩ : Addr).add j = ⟨b, off + j, none⟩ := by
  simp only [Addr.add]; split
  · rename_i h; simp_all
  · rfl

theorem boolss_in {H : Type} {enc : TypeId × Value → H} {W : World} {a0 : Option Addr} {len cap : Nat} {x : DataW H} {pl : List MemPlace}
    (h : DataW.Trod enc Try.prog W 0 (fun _ => true) true 35 (.slice a0 len cap) x pl) :
    ∃ ls : List (List Bool), ls.length = len ∧ len ≤ maxLen ∧ BBAt W a0 ls := by
  obtain ⟨fuel, hf⟩ := h
  rcases Deep.open_slice Try.underlying35 hf with ⟨hcs, _⟩ | ⟨a, l, c, m, n, D, Pl, hcs, _, hl, hm, hmm, _, hel⟩
  · simp [Value.cells] at hcs
    obtain ⟨rfl, rfl, rfl⟩ := hcs
    exact ⟨[], rfl, by unfold maxLen; omega, .inl rfl⟩
  · simp [Value.cells] at hcs
    obtain ⟨rfl, rfl, rfl⟩ := hcs
    simp only [if_true] at hmm
    have hall : ∀ i, ∃ L : List Bool, i < len → ∃ b c, W.cell? (a.add i) = some (.slice b L.length c) ∧ L.length ≤ c ∧ c ≤ maxLen ∧ BoolsAt W b L := by
      intro i
      by_cases hi : i < len
      · obtain ⟨cs, h1, h2⟩ := hel i (by omega)
        rw [cells38] at h1
        obtain ⟨_, hlen, hat⟩ := World.cells?_some h1
        match cs, hlen with
        | [u0], _ =>
          have g0 := hat 0 (by omega)
          rw [Deep.add_add] at g0
          simp only [Nat.mul_one, Nat.add_zero] at g0
          have hv : ∃ b k c, u0 = .slice b k c := by
            rcases Deep.open_bools Try.underlying38 Try.underlying4 cells4 h2 with ⟨hcs, _⟩ | ⟨a', l', c', B, hcs, _⟩
            · simp at hcs; exact ⟨_, _, _, hcs⟩
            · simp at hcs; exact ⟨_, _, _, hcs⟩
          obtain ⟨b, k, c, rfl⟩ := hv
          obtain ⟨L, e1, e2, e3, e4⟩ := bools_in (a0 := b) (len := k) (cap := c) ⟨_, h2⟩
          subst e1
          exact ⟨L, fun _ => ⟨b, c, g0, e2, e3, e4⟩⟩
      · exact ⟨[], fun h => absurd h hi⟩
    obtain ⟨f, hfun⟩ := Classical.axiomOfChoice hall
    refine ⟨(List.range len).map f, by simp, by omega, ?_⟩
    by_cases h0 : len = 0
    · subst h0; exact .inl rfl
    · obtain ⟨g, off, spot⟩ := a
      obtain ⟨b0, c0, hc0, -⟩ := hfun 0 (by omega)
      have hspot : spot = none := by simpa [Addr.add] using World.cell?_spot hc0
      subst hspot
      have hlt := World.block_lt_of_cell? W _ hc0
      refine .inr ⟨g, off, rfl, by simpa [Addr.add] using hlt, fun j hj => ?_⟩
      have hj' : j < len := by simpa using hj
      obtain ⟨b, c, e1, e2, e3, e4⟩ := hfun j hj'
      rw [addr_add] at e1
      have e : ((List.range len).map f).getD j [] = f j := by simp [List.getD_eq_getElem?_getD, hj']
      rw [e]
      exact ⟨b, c, e1, e2, e3, e4⟩

end Go.Proofs.Ytnedjbeemijmlaa

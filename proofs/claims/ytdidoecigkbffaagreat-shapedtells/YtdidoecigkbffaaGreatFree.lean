/- The walk of ShapedFree. -/
import Derived.Test.YtdidoecigkbffaaGreatWhole
set_option maxRecDepth 100000
namespace Go.Proofs.YtdidoecigkbffaaGreat
open Go.RowKit
open S J M
attribute [local go_sem ↓] Go.wp_at_zero Go.wp_at_succ

theorem bdN (w : World) (q : Nat) : Below w.heap.size w (w.drewN q) := ⟨rfl, rfl, rfl, Nat.le_refl _, fun _ _ => rfl⟩
theorem str_nil : (str []).toList.isEmpty = true := by rw [ByteArray.toList_eq]; rfl
theorem codF_nil (ys : List Hp) (c : Nat) : codF ys [] c = [] := rfl

/-- Who has a code. -/
theorem Cod.has {xs : List Int} {n : Nat} {ys : List Hp} {zs : List Int} (h : Cod xs n ys zs) {c : Nat} (hc : c < n) : codF ys zs c ≠ [] ↔ 0 < xs.getD c 0 ∧ 1 < YtdidoecigkbffaaGreat.many xs n := by
  have hm := h.many
  by_cases hl : 2 ≤ ys.length
  · have h1 := h.lenD hl hc
    have h2 := h.yo.dep_pos hl hc
    constructor
    · intro hne
      have := List.length_pos_iff.2 hne
      exact ⟨h2.1 (by omega), by omega⟩
    · intro hh e
      have := h2.2 hh.1
      rw [e] at h1
      simp at h1
      omega
  · rw [h.few (by omega), codF_nil]
    constructor
    · intro h; exact absurd rfl h
    · intro hh; omega
theorem pre_str {a b : List Bool} (h : ∀ s, b ≠ a ++ s) (_hl : (str a).size ≤ (str b).size) : (((str b).extract 0 (str a).size).toList == (str a).toList) = false := by
  rw [str_size, str_take, ByteArray.toList_eq, ByteArray.toList_eq]
  rw [beq_eq_false_iff_ne]
  intro e
  have e2 : str (b.take a.length) = str a := by
    have : (str (b.take a.length)).data = (str a).data := Array.toList_inj.1 e
    cases hx : str (b.take a.length)
    cases hy : str a
    rw [hx, hy] at this
    simp only at this
    rw [this]
  have e3 := str_inj e2
  exact h (b.drop a.length) (by conv => lhs; rw [← List.take_append_drop a.length b, e3])
theorem Cod.ord {xs : List Int} {n : Nat} {ys : List Hp} {zs : List Int} (h : Cod xs n ys zs) (hl : 2 ≤ ys.length) (hx : ∀ x ∈ xs, 0 ≤ x ∧ x < 1024) (hn : xs.length = n) {i k : Nat} (hi : i < n) (hk : k < n) (hp : 0 < xs.getD k 0) (hlt : xs.getD k 0 < xs.getD i 0) : (codF ys zs i).length ≤ (codF ys zs k).length := by
  rw [h.lenD hl hi, h.lenD hl hk]
  refine h.yo.order hl hi hk hp ?_
  have h1 := hx _ (memI xs i (by omega))
  have h2 := hx _ (memI xs k (by omega))
  have hb : big = 1152921504606846976 := rfl
  rw [hb]
  omega

end Go.Proofs.YtdidoecigkbffaaGreat

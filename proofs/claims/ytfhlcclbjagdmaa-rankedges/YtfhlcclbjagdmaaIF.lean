/- The contracts of List, and of the document's own answers: Same, Find, May, Row. -/
import Derived.Test.YtfhlcclbjagdmaaIE
namespace Go.Proofs.Ytfhlcclbjagdmaa
open Go.RowKit
open M

theorem info3 : (Try.prog.info? 3).map (fun i => (i.zero, i.size, i.bytes)) = some (some (.int .i64 0), 1, 8) := by kernel_rfl

/-- The first i numbers are written, those behind are 0. -/
def liCells (xs : List Int) (n i : Nat) : List Value := (List.range n).map fun k => Value.int .i64 (if k < i then xs.getD k 0 else 0)

theorem liCells_set (xs : List Int) (n i : Nat) : (liCells xs n i).set i (.int .i64 (xs.getD i 0)) = liCells xs n (i + 1) := by
  apply List.ext_getElem
  · simp [liCells]
  · intro j h1 h2
    simp only [liCells, List.getElem_set, List.getElem_map, List.getElem_range]
    by_cases e : i = j
    · subst e; simp
    · simp only [e, if_false]
      by_cases h : j < i
      · simp [h, show j < i + 1 by omega]
      · simp [h, show ¬ j < i + 1 by omega]

theorem liCells_all (xs : List Int) : liCells xs xs.length xs.length = xs.map (Value.int .i64) := by
  apply List.ext_getElem
  · simp [liCells]
  · intro j h1 h2
    simp only [List.length_map] at h2
    simp [liCells, h2, List.getD_eq_getElem?_getD]

theorem nums_of_own {k : IntKind} {w : World} {base : Nat} {e : TypeId} {v : Value} {n : Nat} {xs : List Int} (h : w.ownsRow base e 1 v n (xs.map (Value.int k))) : ∃ a cap, v = .slice a n cap ∧ NumsAt k w a xs ∧ xs.length = n ∧ n ≤ cap ∧ cap ≤ maxLen ∧ (a = none → cap = 0) := by
  have h' := h
  obtain ⟨h1, h2⟩ := h
  have hl : xs.length = n := by simpa using h1
  rcases h2 with ⟨rfl, hn⟩ | ⟨g, cap, cur, rfl, hg, hh, hc1, hc2, hc3, hc4⟩
  · subst hn
    exact ⟨none, 0, rfl, .inl (List.eq_nil_of_length_eq_zero hl), hl, Nat.le_refl _, by unfold maxLen; omega, fun _ => rfl⟩
  · refine ⟨_, cap, rfl, .inr ⟨g, 0, rfl, (World.ownsRow.lt h' g rfl).2, fun j hj => ?_⟩, hl, hc1, hc2, fun e => by simp at e⟩
    rw [Nat.zero_add, World.ownsRow.cellAt h' j (by omega)]
    simp [List.getD_eq_getElem?_getD, hj]

theorem IRow.kp {X : Nat → Prop} {w w' : World} {n W L : Nat} {a : Option Addr} {m c : Nat} {xs : List Int} (h : IRow w n W L a m c xs) (hb : Kp X w w') (hx : ∀ k, (Value.slice a m c).ownBlock = some k → ¬ X k) : IRow w' n W L a m c xs :=
  { h with row := row_kp h.row hb hx }

end Go.Proofs.Ytfhlcclbjagdmaa

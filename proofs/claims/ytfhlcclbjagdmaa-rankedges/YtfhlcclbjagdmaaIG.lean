/- awake answers true; the contract of few. -/
import Derived.Test.YtfhlcclbjagdmaaIF
namespace Go.Proofs.Ytfhlcclbjagdmaa
open Go.RowKit
open M

theorem wid_eq (n k : Nat) (h1 : n < 2 ^ (k + 1)) (h2 : 2 ^ k ≤ n) : wid n = k + 1 := by
  apply Nat.le_antisymm
  · exact (wid_le _ _).2 h1
  · rcases Nat.lt_or_ge (wid n) (k + 1) with h | h
    · have := (wid_le n k).1 (by omega); omega
    · exact h

/-- Two boxed rows of numbers of the call's own. -/
structure A2 (w : World) (bx nx Wx Lx : Nat) (ax : Option Addr) (mx cx : Nat) (xs : List Int) (b n W L : Nat) (a : Option Addr) (m c : Nat) (ys : List Int) (u : World) : Prop where
  bx : IBx u bx nx Wx Lx (.slice ax mx cx)
  rx : IRow u nx Wx Lx ax mx cx xs
  by' : IBx u b n W L (.slice a m c)
  ry : IRow u n W L a m c ys
  bel : Below w.heap.size w u

theorem A2.kept {w u u' : World} {bx nx Wx Lx : Nat} {ax : Option Addr} {mx cx : Nat} {xs : List Int} {b n W L : Nat} {a : Option Addr} {m c : Nat} {ys : List Int} (h : A2 w bx nx Wx Lx ax mx cx xs b n W L a m c ys u) (hb : Below u.heap.size u u') : A2 w bx nx Wx Lx ax mx cx xs b n W L a m c ys u' :=
  ⟨h.bx.kept hb, h.rx.kept hb, h.by'.kept hb, h.ry.kept hb, h.bel.trans (hb.mono h.bel.size)⟩

def X3 : List Int := [5, 1, 7]
def X4 : List Int := [1, 3, 4, 9]

theorem x3_fits : Fits X3 3 := by intro x hx; simp [X3] at hx; omega
theorem x4_fits : Fits X4 4 := by intro x hx; simp [X4] at hx; omega
theorem x4_64 : I64s X4 := by intro x hx; simp [X4] at hx; omega
theorem x4_wid : wid (mostI X4).toNat = 4 := by
  have e : (mostI X4).toNat = 9 := by decide
  rw [e]; exact wid_eq 9 3 (by decide) (by decide)
theorem x4_rises : Rises X4 := by
  intro i j hij hj
  simp only [X4, List.length_cons, List.length_nil] at hj
  match j, hj with
  | 0, _ => obtain rfl : i = 0 := by omega
            decide
  | 1, _ => rcases (show i = 0 ∨ i = 1 by omega) with rfl | rfl <;> decide
  | 2, _ => rcases (show i = 0 ∨ i = 1 ∨ i = 2 by omega) with rfl | rfl | rfl <;> decide
  | 3, _ => rcases (show i = 0 ∨ i = 1 ∨ i = 2 ∨ i = 3 by omega) with rfl | rfl | rfl | rfl <;> decide
theorem x3_bytes : bytI (rowB X3 3) (p8 9) = [205, 1] := by decide
theorem x4_find : findN X4 4 = 2 := by decide

theorem pack3 (u : World) (b : Nat) (h : ∀ j, j < 3 → u.cell? ⟨b, j, none⟩ = some (.int .i64 (X3.getD j 0))) (hb : b < u.heap.size) :
    Calls Try.prog 42 #[.slice (some ⟨b, 0, none⟩) 3 3, .int .i64 3] u fun e w' => ∃ g, e = .returned (.tuple #[.agg #[.int .i64 3, .int .i64 3, .int .i64 9, .slice (some ⟨g, 0, none⟩) 1 1], .int .i64 0]) ∧ IRow w' 3 3 9 (some ⟨g, 0, none⟩) 1 1 X3 ∧ Below u.heap.size u w' := by
  refine (pack_ok (some ⟨b, 0, none⟩) 3 3 X3 3 u (.inr ⟨b, 0, rfl, hb, fun j hj => by rw [Nat.zero_add]; exact h j hj⟩) rfl (by omega) (by omega) x3_fits).mono ?_
  rintro e w' ⟨g, rfl, hr, -, hbel⟩
  exact ⟨g, rfl, ⟨hr, rfl, rfl, x3_fits, by omega, by omega⟩, hbel⟩

theorem tight4 (u : World) (b : Nat) (h : ∀ j, j < 4 → u.cell? ⟨b, j, none⟩ = some (.int .i64 (X4.getD j 0))) (hb : b < u.heap.size) :
    Calls Try.prog 31 #[.slice (some ⟨b, 0, none⟩) 4 4] u fun e w' => ∃ g, e = .returned (.tuple #[.agg #[.int .i64 4, .int .i64 4, .int .i64 16, .slice (some ⟨g, 0, none⟩) 1 1], .int .i64 0]) ∧ IRow w' 4 4 16 (some ⟨g, 0, none⟩) 1 1 X4 ∧ Below u.heap.size u w' := by
  refine (tight_ok (some ⟨b, 0, none⟩) 4 4 X4 4 u (.inr ⟨b, 0, rfl, hb, fun j hj => by rw [Nat.zero_add]; exact h j hj⟩) rfl (by omega) x4_64 x4_wid (by omega) x4_fits).mono ?_
  rintro e w' ⟨g, rfl, hr, -, hbel⟩
  exact ⟨g, rfl, ⟨hr, rfl, rfl, x4_fits, by omega, by omega⟩, hbel⟩

end Go.Proofs.Ytfhlcclbjagdmaa

/- The contracts of the document's Rank, Below, Select, Most and May. -/
import Derived.Test.YtpnjccomngdblaaGreatBc
set_option maxRecDepth 100000
namespace Go.Proofs.YtpnjccomngdblaaGreat
open Go.RowKit
open M
attribute [local go_sem ↓] Go.wp_at_zero Go.wp_at_succ

theorem rkN_ge (b : Bool) (l : List Bool) (k : Nat) (h : l.length ≤ k) : rkN b l k = rkN b l l.length := by
  unfold rkN; rw [List.take_of_length_le h, List.take_length]

theorem selN_at (b : Bool) (l : List Bool) (k : Int) (i : Nat) (hi : i < l.length) (hb : l.getD i false = b) (hk : (rkN b l i : Int) = k) : selN b l k = (i : Int) := by
  have h1 := rkN_succ b l i hi
  rw [if_pos hb] at h1
  have h2 := rkN_mono b l (i + 1) l.length (by omega)
  unfold selN
  rw [if_pos (by omega), firstN_eq l.length _ i (by omega)]
  · intro j hj
    have := rkN_mono b l (j + 1) i (by omega)
    simp; omega
  · intro _
    simp; omega

theorem num_at {k : IntKind} {w : World} {a : Option Addr} {xs : List Int} (h : NumsAt k w a xs) {i : Nat} (hi : i < xs.length) : ∃ b off, a = some ⟨b, off, none⟩ ∧ b < w.heap.size ∧ w.cell? ⟨b, off + i, none⟩ = some (.int k (xs.getD i 0)) := by
  rcases h with rfl | ⟨b, off, h1, h2, h3⟩
  · simp at hi
  · exact ⟨b, off, h1, h2, h3 i hi⟩

/-- Of each of l whether it is c; whether it is less than c. -/
def eqs (l : List Int) (c : Int) : List Bool := l.map fun x => decide (x = c)
def lts (l : List Int) (c : Int) : List Bool := l.map fun x => decide (x < c)
theorem eqs_len (l : List Int) (c : Int) : (eqs l c).length = l.length := by simp [eqs]
theorem lts_len (l : List Int) (c : Int) : (lts l c).length = l.length := by simp [lts]
theorem eqs_at (l : List Int) (c : Int) (i : Nat) (h : i < l.length) : (eqs l c).getD i false = decide (l.getD i 0 = c) := by simp [eqs, List.getD_eq_getElem?_getD, h]
theorem lts_at (l : List Int) (c : Int) (i : Nat) (h : i < l.length) : (lts l c).getD i false = decide (l.getD i 0 < c) := by simp [lts, List.getD_eq_getElem?_getD, h]

/-- Which lists may be. -/
def mayB (l : List Int) (size : Int) : Bool := decide (1 ≤ size) && decide (size ≤ 65536) && l.all fun x => decide (0 ≤ x) && decide (x < size)

end Go.Proofs.YtpnjccomngdblaaGreat

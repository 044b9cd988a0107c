/- Rows of bits in memory; the contracts of Len, Get, One. -/
import Derived.Test.YtilfjdmgeflagaaE
import Derived.Deep.AppendLies
namespace Go.Proofs.Ytilfjdmgeflagaa
open Go.RowKit
open M

/-- The first m words of a row. -/
def wlN (l : List Bool) (m : Nat) : List Value := (List.range m).map fun k => Value.int .u64 (wd l k : Nat)

/-- The words of the row l lie at s. -/
def RowAt (w : World) (s : Value) (l : List Bool) : Prop := w.ownsRow 0 62 1 s (nw l.length) (wlN l (nw l.length))

theorem Below.grownBy {w w' : World} (h : Below w.heap.size w w') (row : Option Nat) : w.grownBy w' row :=
  ⟨h.os, h.tape, h.output, h.size, fun k hk _ => h.block k hk⟩

theorem below_grown {w w' : World} (h : w.grownBy w' none) : Below w.heap.size w w' :=
  ⟨h.os, h.tape, h.output, h.size, fun k hk => h.block k hk (by simp)⟩

theorem RowAt.kept {w w' : World} {s : Value} {l : List Bool} (h : RowAt w s l) (hb : Below w.heap.size w w') : RowAt w' s l := by
  refine World.ownsRow.kept h (Below.grownBy hb none) ?_
  cases hs : s.ownBlock with
  | none => exact .inl rfl
  | some k => exact .inr (by simp)

theorem RowAt.form {w : World} {s : Value} {l : List Bool} (h : RowAt w s l) :
    (l = [] ∧ s = .slice none 0 0) ∨ ∃ g cap, s = .slice (some ⟨g, 0, none⟩) (nw l.length) cap ∧ nw l.length ≤ cap ∧ cap ≤ maxLen ∧ g < w.heap.size ∧ ∀ k, k < nw l.length → w.cell? ⟨g, k, none⟩ = some (.int .u64 (wd l k : Nat)) := by
  have h' := h
  obtain ⟨h1, h2⟩ := h
  rcases h2 with ⟨rfl, hn⟩ | ⟨g, cap, cur, rfl, hg, hh, hc1, hc2, hc3, hc4⟩
  · refine .inl ⟨?_, rfl⟩
    unfold nw at hn
    exact List.eq_nil_of_length_eq_zero (by omega)
  · refine .inr ⟨g, cap, rfl, hc1, hc2, ?_, ?_⟩
    · exact (World.ownsRow.lt h' g rfl).2
    · intro k hk
      rw [World.ownsRow.cellAt h' k (by omega)]
      simp [wlN, hk]

theorem Row_nil (w : World) : RowAt w (.slice none 0 0) [] := World.ownsRow_nil _ _ _ _

def getB (l : List Bool) (i : Int) : Bool := decide (0 ≤ i) && l.getD i.toNat false

theorem bit_eq (x j : Nat) (h : x < 2 ^ 64) : (bits .and .u64 ((x : Int) / 2 ^ j) 1 == 1) = x.testBit j := by
  have e : (x : Int) / 2 ^ j = ((x / 2 ^ j : Nat) : Int) := by
    rw [Int.natCast_ediv]; simp
  have hd : x / 2 ^ j < 2 ^ 64 := Nat.lt_of_le_of_lt (Nat.div_le_self _ _) h
  have e2 : bits .and .u64 ((x / 2 ^ j : Nat) : Int) 1 = ((x / 2 ^ j &&& 1 : Nat) : Int) := andU _ 1 hd (by decide)
  rw [e, e2, Nat.and_one_is_mod, Nat.testBit_eq_decide_div_mod_eq]
  rw [Bool.eq_iff_iff]
  simp
  omega

theorem ret_tup {b c : Bool} {v : Value} (h : b = c) : Ending.returned (.tuple #[.bool b, v]) = .returned (.tuple #[.bool c, v]) := by rw [h]

def oneI (l : List Bool) (i : Int) : Int := if getB l i then 1 else 0

theorem boxed (w : World) (n : Nat) (s : Value) : Below w.heap.size w (w.alloc (.cells #[.int .i64 (n : Int), s] 29)) := (Below.refl _ _).alloc (Nat.le_refl _) _

end Go.Proofs.Ytilfjdmgeflagaa

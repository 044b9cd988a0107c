/- The contract of Bytes. -/
import Derived.Test.YtfhlcclbjagdmaaD
import Derived.Laws.BytesArg
namespace Go.Proofs.Ytfhlcclbjagdmaa
open Go.RowKit
open M

theorem info5 : (Try.prog.info? 5).map (fun i => (i.zero, i.size, i.bytes)) = some (some (.int .u8 0), 1, 1) := by kernel_rfl

/-- Byte i of a row. -/
def byt (l : List Bool) (i : Nat) : Nat := num ((l.drop (8 * i)).take 8)
/-- The bytes of a row, as numbers. -/
def bytI (l : List Bool) (i : Nat) : List Int := (List.range i).map fun k => (byt l k : Int)

theorem byt_lt (l : List Bool) (i : Nat) : byt l i < 256 := by
  have h := num_lt ((l.drop (8 * i)).take 8)
  have h2 : (2 : Nat) ^ ((l.drop (8 * i)).take 8).length ≤ 2 ^ 8 := Nat.pow_le_pow_right (by decide) (by simp; omega)
  exact Nat.lt_of_lt_of_le h h2

theorem byt_wd (l : List Bool) (i : Nat) : wd l (i * 8 / 64) / 2 ^ (i * 8 % 64) % 256 = byt l i := by
  have h := wd_piece l (i * 8) 8 (by omega)
  rw [show (2 : Nat) ^ 8 - 1 = 2 ^ 8 - 1 from rfl, Nat.and_two_pow_sub_one_eq_mod] at h
  rw [byt, Nat.mul_comm 8 i]
  exact h

theorem byt_int (l : List Bool) (i : Nat) : (wd l (i * 8 / 64) : Int) / 2 ^ (i * 8 % 64) % 256 = (byt l i : Int) := by
  have e : (wd l (i * 8 / 64) : Int) / 2 ^ (i * 8 % 64) = ((wd l (i * 8 / 64) / 2 ^ (i * 8 % 64) : Nat) : Int) := by
    rw [Int.natCast_ediv]; simp
  rw [e, ← byt_wd l i]
  omega

/-- The cells of the first i bytes are written, those behind are 0. -/
def byCells (l : List Bool) (n i : Nat) : List Value := (List.range n).map fun k => Value.int .u8 (if k < i then (byt l k : Int) else 0)

theorem byCells_set (l : List Bool) (n i : Nat) : (byCells l n i).set i (.int .u8 (byt l i : Int)) = byCells l n (i + 1) := by
  apply List.ext_getElem
  · simp [byCells]
  · intro j h1 h2
    simp only [byCells, List.getElem_set, List.getElem_map, List.getElem_range]
    by_cases e : i = j
    · subst e; simp
    · simp only [e, if_false]
      by_cases h : j < i
      · simp [h, show j < i + 1 by omega]
      · simp [h, show ¬ j < i + 1 by omega]

end Go.Proofs.Ytfhlcclbjagdmaa

/- The contracts of the document's own answers: Number, Bytes. -/
import Derived.Test.YtfhlcclbjagdmaaT
namespace Go.Proofs.Ytfhlcclbjagdmaa
open Go.RowKit
open M

theorem num_snoc (l : List Bool) (a i : Nat) (h : a + i < l.length) : num ((l.drop a).take (i + 1)) = num ((l.drop a).take i) + if l.getD (a + i) false = true then 2 ^ i else 0 := by
  rw [take_snoc (l.drop a) i _ (by simp; omega) rfl, num_append]
  have e : (l.drop a).getD i false = l.getD (a + i) false := by simp [List.getD_eq_getElem?_getD]
  rw [e]
  have hl : ((l.drop a).take i).length = i := by simp; omega
  rw [hl]
  simp only [num]
  split <;> simp

theorem num_take_lt (l : List Bool) (a i : Nat) : num ((l.drop a).take i) < 2 ^ i :=
  Nat.lt_of_lt_of_le (num_lt _) (Nat.pow_le_pow_right (by decide) (by simp; omega))

def pw (i : Nat) : Nat := 2 ^ i % 18446744073709551616

theorem pw_lt (i : Nat) : pw i < 18446744073709551616 := Nat.mod_lt _ (by decide)
theorem pw_eq (i : Nat) (h : i < 64) : pw i = 2 ^ i := Nat.mod_eq_of_lt (show 2 ^ i < 2 ^ 64 from Nat.pow_lt_pow_right (by decide) h)
theorem pw_succ (i : Nat) : IntKind.u64.wrap ((pw i : Int) * 2) = (pw (i + 1) : Int) := by
  rw [IntKind.wrap_u64]; unfold pw; rw [Nat.pow_succ]; omega
theorem pw_add (l : List Bool) (a i : Nat) (h : i < 64) : IntKind.u64.wrap ((num ((l.drop a).take i) : Int) + (pw i : Int)) = (num ((l.drop a).take i) : Int) + (pw i : Int) := by
  have h1 := num_take_lt l a i
  have h2 := pw_eq i h
  have h3 : (2 : Nat) ^ i * 2 ≤ 2 ^ 64 := by rw [← Nat.pow_succ]; exact Nat.pow_le_pow_right (by decide) (by omega)
  rw [IntKind.wrap_u64]; omega

/-- A bit behind: what becomes of the bytes. -/
theorem byt_snoc (l : List Bool) (b : Bool) (k : Nat) : byt (l ++ [b]) k = byt l k + if k = l.length / 8 ∧ b = true then 2 ^ (l.length % 8) else 0 := by
  unfold byt
  by_cases h1 : l.length < 8 * k
  · rw [List.drop_eq_nil_of_le (by simp; omega), List.drop_eq_nil_of_le (by omega), if_neg (by omega)]
    rfl
  · rw [List.drop_append_of_le_length (by omega)]
    by_cases h2 : 8 * k + 8 ≤ l.length
    · rw [List.take_append_of_le_length (by simp; omega), if_neg (by omega)]
      simp
    · have hl : (l.drop (8 * k)).length = l.length % 8 := by simp; omega
      rw [List.take_of_length_le (by simp; omega), List.take_of_length_le (by omega), num_append, hl]
      have hk : k = l.length / 8 := by omega
      simp only [num, hk, true_and]
      split <;> simp

theorem byt_snoc_lt (l : List Bool) (b : Bool) (k : Nat) (_h : b = true) : byt (l ++ [b]) k < 256 := byt_lt _ _

def byL (l : List Bool) (n : Nat) : List Value := (List.range n).map fun k => Value.int .u8 (byt l k : Nat)

theorem byL_set (l : List Bool) (n k : Nat) (hk : k = l.length / 8) : (byL l n).set k (.int .u8 (byt (l ++ [true]) k : Nat)) = byL (l ++ [true]) n := by
  apply List.ext_getElem
  · simp [byL]
  · intro j h1 h2
    simp only [byL, List.getElem_set, List.getElem_map, List.getElem_range]
    by_cases e : k = j
    · subst e; simp
    · simp only [e, if_false]
      rw [byt_snoc, if_neg (by omega)]
      simp

theorem byL_false (l : List Bool) (n : Nat) : byL (l ++ [false]) n = byL l n := by simp [byL, byt_snoc]

theorem byte_add (l : List Bool) (k q : Nat) (hk : k = l.length / 8) (hq : q = l.length % 8) : ((byt l k : Int) + 2 ^ q) % 256 = (byt (l ++ [true]) k : Int) := by
  have h := byt_snoc l true k
  rw [if_pos ⟨hk, rfl⟩, ← hq] at h
  have h2 := byt_lt (l ++ [true]) k
  have e : ((2 : Int) ^ q) = ((2 ^ q : Nat) : Int) := by simp
  rw [e]
  omega

end Go.Proofs.Ytfhlcclbjagdmaa

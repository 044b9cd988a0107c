/- The contract of the document's Read. -/
import Derived.Test.YtfhlcclbjagdmaaV
namespace Go.Proofs.Ytfhlcclbjagdmaa
open Go.RowKit
open M

theorem bit8_eq (x j : Nat) (h : x < 256) : (bits .and .u8 ((x : Int) / 2 ^ j) 1 == 1) = x.testBit j := by
  have e : (x : Int) / 2 ^ j = ((x / 2 ^ j : Nat) : Int) := by
    rw [Int.natCast_ediv]; simp
  have hd : x / 2 ^ j < 256 := Nat.lt_of_le_of_lt (Nat.div_le_self _ _) h
  have e2 : bits .and .u8 ((x / 2 ^ j : Nat) : Int) 1 = ((x / 2 ^ j &&& 1 : Nat) : Int) := u8_and_nat _ 1 hd (by decide)
  rw [e, e2, Nat.and_one_is_mod, Nat.testBit_eq_decide_div_mod_eq]
  rw [Bool.eq_iff_iff]
  simp
  omega

theorem sBits_snoc (s : ByteArray) (i : Nat) : sBits s (i + 1) = sBits s i ++ [(sB s (i / 8)).testBit (i % 8)] := by
  simp [sBits, List.range_succ]

theorem byt_bit (l : List Bool) (k j : Nat) : (byt l k).testBit j = if j < 8 then l.getD (8 * k + j) false else false := by
  rw [byt, num_testBit]
  simp only [List.getD_eq_getElem?_getD, List.getElem?_take, List.getElem?_drop]
  split <;> simp

theorem byt_clean (s : ByteArray) (n k : Nat) (h : s.size = p8 n) (hc : Clean s n) (hk : k < s.size) : byt (sBits s n) k = sB s k := by
  apply Nat.eq_of_testBit_eq
  intro j
  rw [byt_bit]
  by_cases hj : j < 8
  · rw [if_pos hj]
    by_cases h1 : 8 * k + j < n
    · rw [sBits_getD _ _ _ h1, show (8 * k + j) / 8 = k by omega, show (8 * k + j) % 8 = j by omega]
    · have := clean_bits s n h hc (8 * k + j) (by omega) (by omega)
      rw [show (8 * k + j) / 8 = k by omega, show (8 * k + j) % 8 = j by omega] at this
      rw [this, List.getD_eq_getElem?_getD, List.getElem?_eq_none (by rw [sBits_length]; omega)]; rfl
  · rw [if_neg hj]
    symm
    apply Nat.testBit_lt_two_pow
    exact Nat.lt_of_lt_of_le (sB_lt s k) (show 2 ^ 8 ≤ 2 ^ j from Nat.pow_le_pow_right (by decide) (by omega))

theorem str_list (s : ByteArray) (xs : List Nat) (hx : ∀ x ∈ xs, x < 256) : strOfNums (xs.map fun k : Nat => (k : Int)) = s ↔ xs = (List.range s.size).map (sB s) := by
  have hsz : s.data.toList.length = s.size := by simp
  have hsl : s.data.toList.map (·.toNat) = (List.range s.size).map (sB s) := by
    apply List.ext_getElem
    · simp [hsz]
    · intro i h1 h2
      simp only [List.length_map] at h1
      simp [sB, List.getD_eq_getElem?_getD, List.getElem?_eq_getElem h1]
  have hmap : (strOfNums (xs.map fun k : Nat => (k : Int))).data.toList.map (·.toNat) = xs := by
    rw [strOfNums_data]
    simp only [List.map_map]
    apply List.ext_getElem
    · simp
    · intro i h1 h2
      simp only [List.getElem_map, Function.comp]
      have := hx xs[i] (List.getElem_mem _)
      simp [UInt8.toNat_ofNat', Nat.mod_eq_of_lt this]
  constructor
  · intro h
    rw [h, hsl] at hmap
    exact hmap.symm
  · intro h
    have e : (strOfNums (xs.map fun k : Nat => (k : Int))).data.toList.map (·.toNat) = s.data.toList.map (·.toNat) := by rw [hmap, hsl, h]
    have e2 : (strOfNums (xs.map fun k : Nat => (k : Int))).data.toList = s.data.toList := by
      apply List.ext_getElem
      · have := congrArg List.length e; simpa using this
      · intro i h1 h2
        have := congrArg (fun l => l[i]?) e
        simp only [List.getElem?_map, List.getElem?_eq_getElem h1, List.getElem?_eq_getElem h2, Option.map_some, Option.some.injEq] at this
        exact UInt8.toNat_inj.1 this
    have e3 : (strOfNums (xs.map fun k : Nat => (k : Int))).data = s.data := by
      apply Array.ext'
      exact e2
    cases s; cases hq : strOfNums (xs.map fun k : Nat => (k : Int))
    rw [hq] at e3
    simp only at e3
    rw [e3]

theorem clean_str (s : ByteArray) (n : Nat) (h : s.size = p8 n) : strOfNums (bytI (sBits s n) (p8 n)) = s ↔ Clean s n := by
  have e : bytI (sBits s n) (p8 n) = ((List.range (p8 n)).map (byt (sBits s n))).map fun k : Nat => (k : Int) := by simp [bytI]
  rw [e, str_list s _ (by
    intro x hx
    obtain ⟨k, -, rfl⟩ := List.mem_map.1 hx
    exact byt_lt _ _), ← h]
  constructor
  · intro hh
    by_cases h8 : n % 8 = 0
    · exact .inl h8
    · have hpos : 0 < s.size := by rw [h]; unfold p8; omega
      have := congrArg (fun l => l[s.size - 1]?) hh
      have hlt : s.size - 1 < s.size := by omega
      simp [hlt] at this
      right
      rw [← this]
      apply Nat.div_eq_of_lt
      have hn := num_lt (((sBits s n).drop (8 * (s.size - 1))).take 8)
      refine Nat.lt_of_lt_of_le hn (Nat.pow_le_pow_right (by decide) ?_)
      simp only [List.length_take, List.length_drop, sBits_length]
      unfold p8 at h
      omega
  · intro hc
    apply List.map_congr_left
    intro k hk
    exact byt_clean s n k h hc (by simpa using hk)

theorem toList_ne {A s : ByteArray} (h : A ≠ s) : (A.toList == s.toList) = false := by
  rw [beq_eq_false_iff_ne]
  intro e
  rw [ByteArray.toList_eq, ByteArray.toList_eq] at e
  have e2 : A.data = s.data := Array.ext' e
  cases A; cases s
  simp only at e2
  exact h (by rw [e2])

def RPost (n : Nat) (s : ByteArray) (w : World) (e : Ending) (w' : World) : Prop :=
  ((Clean s n ∧ ∃ a c, e = .returned (.tuple #[.slice a n c, .int .i64 0]) ∧ BoolsAt w' a (sBits s n)) ∨ (¬ Clean s n ∧ e = .returned (.tuple #[.slice none 0 0, .int .i64 10]))) ∧ Below w.heap.size w w'

end Go.Proofs.Ytfhlcclbjagdmaa

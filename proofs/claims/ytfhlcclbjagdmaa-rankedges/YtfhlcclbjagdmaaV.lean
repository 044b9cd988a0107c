/- The contracts of Read and of the document's Read. -/
import Derived.Test.YtfhlcclbjagdmaaU
namespace Go.Proofs.Ytfhlcclbjagdmaa
open Go.RowKit
open M

/-- Byte k of a string. -/
def sB (s : ByteArray) (k : Nat) : Nat := (s.data.toList.getD k 0).toNat
theorem sB_lt (s : ByteArray) (k : Nat) : sB s k < 256 := UInt8.toNat_lt _
theorem sB_get (s : ByteArray) (k : Nat) (h : k < s.size) : s[k].toNat = sB s k := by
  have h2 : k < s.data.toList.length := by simpa using h
  simp only [sB, List.getD_eq_getElem?_getD, List.getElem?_eq_getElem h2, Option.getD_some]
  rfl

/-- The first n bits of a string. -/
def sBits (s : ByteArray) (n : Nat) : List Bool := (List.range n).map fun i => (sB s (i / 8)).testBit (i % 8)
theorem sBits_length (s : ByteArray) (n : Nat) : (sBits s n).length = n := by simp [sBits]
theorem sBits_getD (s : ByteArray) (n i : Nat) (h : i < n) : (sBits s n).getD i false = (sB s (i / 8)).testBit (i % 8) := by
  simp [sBits, List.getD_eq_getElem?_getD, h]

theorem bits8 (s : ByteArray) (i : Nat) : sBits s (8 * (i + 1)) = sBits s (8 * i) ++ bitsOf (sB s i) 8 := by
  apply List.ext_getElem
  · simp [sBits, bitsOf_length]; omega
  · intro j h1 h2
    simp only [sBits_length] at h1
    rw [List.getElem_append]
    by_cases hj : j < 8 * i
    · simp [sBits, hj]
    · have h3 := bitsOf_getD (sB s i) 8 (j - 8 * i) (by omega)
      simp only [sBits_length, hj, dif_neg, not_false_eq_true]
      have h4 : j - 8 * i < (bitsOf (sB s i) 8).length := by rw [bitsOf_length]; omega
      rw [List.getD_eq_getElem?_getD, List.getElem?_eq_getElem h4, Option.getD_some] at h3
      rw [h3]
      simp only [sBits, List.getElem_map, List.getElem_range]
      rw [show j / 8 = i by omega, show j % 8 = j - 8 * i by omega]

theorem num8 (s : ByteArray) (i : Nat) : num (bitsOf (sB s i) 8) = sB s i := num_bitsOf _ _ (sB_lt s i)

/-- No bit is 1 from n on, up to the last byte's end. -/
def Clean (s : ByteArray) (n : Nat) : Prop := n % 8 = 0 ∨ sB s (s.size - 1) / 2 ^ (n % 8) = 0

theorem clean_bits (s : ByteArray) (n : Nat) (h : s.size = p8 n) (hc : Clean s n) (i : Nat) (h1 : n ≤ i) (h2 : i < 8 * s.size) : (sB s (i / 8)).testBit (i % 8) = false := by
  unfold p8 at h
  rcases hc with hc | hc
  · omega
  · have e : i / 8 = s.size - 1 := by omega
    rw [e]
    have hlt : sB s (s.size - 1) < 2 ^ (n % 8) := by
      rcases Nat.lt_or_ge (sB s (s.size - 1)) (2 ^ (n % 8)) with h | h
      · exact h
      · have := Nat.div_pos h (Nat.pow_pos (by decide)); omega
    apply Nat.testBit_lt_two_pow
    exact Nat.lt_of_lt_of_le hlt (Nat.pow_le_pow_right (by decide) (by omega))

theorem wd_clean (s : ByteArray) (n k : Nat) (h : s.size = p8 n) (hc : Clean s n) : wd (sBits s (8 * s.size)) k = wd (sBits s n) k := by
  apply Nat.eq_of_testBit_eq
  intro j
  by_cases hj : j < 64
  · rw [wd_bit _ _ _ hj, wd_bit _ _ _ hj]
    by_cases h1 : 64 * k + j < n
    · rw [sBits_getD _ _ _ h1, sBits_getD _ _ _ (by unfold p8 at h; omega)]
    · rw [show (sBits s n).getD (64 * k + j) false = false by rw [List.getD_eq_getElem?_getD, List.getElem?_eq_none (by rw [sBits_length]; omega)]; rfl]
      by_cases h2 : 64 * k + j < 8 * s.size
      · rw [sBits_getD _ _ _ h2]; exact clean_bits s n h hc _ (by omega) h2
      · rw [List.getD_eq_getElem?_getD, List.getElem?_eq_none (by rw [sBits_length]; omega)]; rfl
  · rw [wd_bit_ge _ _ _ (by omega), wd_bit_ge _ _ _ (by omega)]

theorem wrapB (x : UInt8) : IntKind.u64.wrap (x.toNat : Int) = (x.toNat : Int) := wrapU _ (Nat.lt_trans x.toNat_lt (by decide))

/-- What holds while bytes are read. -/
def ReadI (w : World) (s : ByteArray) (m i : Nat) (wr : World) : Prop :=
  wr.ownsRow 0 47 1 (.slice (some ⟨w.heap.size + 1, 0, none⟩) m m) m (wlN (sBits s (8 * i)) m) ∧ wr.cell? ⟨w.heap.size, 0, none⟩ = some (.int .i64 0) ∧ wr.cell? ⟨w.heap.size, 1, none⟩ = some (.slice none 0 0) ∧
    wr.frozen? ⟨w.heap.size, 0, none⟩ = false ∧ wr.frozen? ⟨w.heap.size, 1, none⟩ = false ∧ Below w.heap.size w wr
theorem ReadI.drew {w wr : World} {s : ByteArray} {m i : Nat} (h : ReadI w s m i wr) : ReadI w s m i wr.drew := by
  obtain ⟨r1, r2, r3, r4, r5, r6⟩ := h
  exact ⟨r1, r2, r3, r4, r5, r6.drew⟩

end Go.Proofs.Ytfhlcclbjagdmaa

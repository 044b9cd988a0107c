/- Numbers by their digits: the contracts of bits and of the closure that sorted hands on. -/
import Derived.Test.YtdepncdknofocaaOC
import Derived.Laws.Bits64
import Derived.Laws.Bits64b
set_option maxRecDepth 100000
namespace Go.Proofs.Ytdepncdknofocaa
open Go.RowKit
open M

/-- A number's bits; turned so that numbers below 0 are less. -/
def vN (x : Int) : Nat := (x % 18446744073709551616).toNat
def uN (x : Int) : Nat := vN x ^^^ 9223372036854775808

theorem vN_lt (x : Int) : vN x < 18446744073709551616 := by unfold vN; omega
theorem uN_lt (x : Int) : uN x < 18446744073709551616 := by
  have := vN_lt x
  exact Nat.xor_lt_two_pow (n := 64) (by omega) (by omega)
theorem top_xor (q r : Nat) (hr : r < 2 ^ 63) : (2 ^ 63 * q + r) ^^^ 2 ^ 63 = 2 ^ 63 * (q ^^^ 1) + r := by
  apply Nat.eq_of_testBit_eq
  intro i
  have e := fun (y x : Nat) (h : x < 2 ^ 63) => Nat.testBit_two_pow_mul_add y h i
  rw [Nat.testBit_xor, show (2 : Nat) ^ 63 = 2 ^ 63 * 1 + 0 by omega, e 1 0 (by decide), show 2 ^ 63 * 1 + 0 = 2 ^ 63 by decide, e q r hr, e (q ^^^ 1) r hr]
  split <;> simp [Nat.testBit_xor]
theorem uN_eq (x : Int) (h1 : -9223372036854775808 ≤ x) (h2 : x ≤ 9223372036854775807) : (uN x : Int) = x + 9223372036854775808 := by
  unfold uN
  by_cases hx : 0 ≤ x
  · have e : vN x = 2 ^ 63 * 0 + x.toNat := by unfold vN; omega
    rw [e, show (9223372036854775808 : Nat) = 2 ^ 63 by decide, top_xor 0 x.toNat (by omega), show (0 : Nat) ^^^ 1 = 1 by decide]
    omega
  · have e : vN x = 2 ^ 63 * 1 + (x + 9223372036854775808).toNat := by unfold vN; omega
    rw [e, show (9223372036854775808 : Nat) = 2 ^ 63 by decide, top_xor 1 _ (by omega), show (1 : Nat) ^^^ 1 = 0 by decide]
    omega
theorem xor_top (x : Int) : bits .xor .u64 (IntKind.u64.wrap x) 9223372036854775808 = (uN x : Int) := by
  have e : IntKind.u64.wrap x = (vN x : Int) := by rw [IntKind.wrap_u64]; unfold vN; omega
  rw [e]
  exact bits_xor_u64_nat _ _ (vN_lt x) (by decide)
theorem xor_two (x y : Int) : IntKind.u64.wrap (bits .xor .i64 x y) = ((vN x ^^^ vN y : Nat) : Int) := by
  have hv : ∀ z : Int, (BitVec.ofInt 64 z).toNat = vN z := fun z => by rw [BitVec.toNat_ofInt]; rfl
  show IntKind.u64.wrap (IntKind.i64.wrap ((BitVec.ofInt 64 x ^^^ BitVec.ofInt 64 y).toNat : Nat)) = _
  rw [BitVec.toNat_xor, hv, hv]
  have := Nat.xor_lt_two_pow (n := 64) (vN_lt x) (vN_lt y)
  rw [IntKind.wrap_u64, IntKind.wrap_i64]
  omega

/-- Where keys are unlike the first one. -/
def dif (keys : List Int) : Nat → Nat
  | 0 => 0
  | i + 1 => dif keys i ||| (vN (keys.getD i 0) ^^^ vN (keys.getD 0 0))
theorem dif_lt (keys : List Int) (i : Nat) : dif keys i < 18446744073709551616 := by
  induction i with
  | zero => exact (by decide : (0 : Nat) < 18446744073709551616)
  | succ i ih => exact Nat.or_lt_two_pow (n := 64) ih (Nat.xor_lt_two_pow (n := 64) (vN_lt _) (vN_lt _))
theorem dif_int (keys : List Int) (i : Nat) : bits .or .u64 (dif keys i : Nat) (IntKind.u64.wrap (bits .xor .i64 (keys.getD i 0) (keys.getD 0 0))) = (dif keys (i + 1) : Nat) := by
  rw [xor_two]
  exact bits_or_u64_nat _ _ (dif_lt _ _) (Nat.xor_lt_two_pow (n := 64) (vN_lt _) (vN_lt _))
theorem dif_bit (keys : List Int) (b : Nat) : ∀ i, (dif keys i).testBit b = false → ∀ j, j < i → (uN (keys.getD j 0)).testBit b = (uN (keys.getD 0 0)).testBit b := by
  intro i
  induction i with
  | zero => intro _ j hj; omega
  | succ i ih =>
    intro h j hj
    have h' : (dif keys i ||| (vN (keys.getD i 0) ^^^ vN (keys.getD 0 0))).testBit b = false := h
    rw [Nat.testBit_or, Nat.testBit_xor] at h'
    by_cases e : j = i
    · subst e
      have h2 : ((vN (keys.getD j 0)).testBit b ^^ (vN (keys.getD 0 0)).testBit b) = false := by
        cases hx : (dif keys j).testBit b
        · rw [hx] at h'; simpa using h'
        · rw [hx] at h'; simp at h'
      unfold uN
      rw [Nat.testBit_xor, Nat.testBit_xor]
      have : (vN (keys.getD j 0)).testBit b = (vN (keys.getD 0 0)).testBit b := by
        cases h3 : (vN (keys.getD j 0)).testBit b <;> cases h4 : (vN (keys.getD 0 0)).testBit b <;> rw [h3, h4] at h2 <;> simp at h2 ⊢
      rw [this]
    · refine ih ?_ j (by omega)
      cases hx : (dif keys i).testBit b
      · rfl
      · rw [hx] at h'; simp at h'
/-- What is above is alike for all. -/
theorem dif_end (keys : List Int) (n s : Nat) (h : dif keys n / 2 ^ s = 0) (j : Nat) (hj : j < n) : uN (keys.getD j 0) / 2 ^ s = uN (keys.getD 0 0) / 2 ^ s := by
  apply Nat.eq_of_testBit_eq
  intro i
  rw [Nat.testBit_div_two_pow, Nat.testBit_div_two_pow]
  refine dif_bit keys _ n ?_ j hj
  rw [← Nat.testBit_div_two_pow, h, Nat.zero_testBit]
/-- A digit is alike for all. -/
theorem dif_dig (keys : List Int) (n s : Nat) (h : dif keys n / 2 ^ s % 256 = 0) (j : Nat) (hj : j < n) : uN (keys.getD j 0) / 2 ^ s % 256 = uN (keys.getD 0 0) / 2 ^ s % 256 := by
  rw [show (256 : Nat) = 2 ^ 8 from rfl] at h ⊢
  apply Nat.eq_of_testBit_eq
  intro i
  rw [Nat.testBit_mod_two_pow, Nat.testBit_mod_two_pow]
  by_cases hi : i < 8
  · rw [Nat.testBit_div_two_pow, Nat.testBit_div_two_pow]
    congr 1
    refine dif_bit keys _ n ?_ j hj
    have h2 := Nat.testBit_mod_two_pow (dif keys n / 2 ^ s) 8 i
    rw [h, Nat.zero_testBit, decide_eq_true hi, Bool.true_and, Nat.testBit_div_two_pow] at h2
    exact h2.symm
  · simp [hi]

theorem bits_any (x : Int) (w : World) : Calls Try.prog 51 #[.int .i64 x] w fun e w' => e = .returned (.int .u64 (uN x : Nat)) ∧ w' = w := by
  have h := xor_top x
  go_enter Try.func51, Try.ntmps51
  go_wp2
  go_ret
  exact ⟨rfl, rfl⟩

/-- The digit of the key at a place, behind so many bits. -/
def dgt (keys : List Int) (s : Nat) (x : Int) : Nat := uN (keys.getD x.toNat 0) / 2 ^ s % 256

theorem digit_any (keys : List Int) (K : Option Addr) (n cK kb sb s : Nat) (x : Nat) (u : World) (h0 : u.cell? ⟨kb, 0, none⟩ = some (.slice K n cK)) (h1 : u.cell? ⟨sb, 0, none⟩ = some (.int .i64 (s : Int))) (hk : NumsAt .i64 u K keys) (hl : keys.length = n) (hx : x < n) (hs : s ≤ 64) :
    Calls Try.prog 50 #[.int .i64 (x : Int), .pointer (some ⟨kb, 0, none⟩), .pointer (some ⟨sb, 0, none⟩)] u fun e u' => e = .returned (.int .i64 (dgt keys s (x : Int) : Nat)) ∧ ∃ n, u' = u.drewN n := by
  obtain ⟨bb, off, rfl, hbl, hcb⟩ := num_at hk (i := x) (by omega)
  have hdg : dgt keys s (x : Int) = uN (keys.getD x 0) / 2 ^ s % 256 := by unfold dgt; rw [Int.toNat_natCast]
  rw [hdg]
  clear hk hl hdg
  have hB := fun w => bits_any (keys.getD x 0) w
  have hlt := uN_lt (keys.getD x 0)
  generalize keys.getD x 0 = y at *
  generalize uN y = z at *
  have HB := Lib.hid hB
  clear hB
  have q1 : (x : Int) < (n : Int) := by omega
  have q2 : (0 : Int) ≤ (x : Int) := by omega
  have q3 : (0 : Int) ≤ (s : Int) := by omega
  have q4 : (s : Int) ≤ 64 := by omega
  go_enter Try.func50, Try.ntmps50
  go_wp2
  go_quiet (refine Calls.quiet_of ((HB.out _).mono fun _ _ h => ⟨h.1, 0, h.2⟩))
  go_wp2
  go_ret
  refine ⟨?_, _, rfl⟩
  have e : ((z : Int) / 2 ^ s).tmod 256 = ((z / 2 ^ s % 256 : Nat) : Int) := by
    rw [show ((z : Int) / 2 ^ s) = ((z / 2 ^ s : Nat) : Int) by simp]
    generalize z / 2 ^ s = y
    rw [Int.tmod_eq_emod_of_nonneg (Int.natCast_nonneg _)]
    omega
  show Ending.returned (.int .i64 (wrap64 (((z : Int) / 2 ^ s).tmod 256))) = _
  rw [e]
  have hm : z / 2 ^ s % 256 < 256 := Nat.mod_lt _ (by decide)
  generalize z / 2 ^ s % 256 = m at *
  rw [show wrap64 (m : Int) = (m : Int) by unfold wrap64; omega]

end Go.Proofs.Ytdepncdknofocaa

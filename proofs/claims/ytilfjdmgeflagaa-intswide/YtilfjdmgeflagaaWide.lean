/- The walk of IntsWide. -/
import Derived.Test.YtilfjdmgeflagaaIH
namespace Go.Proofs.Ytilfjdmgeflagaa
open Go.RowKit
open M

theorem wid_pos (m : Nat) (h : 0 < m) : ∃ k, wid m = k + 1 ∧ 2 ^ k ≤ m ∧ m < 2 ^ (k + 1) := by
  have h1 : 0 < wid m := by
    rcases Nat.eq_zero_or_pos (wid m) with e | e
    · have := (wid_le m 0).1 (by omega); simp at this; omega
    · exact e
  obtain ⟨k, hk⟩ : ∃ k, wid m = k + 1 := ⟨wid m - 1, by omega⟩
  refine ⟨k, hk, ?_, (wid_le m (k + 1)).1 (by omega)⟩
  rcases Nat.lt_or_ge m (2 ^ k) with h2 | h2
  · have := (wid_le m k).2 h2; omega
  · exact h2

theorem wid_pow (v : Nat) : wid (2 ^ v) = v + 1 := wid_eq _ _ (Nat.pow_lt_pow_right (by decide) (by omega)) (Nat.le_refl _)
theorem wid_pow1 (v : Nat) : wid (2 ^ v - 1) = v := by
  cases v with
  | zero => rfl
  | succ v =>
    have h1 : (0 : Nat) < 2 ^ v := Nat.pow_pos (by decide)
    apply wid_eq
    · have : (0 : Nat) < 2 ^ (v + 1) := Nat.pow_pos (by decide)
      omega
    · rw [Nat.pow_succ]; omega

set_option maxHeartbeats 1000000 in
theorem wide_low (n y : Int) (w : World) (hn : n < 1) :
    Calls Try.prog 8 #[.int .i64 n, .int .i64 y] w fun e w' => e = .returned (.bool true) ∧ Below w.heap.size w w' := by
  have e0 : n.toNat = 0 := by omega
  have hw : ∀ u, Calls Try.prog 14 #[.int .i64 n] u fun e w' => e = .returned (.int .i64 0) ∧ u = w' := fun u => by
    have := width_any n u (by omega)
    rw [e0] at this
    exact this
  have HW := Lib.hid hw
  clear hw e0
  by_cases h0 : y.tmod 63 < 0
  all_goals
    go_enter Try.func8, Try.ntmps8
    go_wp2_with fail
    refine (awake_any _).mono ?_
    rintro e w2 ⟨rfl, hb⟩
    have HB := Lib.hid hb
    clear hb
    go_wp2_with fail
    refine (HW.out _).mono ?_
    rintro e w3 ⟨rfl, rfl⟩
    go_wp2
    go_ret
    exact ⟨rfl, HB.out⟩

theorem shr_top (m k : Nat) (h1 : 2 ^ k ≤ m) (h2 : m < 2 ^ (k + 1)) : (m : Int) / 2 ^ k = 1 := by
  have e : (m : Int) / 2 ^ k = ((m / 2 ^ k : Nat) : Int) := by rw [Int.natCast_ediv]; simp
  rw [e]
  have h3 : (0 : Nat) < 2 ^ k := Nat.pow_pos (by decide)
  have h4 : m / 2 ^ k < 2 := by rw [Nat.div_lt_iff_lt_mul h3, Nat.mul_comm, ← Nat.pow_succ]; exact h2
  have h5 : 0 < m / 2 ^ k := Nat.div_pos h1 h3
  omega

set_option maxHeartbeats 1000000 in
theorem wide_high (n y : Int) (m k v : Nat) (w : World) (hm : n = (m : Int)) (hn : n ≤ 9223372036854775807) (hk : wid m = k + 1) (hk62 : k ≤ 62) (ht : (m : Int) / 2 ^ k = 1) (hm1 : 1 ≤ n) (hv : v ≤ 62) (hy : y.tmod 63 = (v : Int)) :
    Calls Try.prog 8 #[.int .i64 n, .int .i64 y] w fun e w' => e = .returned (.bool true) ∧ Below w.heap.size w w' := by
  have hw : ∀ u, Calls Try.prog 14 #[.int .i64 n] u fun e w' => e = .returned (.int .i64 ((k + 1 : Nat) : Int)) ∧ u = w' := fun u => by
    have := width_any n u hn
    rw [hm, Int.toNat_natCast, hk] at this
    rw [hm]
    exact this
  have hp2 : (2 : Nat) ^ v ≤ 2 ^ 62 := Nat.pow_le_pow_right (by decide) hv
  have e2 : ((2 : Int) ^ v) = ((2 ^ v : Nat) : Int) := by simp
  have hp1 : (0 : Nat) < 2 ^ v := Nat.pow_pos (by decide)
  have hw1 : ∀ u, Calls Try.prog 14 #[.int .i64 ((2 : Int) ^ v)] u fun e w' => e = .returned (.int .i64 ((v : Int) + 1)) ∧ u = w' := fun u => by
    have := width_any ((2 : Int) ^ v) u (by rw [e2]; omega)
    rw [e2, Int.toNat_natCast, wid_pow] at this
    rw [e2]
    exact_mod_cast this
  have hw2 : ∀ u, Calls Try.prog 14 #[.int .i64 ((2 : Int) ^ v - 1)] u fun e w' => e = .returned (.int .i64 (v : Int)) ∧ u = w' := fun u => by
    have := width_any ((2 : Int) ^ v - 1) u (by rw [e2]; omega)
    rw [show ((2 : Int) ^ v - 1).toNat = 2 ^ v - 1 by rw [e2]; omega, wid_pow1] at this
    exact this
  have hr1 : IntKind.i64.wrap ((2 : Int) ^ v) = (2 : Int) ^ v := IntWalk.i64_in _ (by rw [e2]; omega)
  have hr2 : IntKind.i64.wrap ((2 : Int) ^ v - 1) = (2 : Int) ^ v - 1 := IntWalk.i64_in _ (by rw [e2]; omega)
  rw [← hm] at ht
  have HW := Lib.hid (And.intro hw (And.intro hw1 hw2))
  clear hw hw1 hw2 hm hk hp1 hp2 e2
  go_enter Try.func8, Try.ntmps8
  go_wp2_with fail
  refine (awake_any _).mono ?_
  rintro e w2 ⟨rfl, hb⟩
  have HB := Lib.hid hb
  clear hb
  go_wp2_with fail
  refine (HW.out.1 _).mono ?_
  rintro e w3 ⟨rfl, rfl⟩
  go_wp2_with fail
  refine (HW.out.2.1 _).mono ?_
  rintro e w4 ⟨rfl, rfl⟩
  go_wp2_with fail
  refine (HW.out.2.2 _).mono ?_
  rintro e w5 ⟨rfl, rfl⟩
  go_wp2
  go_ret
  exact ⟨rfl, HB.out⟩

set_option maxHeartbeats 1000000 in
theorem wide_high_neg (n y : Int) (m k v : Nat) (w : World) (hm : n = (m : Int)) (hn : n ≤ 9223372036854775807) (hk : wid m = k + 1) (hk62 : k ≤ 62) (ht : (m : Int) / 2 ^ k = 1) (hm1 : 1 ≤ n) (hv : v ≤ 62) (hv0 : 0 < v) (hy : y.tmod 63 = -(v : Int)) :
    Calls Try.prog 8 #[.int .i64 n, .int .i64 y] w fun e w' => e = .returned (.bool true) ∧ Below w.heap.size w w' := by
  have hw : ∀ u, Calls Try.prog 14 #[.int .i64 n] u fun e w' => e = .returned (.int .i64 ((k + 1 : Nat) : Int)) ∧ u = w' := fun u => by
    have := width_any n u hn
    rw [hm, Int.toNat_natCast, hk] at this
    rw [hm]
    exact this
  have hp2 : (2 : Nat) ^ v ≤ 2 ^ 62 := Nat.pow_le_pow_right (by decide) hv
  have e2 : ((2 : Int) ^ v) = ((2 ^ v : Nat) : Int) := by simp
  have hp1 : (0 : Nat) < 2 ^ v := Nat.pow_pos (by decide)
  have hw1 : ∀ u, Calls Try.prog 14 #[.int .i64 ((2 : Int) ^ v)] u fun e w' => e = .returned (.int .i64 ((v : Int) + 1)) ∧ u = w' := fun u => by
    have := width_any ((2 : Int) ^ v) u (by rw [e2]; omega)
    rw [e2, Int.toNat_natCast, wid_pow] at this
    rw [e2]
    exact_mod_cast this
  have hw2 : ∀ u, Calls Try.prog 14 #[.int .i64 ((2 : Int) ^ v - 1)] u fun e w' => e = .returned (.int .i64 (v : Int)) ∧ u = w' := fun u => by
    have := width_any ((2 : Int) ^ v - 1) u (by rw [e2]; omega)
    rw [show ((2 : Int) ^ v - 1).toNat = 2 ^ v - 1 by rw [e2]; omega, wid_pow1] at this
    exact this
  have hr1 : IntKind.i64.wrap ((2 : Int) ^ v) = (2 : Int) ^ v := IntWalk.i64_in _ (by rw [e2]; omega)
  have hr2 : IntKind.i64.wrap ((2 : Int) ^ v - 1) = (2 : Int) ^ v - 1 := IntWalk.i64_in _ (by rw [e2]; omega)
  rw [← hm] at ht
  have HW := Lib.hid (And.intro hw (And.intro hw1 hw2))
  clear hw hw1 hw2 hm hk hp1 hp2 e2
  go_enter Try.func8, Try.ntmps8
  go_wp2_with fail
  refine (awake_any _).mono ?_
  rintro e w2 ⟨rfl, hb⟩
  have HB := Lib.hid hb
  clear hb
  go_wp2_with fail
  refine (HW.out.1 _).mono ?_
  rintro e w3 ⟨rfl, rfl⟩
  go_wp2_with fail
  refine (HW.out.2.1 _).mono ?_
  rintro e w4 ⟨rfl, rfl⟩
  go_wp2_with fail
  refine (HW.out.2.2 _).mono ?_
  rintro e w5 ⟨rfl, rfl⟩
  go_wp2
  go_ret
  exact ⟨rfl, HB.out⟩

end Go.Proofs.Ytilfjdmgeflagaa

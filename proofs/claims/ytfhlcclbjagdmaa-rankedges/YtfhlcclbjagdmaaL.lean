/- The contracts of New, Add, Put. -/
import Derived.Test.YtfhlcclbjagdmaaK
namespace Go.Proofs.Ytfhlcclbjagdmaa
open Go.RowKit
open M

theorem new_any (w : World) : Calls Try.prog 49 #[] w fun e w' => e = .returned (.pointer (some ⟨w.heap.size, 0, none⟩)) ∧ BuildAt w' w.heap.size (.slice none 0 0) [] ∧ Below w.heap.size w w' := by
  go_enter Try.func49, Try.ntmps49
  go_wp2
  go_ret
  refine ⟨rfl, ⟨by simp, by simp, by simp, by simp, Row_nil _, by simp [Value.ownBlock]⟩, (Below.refl _ _).alloc (Nat.le_refl _) _⟩

theorem put_nil (x y : Int) (w : World) : Calls Try.prog 51 #[.pointer none, .int .u64 x, .int .i64 y] w fun e w' => e = .returned (.int .i64 1) ∧ w = w' := by
  go_enter Try.func51, Try.ntmps51
  go_wp2
  go_ret
  exact ⟨rfl, rfl⟩

set_option maxHeartbeats 1000000 in
theorem put_ok (pb : Nat) (a0 : Option Addr) (m0 cap : Nat) (l bs : List Bool) (x : Int) (n : Nat) (w : World) (hB : BuildAt w pb (.slice a0 m0 cap) l) (hx : x = (num bs : Int)) (hn : bs.length = n) (hn64 : n ≤ 64) (hl : l.length + n ≤ 1000000000) :
    Calls Try.prog 51 #[.pointer (some ⟨pb, 0, none⟩), .int .u64 x, .int .i64 (n : Int)] w fun e w' => e = .returned (.int .i64 0) ∧ PutPost w pb (.slice a0 m0 cap) (l ++ bs) w' := by
  have hp := put_any pb a0 m0 cap l bs x n w hB hx hn hn64 hl
  have HP := Lib.hid hp
  have hle : ¬ ((2 ^ n - 1 : Nat) : Int) < x := by have := num_lt bs; rw [hn] at this; omega
  clear hp hB hx hn
  go_enter Try.func51, Try.ntmps51
  go_wp2_with fail
  refine (low_any (n : Int) _ (by omega) (by omega)).mono ?_
  rintro e w' ⟨rfl, rfl⟩
  rw [Int.toNat_natCast]
  generalize 2 ^ n - 1 = lw at *
  go_wp2_with fail
  refine HP.out.mono ?_
  rintro e w' ⟨rfl, hpost⟩
  have HQ := Lib.hid hpost
  clear hpost
  go_wp2
  go_ret
  exact ⟨rfl, HQ.out⟩

set_option maxHeartbeats 1000000 in
theorem put_no (a : Addr) (x y : Int) (w : World) (h : y < 0 ∨ 64 < y ∨ ((2 ^ y.toNat - 1 : Nat) : Int) < x) :
    Calls Try.prog 51 #[.pointer (some a), .int .u64 x, .int .i64 y] w fun e w' => e = .returned (.int .i64 1) ∧ w = w' := by
  by_cases h0 : y < 0
  · clear h
    go_enter Try.func51, Try.ntmps51
    go_wp2
    go_ret
    exact ⟨rfl, rfl⟩
  · by_cases h1 : 64 < y
    · clear h
      go_enter Try.func51, Try.ntmps51
      go_wp2
      go_ret
      exact ⟨rfl, rfl⟩
    · have h2 : ((2 ^ y.toNat - 1 : Nat) : Int) < x := by omega
      have H2 := Lib.hid h2
      clear h h2
      go_enter Try.func51, Try.ntmps51
      go_wp2_with fail
      refine (low_any y _ (by omega) (by omega)).mono ?_
      rintro e w' ⟨rfl, rfl⟩
      have h2 := H2.out
      generalize 2 ^ y.toNat - 1 = lw at *
      go_wp2
      go_ret
      exact ⟨rfl, rfl⟩

end Go.Proofs.Ytfhlcclbjagdmaa

/- Widths of numbers: the contracts of Width, of the document's Width, of isWidth. -/
import Derived.Test.YtfhlcclbjagdmaaBuildsA
namespace Go.Proofs.Ytfhlcclbjagdmaa
open Go.RowKit
open M

/-- How many bits a number has. -/
def wid (n : Nat) : Nat := if n = 0 then 0 else Nat.log2 n + 1

theorem wid_le (n k : Nat) : wid n ≤ k ↔ n < 2 ^ k := by
  unfold wid
  split
  · rename_i h; subst h; simp; exact Nat.pow_pos (by decide)
  · rename_i h
    rw [← Nat.log2_lt h]
    omega

theorem wid_half (n : Nat) (h : 0 < n) : wid n = wid (n / 2) + 1 := by
  apply Nat.le_antisymm
  · rw [wid_le, Nat.pow_succ]
    have := (wid_le (n / 2) (wid (n / 2))).1 (Nat.le_refl _)
    omega
  · have h1 : 0 < wid n := by
      rcases Nat.eq_zero_or_pos (wid n) with e | e
      · have := (wid_le n 0).1 (by omega); simp at this; omega
      · exact e
    obtain ⟨k, hk⟩ : ∃ k, wid n = k + 1 := ⟨wid n - 1, by omega⟩
    have h2 := (wid_le n (k + 1)).1 (by omega)
    rw [Nat.pow_succ] at h2
    have := (wid_le (n / 2) k).2 (by omega)
    omega

theorem wid_63 (x : Int) (h : x ≤ 9223372036854775807) : wid x.toNat ≤ 63 := by
  rw [wid_le]; omega

set_option maxHeartbeats 400000 in
theorem width_any (n : Int) (w : World) (hn : n ≤ 9223372036854775807) :
    Calls Try.prog 43 #[.int .i64 n] w fun e w' => e = .returned (.int .i64 (wid n.toNat : Nat)) ∧ w = w' := by
  have h63 := wid_63 n hn
  go_enter Try.func43, Try.ntmps43
  go_wp2
  go_loop [0, 3] (fun v0 v3 => ∃ (x : Int) (i : Nat), v0 = .int .i64 x ∧ v3 = .int .i64 (i : Int) ∧ i + wid x.toNat = wid n.toNat ∧ x ≤ 9223372036854775807) (fun v0 _ => (intOf v0).toNat)
  case atStart => exact ⟨n, 0, rfl, rfl, by omega, hn⟩
  case round =>
    obtain ⟨x, i, rfl, rfl, hi, hx⟩ := hrel
    by_cases h0 : 0 < x
    · have hh := wid_half x.toNat (by omega)
      have e2 : (x / 2).toNat = x.toNat / 2 := by omega
      rw [← e2] at hh
      generalize wid n.toNat = W at *
      generalize wid x.toNat = W1 at *
      have HH := Lib.hid hh
      go_wp2
      go_round
      case rel => exact ⟨x / 2, i + 1, by go_num, by go_num, by rw [← hi, HH.out]; omega, by omega⟩
      case measure => simp [intOf]; omega
    · have e0 : x.toNat = 0 := by omega
      have ez : wid 0 = 0 := rfl
      rw [e0, ez] at hi
      have HI := Lib.hid hi
      clear hi
      go_wp2
      go_ret
      exact ⟨by rw [← HI.out]; rfl, rfl⟩

theorem isWidth_any (x : Int) (w : World) :
    Calls Try.prog 48 #[.int .i64 x] w fun e w' => e = .returned (.bool (decide (0 ≤ x ∧ x ≤ 62))) ∧ w = w' := by
  by_cases h0 : 0 ≤ x
  · by_cases h1 : x ≤ 62
    · have e : decide (0 ≤ x ∧ x ≤ 62) = true := by simp [h0, h1]
      rw [e]
      go_enter Try.func48, Try.ntmps48
      go_wp2
      go_ret
      exact ⟨rfl, rfl⟩
    · have e : decide (0 ≤ x ∧ x ≤ 62) = false := by simp [h1]
      rw [e]
      go_enter Try.func48, Try.ntmps48
      go_wp2
      go_ret
      exact ⟨rfl, rfl⟩
  · have e : decide (0 ≤ x ∧ x ≤ 62) = false := by simp [h0]
    rw [e]
    go_enter Try.func48, Try.ntmps48
    go_wp2
    go_ret
    exact ⟨rfl, rfl⟩

end Go.Proofs.Ytfhlcclbjagdmaa

/- The contract of eachPiece, for whatever is visited. -/
import Derived.Test.YtfhlcclbjagdmaaA
namespace Go.Proofs.Ytfhlcclbjagdmaa
open Go.RowKit
open M

def Step (f : Nat) (caps : Array Value) (I : Nat → World → Prop) (a b : Nat) : Prop :=
  ∀ (p n : Nat) (w' : World) (x y z : Int), a ≤ p → 0 < n → p + n ≤ b → p % 64 + n ≤ 64 → I p w' → x = ((p / 64 : Nat) : Int) → y = ((p % 64 : Nat) : Int) → z = (n : Int) →
    Calls Try.prog f (#[.int .i64 x, .int .i64 y, .int .i64 z] ++ caps) w' fun e w'' => e = .returned (.tuple #[]) ∧ I (p + n) w''

set_option maxHeartbeats 400000 in
theorem eachPiece_any (f : Nat) (caps : Array Value) (I : Nat → World → Prop) (a b : Nat) (w : World) (hf : ∀ (args : Array Value) (w : World), (callFunc f args).run Try.prog w = .ok (.enter f args) w)
    (hab : a ≤ b) (hb : b ≤ 1000000000) (h0 : I a w) (hs : Step f caps I a b) :
    Calls Try.prog 38 #[.int .i64 (a : Int), .int .i64 (b : Int), .func (.func f) #[] caps] w fun e w' => e = .returned (.tuple #[]) ∧ I b w' := by
  go_enter Try.func38, Try.ntmps38
  go_wp2
  go_step3
  go_wp2
  go_step3
  go_wp2
  go_loopw [0, 6] (fun v u wr => ∃ p : Nat, a ≤ p ∧ p ≤ b ∧ v = .int .i64 (p : Int) ∧ u = .int .i64 ((p / 64 : Nat) : Int) ∧ I p wr) (fun v _ _ => b - (intOf v).toNat)
  case atStart => exact ⟨a, Nat.le_refl _, hab, rfl, by go_num, h0⟩
  case round =>
    obtain ⟨p, hp1, hp2, rfl, rfl, hI⟩ := hrel
    clear h0
    by_cases h1 : b ≤ p
    · go_wp2
      rw [Exit.noGoto_normal]
      go_end0
      obtain rfl : p = b := by omega
      exact ⟨rfl, hI⟩
    · by_cases h2 : (p / 64 + 1) * 64 < b
      · go_wp2_with fail
        trace_state
        refine (hs p ((p / 64 + 1) * 64 - p) _ _ _ _ hp1 (by omega) (by omega) (by omega) hI (by omega) (by omega) (by omega)).mono ?_
        rintro e w' ⟨rfl, hI'⟩
        clear hI
        go_wp2
        go_roundw
        case rel => exact ⟨(p / 64 + 1) * 64, by omega, by omega, by go_num, by go_num, by rw [show p + ((p / 64 + 1) * 64 - p) = (p / 64 + 1) * 64 by omega] at hI'; exact hI'⟩
        case measure => simp [intOf]; omega
      · go_wp2_with fail
        refine (hs p (b - p) _ _ _ _ hp1 (by omega) (by omega) (by omega) hI (by omega) (by omega) (by omega)).mono ?_
        rintro e w' ⟨rfl, hI'⟩
        clear hI
        go_wp2
        rw [Exit.noGoto_normal]
        go_end0
        exact ⟨rfl, by rw [show p + (b - p) = b by omega] at hI'; exact hI'⟩

theorem ent53 (args : Array Value) (w : World) : (callFunc 53 args).run Try.prog w = .ok (.enter 53 args) w := by kernel_rfl
theorem ent39 (args : Array Value) (w : World) : (callFunc 39 args).run Try.prog w = .ok (.enter 39 args) w := by kernel_rfl
theorem ent55 (args : Array Value) (w : World) : (callFunc 55 args).run Try.prog w = .ok (.enter 55 args) w := by kernel_rfl

end Go.Proofs.Ytfhlcclbjagdmaa

/- Contracts carried over: Same of rows of bits; Width, At, Same, List of rows of numbers. -/
import Derived.Test.YtpnjccomngdblaaGreatBc
set_option maxRecDepth 100000
namespace Go.Proofs.YtpnjccomngdblaaGreat
open Go.RowKit
open M
attribute [local go_sem ↓] Go.wp_at_zero Go.wp_at_succ


set_option maxHeartbeats 400000 in
theorem iat_any (n W L : Nat) (a : Option Addr) (m c : Nat) (xs : List Int) (i : Int) (w : World) (h : IRow w n W L a m c xs) :
    Calls Tryz.prog 41 #[intsV n W L (.slice a m c), .int .i64 i] w fun e w' => e = .returned (.int .i64 (atI xs i)) ∧ Below w.heap.size w w' := by
  have hal := fun o => ((Below.refl w.heap.size w).alloc (Nat.le_refl _) o)
  have hl := h.lb
  have hn := h.len
  by_cases hi : i < 0 ∨ (n : Int) ≤ i
  · have e : atI xs i = -1 := by unfold atI; rw [if_neg (by omega)]
    rw [e]
    have hb := fun o => iget_out n W L a m c i (w.alloc o) hi
    have HB := Lib.hid hb
    clear hb h hi e
    unfold intsV at *
    go_enter Tryz.func41, Tryz.ntmps41
    go_wp2_with fail
    refine (HB.out _).mono ?_
    rintro e w' ⟨rfl, hb⟩
    have HB2 := Lib.hid hb
    clear hb HB
    go_wp2
    go_ret
    exact ⟨rfl, (hal _).trans (HB2.out.mono (by simp))⟩
  · obtain ⟨k, rfl⟩ := Int.eq_ofNat_of_zero_le (a := i) (by omega)
    have e : atI xs k = xs.getD k 0 := by unfold atI; rw [if_pos (by omega)]; simp
    rw [e]
    have hb := fun o => iget_in n W L a m c xs k (w.alloc o) (h.row.kept (hal o)) hn h.mul hl (by have := h.hn; omega) h.hW h.fit (by omega)
    have HB := Lib.hid hb
    clear hb h hi e
    unfold intsV at *
    generalize xs.getD k 0 = x at *
    go_enter Tryz.func41, Tryz.ntmps41
    go_wp2_with fail
    refine (HB.out _).mono ?_
    rintro e w' ⟨rfl, hb⟩
    have HB2 := Lib.hid hb
    clear hb HB
    go_wp2
    go_ret
    exact ⟨rfl, (hal _).trans (HB2.out.mono (by simp))⟩



end Go.Proofs.YtpnjccomngdblaaGreat

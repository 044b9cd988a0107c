/- A row of numbers put in order in place: swapRange and rotate of the library's stable sort. -/
import Derived.Test.YtdidoecigkbffaaGreatBa
import Derived.Test.YtdidoecigkbffaaGreatSA
import Derived.IntWalk
set_option maxRecDepth 100000
namespace Go.Proofs.YtdidoecigkbffaaGreat
open Go.RowKit
open S

/-- A row of n numbers at block g, told by f; nothing else of w has turned. -/
structure Arr (w : World) (g n : Nat) (f : Nat → Int) (u : World) : Prop where
  cell : ∀ i, i < n → u.cell? ⟨g, i, none⟩ = some (.int .i64 (f i))
  frz : ∀ i, i < n → u.frozen? ⟨g, i, none⟩ = false
  kp : Kp (fun k => k = g) w u

theorem Arr.drew {w u : World} {g n : Nat} {f : Nat → Int} (h : Arr w g n f u) : Arr w g n f u.drew := ⟨fun i hi => by simpa using h.cell i hi, fun i hi => by simpa using h.frz i hi, h.kp.drew⟩

theorem Arr.kept {w u u' : World} {g n : Nat} {f : Nat → Int} (h : Arr w g n f u) (hb : Below u.heap.size u u') : Arr w g n f u' :=
  ⟨fun i hi => by have := World.block_lt_of_cell? u _ (h.cell i hi); rw [hb.cell (p := ⟨g, i, none⟩) this]; exact h.cell i hi,
   fun i hi => by have := World.block_lt_of_cell? u _ (h.cell i hi); rw [hb.frozen (p := ⟨g, i, none⟩) this]; exact h.frz i hi, h.kp.below hb⟩

/-- Two places exchanged. -/
theorem Arr.swap {w u : World} {g n : Nat} {f : Nat → Int} (h : Arr w g n f u) {i j : Nat} (hi : i < n) (hj : j < n) : Arr w g n (sw f i j) ((u.setCell ⟨g, i, none⟩ (.int .i64 (f j))).setCell ⟨g, j, none⟩ (.int .i64 (f i))) := by
  refine ⟨fun k hk => ?_, fun k hk => by simpa using h.frz k hk, (h.kp.setCell (.inl rfl) _).setCell (.inl rfl) _⟩
  have hci := h.cell i hi
  have hcj := h.cell j hj
  by_cases hkj : k = j
  · subst hkj
    have e : sw f i k k = f i := by
      simp only [sw]
      by_cases e : k = i
      · rw [if_pos e, e]
      · rw [if_neg e, if_pos trivial]
    rw [e]
    by_cases e2 : k = i
    · subst e2; rw [World.cell?_setCell_same _ _ _ (u := .int .i64 (f k)) (World.cell?_setCell_same _ _ _ hci)]
    · rw [World.cell?_setCell_same _ _ _ (u := .int .i64 (f k)) (by rw [World.cell?_setCell_other _ _ _ _ (by intro e; have := congrArg Addr.off e; simp only at this; omega)]; exact hcj)]
  · rw [World.cell?_setCell_other _ _ _ _ (by intro e; have := congrArg Addr.off e; simp only at this; omega)]
    by_cases e2 : k = i
    · subst e2; rw [World.cell?_setCell_same _ _ _ hci]; simp [sw]
    · rw [World.cell?_setCell_other _ _ _ _ (by intro e; have := congrArg Addr.off e; simp only at this; omega), h.cell k hk]; simp [sw, e2, hkj]

set_option maxHeartbeats 1000000 in
theorem swapRange_any (g n cap a b m : Nat) (f : Nat → Int) (fv : Value) (w u : World) (h : Arr w g n f u) (hab : a + m ≤ b) (hb : b + m ≤ n) (hn : n ≤ 1000000) :
    Calls Tryz.prog 99 #[.slice (some ⟨g, 0, none⟩) n cap, .int .i64 (a : Int), .int .i64 (b : Int), .int .i64 (m : Int), fv] u fun e u' => e = .returned (.tuple #[]) ∧ Arr w g n (swr f a b m) u' := by
  have H := Lib.hid h
  clear h
  go_enter Tryz.func99, Tryz.ntmps99
  go_wp2
  go_loopw [10] (fun v wr => ∃ i : Nat, i ≤ m ∧ v = .int .i64 (i : Int) ∧ Arr w g n (swr f a b i) wr) (fun v _ => m - (intOf v).toNat)
  case atStart => exact ⟨0, Nat.zero_le _, rfl, by rw [swr_zero]; exact H.out⟩
  case round =>
    obtain ⟨i, him, rfl, hA⟩ := hrel
    by_cases hlt : i < m
    · have c1 := hA.cell (a + i) (by omega)
      have c2 := hA.cell (b + i) (by omega)
      have z1 := hA.frz (a + i) (by omega)
      have z2 := hA.frz (b + i) (by omega)
      have HS := Lib.hid ((hA.drew).swap (i := a + i) (j := b + i) (by omega) (by omega))
      have HR := Lib.hid (swr_succ f a b i (by omega))
      clear hA
      generalize swr f a b i (a + i) = x at *
      generalize swr f a b i (b + i) = y at *
      have q0 : (i : Int) < (m : Int) := by omega
      have q1 : (a : Int) + (i : Int) < (n : Int) := by omega
      have q2 : (b : Int) + (i : Int) < (n : Int) := by omega
      have w1 : IntKind.i64.wrap ((a : Int) + (i : Int)) = (a : Int) + (i : Int) := IntWalk.i64_in _ (by omega)
      have w2 : IntKind.i64.wrap ((b : Int) + (i : Int)) = (b : Int) + (i : Int) := IntWalk.i64_in _ (by omega)
      have p1 : (0 : Int) ≤ (a : Int) + (i : Int) := by omega
      have p2 : (0 : Int) ≤ (b : Int) + (i : Int) := by omega
      have t1 : ((a : Int) + (i : Int)).toNat = a + i := by omega
      have t2 : ((b : Int) + (i : Int)).toNat = b + i := by omega
      have ne : a + i ≠ b + i := by omega
      go_wp2
      go_big_region
      all_goals go_wp2
      go_roundw
      case rel => exact ⟨i + 1, by omega, by go_num, by rw [HR.out]; exact HS.out⟩
      case measure => simp [intOf]; omega
    · obtain rfl : i = m := by omega
      go_wp2
      go_end0
      exact ⟨rfl, hA⟩


set_option maxHeartbeats 1000000 in
theorem rotate_any (g n cap a m b : Nat) (f : Nat → Int) (fv : Value) (w u : World) (h : Arr w g n f u) (ham : a < m) (hmb : m < b) (hb : b ≤ n) (hn : n ≤ 1000000) :
    Calls Tryz.prog 91 #[.slice (some ⟨g, 0, none⟩) n cap, .int .i64 (a : Int), .int .i64 (m : Int), .int .i64 (b : Int), fv] u fun e u' => e = .returned (.tuple #[]) ∧ Arr w g n (rot f a m b) u' := by
  have H := Lib.hid h
  clear h
  go_enter Tryz.func91, Tryz.ntmps91
  go_wp2
  go_loopw [10, 11] (fun v10 v11 wr => ∃ (i j : Nat) (f' : Nat → Int), 0 < i ∧ 0 < j ∧ i ≤ m ∧ m + j ≤ n ∧ v10 = .int .i64 (i : Int) ∧ v11 = .int .i64 (j : Int) ∧ Arr w g n f' wr ∧ rot f' (m - i) m (m + j) = rot f a m b) (fun v10 v11 _ => (intOf v10).toNat + (intOf v11).toNat)
  case atStart => exact ⟨m - a, b - m, f, by omega, by omega, by omega, by omega, by go_num, by go_num, H.out, by rw [show m - (m - a) = a by omega, show m + (b - m) = b by omega]⟩
  case round =>
    obtain ⟨i, j, f', hi, hj, him, hjn, rfl, rfl, hA, hrot⟩ := hrel
    clear H
    have HA := Lib.hid (And.intro hA hrot)
    clear hA hrot
    rcases Nat.lt_trichotomy i j with hij | hij | hij
    · have q1 : ((i : Int) != (j : Int)) = true := by simp; omega
      have q2 : ¬ (j : Int) < (i : Int) := by omega
      go_wp2_with fail
      rw [show (m : Int) - (i : Int) = ((m - i : Nat) : Int) by omega, show (m : Int) + (j : Int) - (i : Int) = ((m + j - i : Nat) : Int) by omega]
      refine (swapRange_any g n cap (m - i) (m + j - i) i f' fv w _ HA.out.1 (by omega) (by omega) hn).mono ?_
      rintro e w' ⟨rfl, hA2⟩
      have HA2 := Lib.hid hA2
      clear hA2
      go_wp2
      go_roundw
      case rel => exact ⟨i, j - i, _, hi, by omega, him, by omega, rfl, by go_num, HA2.out, by rw [rot_lt f' m i j him hi hij, HA.out.2]⟩
      case measure => simp [intOf]; omega
    · subst hij
      go_wp2_with fail
      rw [show (m : Int) - (i : Int) = ((m - i : Nat) : Int) by omega]
      refine (swapRange_any g n cap (m - i) m i f' fv w _ HA.out.1 (by omega) (by omega) hn).mono ?_
      rintro e w' ⟨rfl, hA2⟩
      have HA2 := Lib.hid hA2
      clear hA2
      go_wp2
      go_end0
      refine ⟨rfl, ?_⟩
      rw [← HA.out.2, ← rot_end f' m i him]
      exact HA2.out
    · have q1 : ((i : Int) != (j : Int)) = true := by simp; omega
      have q2 : (j : Int) < (i : Int) := by omega
      go_wp2_with fail
      rw [show (m : Int) - (i : Int) = ((m - i : Nat) : Int) by omega]
      refine (swapRange_any g n cap (m - i) m j f' fv w _ HA.out.1 (by omega) (by omega) hn).mono ?_
      rintro e w' ⟨rfl, hA2⟩
      have HA2 := Lib.hid hA2
      clear hA2
      go_wp2
      go_roundw
      case rel => exact ⟨i - j, j, _, by omega, hj, by omega, hjn, by go_num, rfl, HA2.out, by rw [rot_gt f' m i j him hj hij, HA.out.2]⟩
      case measure => simp [intOf]; omega

end Go.Proofs.YtdidoecigkbffaaGreat

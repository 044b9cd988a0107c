/- A row of heaps put in order in place: swapRange and rotate of the library's stable sort. -/
import Derived.Test.YtdidoecigkbffaaGreatBa
import Derived.Test.YtdidoecigkbffaaGreatSC
import Derived.IntWalk
set_option maxRecDepth 100000
namespace Go.Proofs.YtdidoecigkbffaaGreat
open Go.RowKit
open S

/-- A heap: its symbol, its weight, the place of the heap that it was put into. -/
structure Hp where
  s : Int
  w : Int
  p : Int

def Hp.v (x : Hp) : Value := .agg #[.int .i64 x.s, .int .i64 x.w, .int .i64 x.p]

/-- A row of n heaps at block g, told by f; nothing else of w has turned. -/
structure ArrH (w : World) (g n : Nat) (f : Nat → Hp) (u : World) : Prop where
  c0 : ∀ i, i < n → u.cell? ⟨g, i * 3, none⟩ = some (.int .i64 (f i).s)
  c1 : ∀ i, i < n → u.cell? ⟨g, i * 3 + 1, none⟩ = some (.int .i64 (f i).w)
  c2 : ∀ i, i < n → u.cell? ⟨g, i * 3 + 2, none⟩ = some (.int .i64 (f i).p)
  frz : ∀ i, i < n * 3 → u.frozen? ⟨g, i, none⟩ = false
  kp : Kp (fun k => k = g) w u

theorem ArrH.drew {w u : World} {g n : Nat} {f : Nat → Hp} (h : ArrH w g n f u) : ArrH w g n f u.drew := ⟨fun i hi => by simpa using h.c0 i hi, fun i hi => by simpa using h.c1 i hi, fun i hi => by simpa using h.c2 i hi, fun i hi => by simpa using h.frz i hi, h.kp.drew⟩

theorem ArrH.kept {w u u' : World} {g n : Nat} {f : Nat → Hp} (h : ArrH w g n f u) (hb : Below u.heap.size u u') : ArrH w g n f u' := by
  have hl : ∀ i, i < n → g < u.heap.size := fun i hi => World.block_lt_of_cell? u _ (h.c0 i hi)
  exact ⟨fun i hi => by rw [hb.cell (p := ⟨g, i * 3, none⟩) (hl i hi)]; exact h.c0 i hi, fun i hi => by rw [hb.cell (p := ⟨g, i * 3 + 1, none⟩) (hl i hi)]; exact h.c1 i hi, fun i hi => by rw [hb.cell (p := ⟨g, i * 3 + 2, none⟩) (hl i hi)]; exact h.c2 i hi,
    fun i hi => by rw [hb.frozen (p := ⟨g, i, none⟩) (hl 0 (by omega))]; exact h.frz i hi, h.kp.below hb⟩

theorem cell_set (u : World) (g o o' : Nat) (v v0 : Value) (h : u.cell? ⟨g, o', none⟩ = some v0) : (u.setCell ⟨g, o, none⟩ v).cell? ⟨g, o', none⟩ = some (if o' = o then v else v0) := by
  by_cases e : o' = o
  · subst e; rw [World.cell?_setCell_same _ _ _ h, if_pos rfl]
  · rw [World.cell?_setCell_other _ _ _ _ (by intro e2; have := congrArg Addr.off e2; simp only at this; omega), h, if_neg e]

/-- A heap laid at a place. -/
theorem ArrH.put {w u : World} {g n : Nat} {f : Nat → Hp} (h : ArrH w g n f u) {i : Nat} (_hi : i < n) (x : Hp) :
    ArrH w g n (fun k => if k = i then x else f k) (((u.setCell ⟨g, i * 3, none⟩ (.int .i64 x.s)).setCell ⟨g, i * 3 + 1, none⟩ (.int .i64 x.w)).setCell ⟨g, i * 3 + 2, none⟩ (.int .i64 x.p)) := by
  refine ⟨fun k hk => ?_, fun k hk => ?_, fun k hk => ?_, fun k hk => by simpa using h.frz k hk, ((h.kp.setCell (.inl rfl) _).setCell (.inl rfl) _).setCell (.inl rfl) _⟩
  · rw [cell_set _ _ _ _ _ _ (cell_set _ _ _ _ _ _ (cell_set _ _ _ _ _ _ (h.c0 k hk)))]
    rw [if_neg (by omega), if_neg (by omega)]
    by_cases e : k = i
    · subst e; rw [if_pos rfl]; simp
    · rw [if_neg (by omega)]; simp [e]
  · rw [cell_set _ _ _ _ _ _ (cell_set _ _ _ _ _ _ (cell_set _ _ _ _ _ _ (h.c1 k hk)))]
    rw [if_neg (by omega), if_neg (show ¬ k * 3 + 1 = i * 3 by omega)]
    by_cases e : k = i
    · subst e; rw [if_pos rfl]; simp
    · rw [if_neg (by omega)]; simp [e]
  · rw [cell_set _ _ _ _ _ _ (cell_set _ _ _ _ _ _ (cell_set _ _ _ _ _ _ (h.c2 k hk)))]
    rw [if_neg (show ¬ k * 3 + 2 = i * 3 + 1 by omega), if_neg (show ¬ k * 3 + 2 = i * 3 by omega)]
    by_cases e : k = i
    · subst e; rw [if_pos rfl]; simp
    · rw [if_neg (by omega)]; simp [e]

/-- Two places exchanged. -/
theorem ArrH.swap {w u : World} {g n : Nat} {f : Nat → Hp} (h : ArrH w g n f u) {i j : Nat} (hi : i < n) (hj : j < n) (hij : i ≠ j) : ArrH w g n (sw f i j)
    ((((((u.setCell ⟨g, i * 3, none⟩ (.int .i64 (f j).s)).setCell ⟨g, i * 3 + 1, none⟩ (.int .i64 (f j).w)).setCell ⟨g, i * 3 + 2, none⟩ (.int .i64 (f j).p)).setCell ⟨g, j * 3, none⟩ (.int .i64 (f i).s)).setCell ⟨g, j * 3 + 1, none⟩ (.int .i64 (f i).w)).setCell ⟨g, j * 3 + 2, none⟩ (.int .i64 (f i).p)) := by
  have := (h.put hi (f j)).put hj (f i)
  have e : sw f i j = fun k => if k = j then f i else if k = i then f j else f k := by
    funext k
    simp only [sw]
    by_cases e1 : k = i
    · subst e1; rw [if_pos rfl, if_neg (by omega), if_pos rfl]
    · rw [if_neg e1]
      by_cases e2 : k = j
      · rw [if_pos e2, if_pos e2]
      · rw [if_neg e2, if_neg e2, if_neg e1]
  rw [e]
  exact this

set_option maxHeartbeats 1000000 in
theorem swapRangeH (g n cap a b m : Nat) (f : Nat → Hp) (fv : Value) (w u : World) (h : ArrH w g n f u) (hab : a + m ≤ b) (hb : b + m ≤ n) (hn : n ≤ 1000000) :
    Calls Tryz.prog 101 #[.slice (some ⟨g, 0, none⟩) n cap, .int .i64 (a : Int), .int .i64 (b : Int), .int .i64 (m : Int), fv] u fun e u' => e = .returned (.tuple #[]) ∧ ArrH w g n (swr f a b m) u' := by
  have H := Lib.hid h
  clear h
  go_enter Tryz.func101, Tryz.ntmps101
  go_wp2
  go_loopw [10] (fun v wr => ∃ i : Nat, i ≤ m ∧ v = .int .i64 (i : Int) ∧ ArrH w g n (swr f a b i) wr) (fun v _ => m - (intOf v).toNat)
  case atStart => exact ⟨0, Nat.zero_le _, rfl, by rw [swr_zero]; exact H.out⟩
  case round =>
    obtain ⟨i, him, rfl, hA⟩ := hrel
    by_cases hlt : i < m
    · have x0 := hA.c0 (a + i) (by omega)
      have x1 := hA.c1 (a + i) (by omega)
      have x2 := hA.c2 (a + i) (by omega)
      have y0 := hA.c0 (b + i) (by omega)
      have y1 := hA.c1 (b + i) (by omega)
      have y2 := hA.c2 (b + i) (by omega)
      have z0 := hA.frz ((a + i) * 3) (by omega)
      have z1 := hA.frz ((a + i) * 3 + 1) (by omega)
      have z2 := hA.frz ((a + i) * 3 + 2) (by omega)
      have z3 := hA.frz ((b + i) * 3) (by omega)
      have z4 := hA.frz ((b + i) * 3 + 1) (by omega)
      have z5 := hA.frz ((b + i) * 3 + 2) (by omega)
      have HS := Lib.hid (hA.swap (i := a + i) (j := b + i) (by omega) (by omega) (by omega)).drew
      have HR := Lib.hid (swr_succ f a b i (by omega))
      clear hA
      generalize swr f a b i (a + i) = x at *
      generalize swr f a b i (b + i) = y at *
      have q0 : (i : Int) < (m : Int) := by omega
      have q1 : (a : Int) + (i : Int) < (n : Int) := by omega
      have q2 : (b : Int) + (i : Int) < (n : Int) := by omega
      have w1 : IntKind.i64.wrap ((a : Int) + (i : Int)) = (a : Int) + (i : Int) := IntWalk.i64_in _ (by omega)
      have w2 : IntKind.i64.wrap ((b : Int) + (i : Int)) = (b : Int) + (i : Int) := IntWalk.i64_in _ (by omega)
      have p1 : (0 : Int) ≤ (a : Int) + (i : Int) := by omega
      have p2 : (0 : Int) ≤ (b : Int) + (i : Int) := by omega
      have t1 : ((a : Int) + (i : Int)).toNat = a + i := by omega
      have t2 : ((b : Int) + (i : Int)).toNat = b + i := by omega
      have ne : a + i ≠ b + i := by omega
      go_wp2
      go_big_region
      all_goals go_wp2
      go_roundw
      case rel => exact ⟨i + 1, by omega, by go_num, by rw [HR.out]; with_reducible exact HS.out⟩
      case measure => simp [intOf]; omega
    · obtain rfl : i = m := by omega
      go_wp2
      go_end0
      exact ⟨rfl, hA⟩


set_option maxHeartbeats 1000000 in
theorem rotateH (g n cap a m b : Nat) (f : Nat → Hp) (fv : Value) (w u : World) (h : ArrH w g n f u) (ham : a < m) (hmb : m < b) (hb : b ≤ n) (hn : n ≤ 1000000) :
    Calls Tryz.prog 100 #[.slice (some ⟨g, 0, none⟩) n cap, .int .i64 (a : Int), .int .i64 (m : Int), .int .i64 (b : Int), fv] u fun e u' => e = .returned (.tuple #[]) ∧ ArrH w g n (rot f a m b) u' := by
  have H := Lib.hid h
  clear h
  go_enter Tryz.func100, Tryz.ntmps100
  go_wp2
  go_loopw [10, 11] (fun v10 v11 wr => ∃ (i j : Nat) (f' : Nat → Hp), 0 < i ∧ 0 < j ∧ i ≤ m ∧ m + j ≤ n ∧ v10 = .int .i64 (i : Int) ∧ v11 = .int .i64 (j : Int) ∧ ArrH w g n f' wr ∧ rot f' (m - i) m (m + j) = rot f a m b) (fun v10 v11 _ => (intOf v10).toNat + (intOf v11).toNat)
  case atStart => exact ⟨m - a, b - m, f, by omega, by omega, by omega, by omega, by go_num, by go_num, H.out, by rw [show m - (m - a) = a by omega, show m + (b - m) = b by omega]⟩
  case round =>
    obtain ⟨i, j, f', hi, hj, him, hjn, rfl, rfl, hA, hrot⟩ := hrel
    clear H
    have HA := Lib.hid (And.intro hA hrot)
    clear hA hrot
    rcases Nat.lt_trichotomy i j with hij | hij | hij
    · have q1 : ((i : Int) != (j : Int)) = true := by simp; omega
      have q2 : ¬ (j : Int) < (i : Int) := by omega
      go_wp2_with fail
      rw [show (m : Int) - (i : Int) = ((m - i : Nat) : Int) by omega, show (m : Int) + (j : Int) - (i : Int) = ((m + j - i : Nat) : Int) by omega]
      refine (swapRangeH g n cap (m - i) (m + j - i) i f' fv w _ HA.out.1 (by omega) (by omega) hn).mono ?_
      rintro e w' ⟨rfl, hA2⟩
      have HA2 := Lib.hid hA2
      clear hA2
      go_wp2
      go_roundw
      case rel => exact ⟨i, j - i, _, hi, by omega, him, by omega, rfl, by go_num, HA2.out, by rw [rot_lt f' m i j him hi hij, HA.out.2]⟩
      case measure => simp [intOf]; omega
    · subst hij
      go_wp2_with fail
      rw [show (m : Int) - (i : Int) = ((m - i : Nat) : Int) by omega]
      refine (swapRangeH g n cap (m - i) m i f' fv w _ HA.out.1 (by omega) (by omega) hn).mono ?_
      rintro e w' ⟨rfl, hA2⟩
      have HA2 := Lib.hid hA2
      clear hA2
      go_wp2
      go_end0
      refine ⟨rfl, ?_⟩
      rw [← HA.out.2, ← rot_end f' m i him]
      exact HA2.out
    · have q1 : ((i : Int) != (j : Int)) = true := by simp; omega
      have q2 : (j : Int) < (i : Int) := by omega
      go_wp2_with fail
      rw [show (m : Int) - (i : Int) = ((m - i : Nat) : Int) by omega]
      refine (swapRangeH g n cap (m - i) m j f' fv w _ HA.out.1 (by omega) (by omega) hn).mono ?_
      rintro e w' ⟨rfl, hA2⟩
      have HA2 := Lib.hid hA2
      clear hA2
      go_wp2
      go_roundw
      case rel => exact ⟨i - j, j, _, by omega, hj, by omega, hjn, by go_num, rfl, HA2.out, by rw [rot_gt f' m i j him hj hij, HA.out.2]⟩
      case measure => simp [intOf]; omega

end Go.Proofs.YtdidoecigkbffaaGreat

/- The contracts of joined where there are no heaps, and of depthsOf. -/
import Derived.Test.YtdidoecigkbffaaGreatJE
set_option maxRecDepth 100000
namespace Go.Proofs.YtdidoecigkbffaaGreat
open Go.RowKit
open S J

theorem clone_nil (u : World) : Calls Tryz.prog 75 #[.slice none 0 0] u fun e u' => e = .returned (.slice none 0 0) ∧ u = u' := by
  have q59 : ∀ (w : World) (a : Option Addr) (n c n' c' : Nat), (binOp .eql 77 (.slice a n c) (.slice none n' c')).run Tryz.prog w = .ok (.bool a.isNone) w := fun w a n c n' c' => Lib.run_eql_slice_nil w _ _ a n c n' c' Tryz.underlying77
  go_enter Tryz.func75, Tryz.ntmps75
  go_wp2
  go_ret
  exact ⟨rfl, rfl⟩

theorem four_cells (w : World) (v1 v2 v3 v4 : Value) (t1 t2 t3 t4 : TypeId) :
    ((((w.alloc (.cells #[v1] t1)).alloc (.cells #[v2] t2)).alloc (.cells #[v3] t3)).alloc (.cells #[v4] t4)).drew.cell? ⟨w.heap.size, 0, none⟩ = some v1 ∧
    ((((w.alloc (.cells #[v1] t1)).alloc (.cells #[v2] t2)).alloc (.cells #[v3] t3)).alloc (.cells #[v4] t4)).drew.cell? ⟨w.heap.size + 1, 0, none⟩ = some v2 ∧
    ((((w.alloc (.cells #[v1] t1)).alloc (.cells #[v2] t2)).alloc (.cells #[v3] t3)).alloc (.cells #[v4] t4)).drew.cell? ⟨w.heap.size + 1 + 1, 0, none⟩ = some v3 ∧
    ((((w.alloc (.cells #[v1] t1)).alloc (.cells #[v2] t2)).alloc (.cells #[v3] t3)).alloc (.cells #[v4] t4)).drew.cell? ⟨w.heap.size + 1 + 1 + 1, 0, none⟩ = some v4 ∧
    ((((w.alloc (.cells #[v1] t1)).alloc (.cells #[v2] t2)).alloc (.cells #[v3] t3)).alloc (.cells #[v4] t4)).drew.frozen? ⟨w.heap.size + 1 + 1, 0, none⟩ = false ∧
    ((((w.alloc (.cells #[v1] t1)).alloc (.cells #[v2] t2)).alloc (.cells #[v3] t3)).alloc (.cells #[v4] t4)).drew.frozen? ⟨w.heap.size + 1 + 1 + 1, 0, none⟩ = false ∧
    Below w.heap.size w ((((w.alloc (.cells #[v1] t1)).alloc (.cells #[v2] t2)).alloc (.cells #[v3] t3)).alloc (.cells #[v4] t4)).drew := by
  refine ⟨?_, ?_, ?_, ?_, ?_, ?_, ?_⟩
  · show World.cell? (World.alloc _ _) _ = _
    rw [cell_old _ _ _ _ (by simp <;> omega), cell_old _ _ _ _ (by simp <;> omega), cell_old _ _ _ _ (by simp), cell_new _ _ _ _ _ rfl]; rfl
  · show World.cell? (World.alloc _ _) _ = _
    rw [cell_old _ _ _ _ (by simp <;> omega), cell_old _ _ _ _ (by simp), cell_new _ _ _ _ _ (by simp)]; rfl
  · show World.cell? (World.alloc _ _) _ = _
    rw [cell_old _ _ _ _ (by simp), cell_new _ _ _ _ _ (by simp)]; rfl
  · show World.cell? (World.alloc _ _) _ = _
    rw [cell_new _ _ _ _ _ (by simp)]; rfl
  · show World.frozen? (World.alloc _ _) _ = _
    rw [frozen_old _ _ _ _ (by simp), frozen_new _ _ _ _ _ (by simp)]
  · show World.frozen? (World.alloc _ _) _ = _
    rw [frozen_new _ _ _ _ _ (by simp)]
  · exact (((((Below.refl _ _).alloc (Nat.le_refl _) _).alloc (by simp) _).alloc (by simp; omega) _).alloc (by simp; omega) _).drew

set_option maxHeartbeats 2000000 in
theorem joined_nil (w : World) : Calls Tryz.prog 53 #[.slice none 0 0] w fun e w' => e = .returned (.slice none 0 0) ∧ Below w.heap.size w w' := by
  go_enter Tryz.func53, Tryz.ntmps53
  go_wp2_with fail
  go_step3
  go_wp2_with fail
  refine (clone_nil _).mono ?_
  rintro e u1 ⟨rfl, rfl⟩
  go_upto_region 2 with fail
  go_cut [4, 5] from 11 to 12 (fun v4 v5 wx => ∃ ab nb, v4 = .pointer (some ⟨ab, 0, none⟩) ∧ v5 = .pointer (some ⟨nb, 0, none⟩) ∧ ab ≠ nb ∧ w.heap.size + 1 < nb ∧ wx.cell? ⟨w.heap.size, 0, none⟩ = some (.slice none 0 0) ∧ wx.cell? ⟨w.heap.size + 1, 0, none⟩ = some (.slice none 0 0) ∧ wx.cell? ⟨ab, 0, none⟩ = some (.int .i64 0) ∧ wx.cell? ⟨nb, 0, none⟩ = some (.int .i64 0) ∧ wx.frozen? ⟨nb, 0, none⟩ = false ∧ Below w.heap.size w wx)
  case first =>
    go_big_region
    all_goals (go_wp2; go_meet)
    · obtain ⟨f1, f2, f3, f4, f5, f6, f7⟩ := four_cells w (.slice none 0 0) (.slice none 0 0) (.int .i64 0) (.int .i64 0) 77 77 3 3
      exact ⟨_, _, rfl, rfl, by simp, by simp, f1, f2, f3, f4, f6, f7⟩
    · obtain ⟨f1, f2, f3, f4, f5, f6, f7⟩ := four_cells w (.slice none 0 0) (.slice none 0 0) (.int .i64 0) (.int .i64 0) 77 77 3 3
      exact ⟨_, _, rfl, rfl, by simp, by simp, f1, f2, f4, f3, f5, f7⟩
  case rest =>
    obtain ⟨ab, nb, rfl, rfl, hab, hnb, c1, c2, c3, c4, z4, hb⟩ := hcut
    have HB := Lib.hid hb
    have hnw : w.heap.size ≤ nb := by omega
    clear hb
    go_wp2
    go_step3
    go_wp2
    go_loopg [7, 8] 1 (fun _ _ _ wr => wr = wc)
    case atStart => exact rfl
    case round =>
      subst hrel
      have hbl : ∀ p : Addr, p.block < wr.heap.size → (wr.alloc (.cells #[.int .i64 0, .int .i64 0, .int .i64 0] 81)).cell? p = wr.cell? p := fun p hp => World.cell?_of_block (Below.heap_alloc _ _ _ hp)
      have k1 := World.block_lt_of_cell? wr _ c1
      have k2 := World.block_lt_of_cell? wr _ c2
      have k3 := World.block_lt_of_cell? wr _ c3
      have k4 := World.block_lt_of_cell? wr _ c4
      have e1 : (wr.alloc (.cells #[.int .i64 0, .int .i64 0, .int .i64 0] 81)).cell? ⟨w.heap.size, 0, none⟩ = some (.slice none 0 0) := by rw [hbl _ k1]; exact c1
      have e2 : (wr.alloc (.cells #[.int .i64 0, .int .i64 0, .int .i64 0] 81)).cell? ⟨w.heap.size + 1, 0, none⟩ = some (.slice none 0 0) := by rw [hbl _ k2]; exact c2
      have e3 : (wr.alloc (.cells #[.int .i64 0, .int .i64 0, .int .i64 0] 81)).cell? ⟨ab, 0, none⟩ = some (.int .i64 0) := by rw [hbl _ k3]; exact c3
      have e4 : (wr.alloc (.cells #[.int .i64 0, .int .i64 0, .int .i64 0] 81)).cell? ⟨nb, 0, none⟩ = some (.int .i64 0) := by rw [hbl _ k4]; exact c4
      have e5 : (wr.alloc (.cells #[.int .i64 0, .int .i64 0, .int .i64 0] 81)).frozen? ⟨nb, 0, none⟩ = false := by rw [frozen_old _ _ _ _ k4]; exact z4
      have HB2 := Lib.hid (HB.out.alloc HB.out.size (.cells #[.int .i64 0, .int .i64 0, .int .i64 0] 81))
      clear hbl k1 k2 k3 k4 c1 c2 c3 c4 z4
      go_wp2
      generalize wr.alloc (.cells #[.int .i64 0, .int .i64 0, .int .i64 0] 81) = wr0 at *
      go_loopg [8, 14] 2 (fun _ _ v14 wq => v14 = .int .i64 0 ∧ wq = wr0)
      case atStart => exact ⟨rfl, rfl⟩
      case round =>
        obtain ⟨rfl, rfl⟩ := hrel
        go_wp2_with fail
        refine (light_nil nb ab w.heap.size (w.heap.size + 1) _ e4 e3 e1 e5).mono ?_
        rintro e u3 ⟨rfl, n, rfl⟩
        have e6 : ((wr.drewN n).setCell ⟨nb, 0, none⟩ (.int .i64 1)).cell? ⟨w.heap.size + 1, 0, none⟩ = some (.slice none 0 0) := by
          rw [World.cell?_setCell_other _ _ _ _ (ne_addr (by omega))]; simpa using e2
        have HB3 := Lib.hid (show Below w.heap.size w ((wr.drewN n).setCell ⟨nb, 0, none⟩ (.int .i64 1)) from Below.setCell (w := wr.drewN n) (p := ⟨nb, 0, none⟩) (HB2.out.trans ⟨rfl, rfl, rfl, Nat.le_refl _, fun _ _ => rfl⟩) hnw _)
        clear e1 e2 e3 e4 e5
        generalize (wr.drewN n).setCell ⟨nb, 0, none⟩ (.int .i64 1) = u4 at *
        go_wp2
        rw [Exit.noGoto_ret]
        go_ret
        exact ⟨rfl, HB3.out⟩

end Go.Proofs.YtdidoecigkbffaaGreat

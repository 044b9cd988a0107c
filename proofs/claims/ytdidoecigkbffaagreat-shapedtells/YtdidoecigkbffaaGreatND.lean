/- The chapter's examples: awake. -/
import Derived.Test.YtdidoecigkbffaaGreatNC
set_option maxRecDepth 100000
namespace Go.Proofs.YtdidoecigkbffaaGreat
open Go.RowKit
open S J M

theorem nums_block (w : World) (cs : List Int) : NumsAt .i64 (w.alloc (.cells ((cs.map (Value.int .i64)).toArray) 3)) (some ⟨w.heap.size, 0, none⟩) cs := by
  refine .inr ⟨w.heap.size, 0, rfl, by simp, fun j hj => ?_⟩
  rw [cell_new _ _ _ _ _ rfl]
  simp [List.getD_eq_getElem?_getD, hj]

set_option maxHeartbeats 2000000 in
theorem awake_any (w : World) : Calls Tryz.prog 4 #[] w fun e w' => e = .returned (.bool true) ∧ Below w.heap.size w w' := by
  have hal : Below w.heap.size w (w.alloc (.cells #[.int .i64 5, .int .i64 1, .int .i64 1] 3)) := (Below.refl _ _).alloc (Nat.le_refl _) _
  have hc := codes_any (some ⟨w.heap.size, 0, none⟩) 3 3 [5, 1, 1] (w.alloc (.cells #[.int .i64 5, .int .i64 1, .int .i64 1] 3)) (nums_block w [5, 1, 1]) rfl (by omega)
  have HC := Lib.hid hc
  have HA := Lib.hid hal
  clear hc hal
  go_enter Tryz.func4, Tryz.ntmps4
  go_wp2_with fail
  (with_reducible refine HC.out.mono ?_)
  rintro e u1 ⟨C, ys, zs, rfl, hcod, hSR⟩
  obtain ⟨rfl, rfl⟩ := hcod.told
  have hb1 : Below w.heap.size w u1 := HA.out.trans (hSR.bel.mono (by simp))
  have k0 := hSR.cell 0 (by simp)
  have k1 := hSR.cell 1 (by simp)
  have k2 := hSR.cell 2 (by simp)
  have hcd := codes511
  unfold codeOf at hcd
  simp only [List.length_cons, List.length_nil, Nat.zero_add, Nat.reduceAdd] at k0 k1 k2 hSR
  rw [hcd.1] at k0
  rw [hcd.2.1] at k1
  rw [hcd.2.2] at k2
  have hn := new_ok (some ⟨u1.heap.size, 0, none⟩) 4 4 3 [0, 0, 1, 2] (u1.alloc (.cells #[.int .i64 0, .int .i64 0, .int .i64 1, .int .i64 2] 3)) (nums_block u1 [0, 0, 1, 2]) rfl (by omega) (by decide) (by omega) (by omega)
  rw [show ((3 : Nat) : Int) = 3 from rfl] at hn
  have HN := Lib.hid hn
  have hal2 : Below u1.heap.size u1 (u1.alloc (.cells #[.int .i64 0, .int .i64 0, .int .i64 1, .int .i64 2] 3)) := (Below.refl _ _).alloc (Nat.le_refl _) _
  have H1 := Lib.hid (And.intro k0 (And.intro k1 (And.intro k2 (And.intro hb1 hal2))))
  clear k0 k1 k2 hSR hcd hcod hb1 hn HC hal2
  go_wp2_with fail
  (with_reducible refine HN.out.mono ?_)
  rintro e u2 ⟨C2, sb, b, ys, zs, ks, Rf, rfl, hcod, hSH⟩
  obtain ⟨rfl, rfl⟩ := hcod.told
  have hcd := codes0012
  unfold codeOf at hcd
  obtain ⟨NP, hPM⟩ := hSH.parts
  have hcs : codesL [0, 0, 1, 2] (codF (ysF (cntL [0, 0, 1, 2] 3) 3) (zsF (cntL [0, 0, 1, 2] 3) 3)) = [[false], [false], [true, false], [true, true]] := by
    unfold codesL
    simp only [List.map_cons, List.map_nil]
    rw [show (0 : Int).toNat = 0 from rfl, show (1 : Int).toNat = 1 from rfl, show (2 : Int).toNat = 2 from rfl, hcd.1, hcd.2.1, hcd.2.2]
  have hkeys := hSH.keys
  rw [hcs] at hPM hkeys
  have htot : rest ks (fun l => (partB [[false], [false], [true, false], [true, true]] l).length) (fun _ => true) = 6 := by
    rw [rest_all, cost_total ks hPM.nd _ (fun p hp => (hkeys p).2 hp)]; rfl
  have hb2 : Below w.heap.size w u2 := H1.out.2.2.2.1.trans ((H1.out.2.2.2.2.trans (hSH.bel.mono H1.out.2.2.2.2.size)).mono H1.out.2.2.2.1.size)
  have hbu : Below u1.heap.size u1 u2 := H1.out.2.2.2.2.trans (hSH.bel.mono H1.out.2.2.2.2.size)
  have hbx : ∀ u, Below u2.heap.size u2 u → PM u b NP ks (partB [[false], [false], [true, false], [true, true]]) Rf := fun u hu => hPM.kept hu
  obtain ⟨w3, hw3⟩ : ∃ w3, w3 = u2.alloc (.cells #[.int .i64 4, .slice (some ⟨C2, 0, none⟩) 3 3, .map (some sb), .map (some b)] 31) := ⟨_, rfl⟩
  have hal3 : Below u2.heap.size u2 w3 := by rw [hw3]; exact (Below.refl _ _).alloc (Nat.le_refl _) _
  have hco := cost_any 4 b NP (.slice (some ⟨C2, 0, none⟩) 3 3) (.map (some sb)) ks _ Rf w3 (hbx w3 hal3) (by rw [htot]; omega)
  rw [htot, show ((4 : Nat) : Int) = 4 from rfl, show ((6 : Nat) : Int) = 6 from rfl] at hco
  have HCO := Lib.hid hco
  have c0 : w3.cell? ⟨C, 0, none⟩ = some (.string ⟨#[48]⟩) := by
    rw [hal3.cell (p := ⟨C, 0, none⟩) (Nat.lt_of_lt_of_le (World.block_lt_of_cell? u1 _ H1.out.1) hbu.size), hbu.cell (p := ⟨C, 0, none⟩) (World.block_lt_of_cell? u1 _ H1.out.1)]; exact H1.out.1
  have c1 : w3.cell? ⟨C, 1, none⟩ = some (.string ⟨#[49, 48]⟩) := by
    rw [hal3.cell (p := ⟨C, 1, none⟩) (Nat.lt_of_lt_of_le (World.block_lt_of_cell? u1 _ H1.out.2.1) hbu.size), hbu.cell (p := ⟨C, 1, none⟩) (World.block_lt_of_cell? u1 _ H1.out.2.1)]; exact H1.out.2.1
  have c2 : w3.cell? ⟨C, 2, none⟩ = some (.string ⟨#[49, 49]⟩) := by
    rw [hal3.cell (p := ⟨C, 2, none⟩) (Nat.lt_of_lt_of_le (World.block_lt_of_cell? u1 _ H1.out.2.2.1) hbu.size), hbu.cell (p := ⟨C, 2, none⟩) (World.block_lt_of_cell? u1 _ H1.out.2.2.1)]; exact H1.out.2.2.1
  have d0 : w3.cell? ⟨u2.heap.size, 0, none⟩ = some (.int .i64 4) := by rw [hw3, cell_new _ _ _ _ _ rfl]; rfl
  have d1 : w3.cell? ⟨u2.heap.size, 1, none⟩ = some (.slice (some ⟨C2, 0, none⟩) 3 3) := by rw [hw3, cell_new _ _ _ _ _ rfl]; rfl
  have d2 : w3.cell? ⟨u2.heap.size, 2, none⟩ = some (.map (some sb)) := by rw [hw3, cell_new _ _ _ _ _ rfl]; rfl
  have d3 : w3.cell? ⟨u2.heap.size, 3, none⟩ = some (.map (some b)) := by rw [hw3, cell_new _ _ _ _ _ rfl]; rfl
  have HB := Lib.hid (hb2.trans (hal3.mono hb2.size))
  have HW3 := Lib.hid hw3
  clear hco hb2 hbu hbx hal3 htot hkeys hcs hPM hcd hSH hcod HN
  go_upto_region 3 with fail
  rw [← HW3.out]
  clear hw3
  go_wp2_with fail
  (with_reducible refine HCO.out.mono ?_)
  rintro e u4 ⟨rfl, hb4⟩
  have HB4 := Lib.hid hb4
  clear hb4 c0 c1 c2 d0 d1 d2 d3
  go_wp2
  go_ret
  exact ⟨rfl, HB.out.trans (HB4.out.mono HB.out.size)⟩

end Go.Proofs.YtdidoecigkbffaaGreat

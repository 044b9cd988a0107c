/- The contract of New of ranks: the walk. -/
import Derived.Test.YtfhlcclbjagdmaaKH
namespace Go.Proofs.Ytfhlcclbjagdmaa
open Go.RowKit
open M
attribute [local go_sem ↓] Go.wp_at_zero Go.wp_at_succ

set_option maxRecDepth 100000 in
set_option maxHeartbeats 2000000 in
theorem rnew_any (a : Option Addr) (m c : Nat) (l : List Bool) (w : World) (h : RowAt w (.slice a m c) l) (hl : l.length ≤ 1000000000) :
    Calls Try.prog 12 #[.agg #[.int .i64 (l.length : Int), .slice a m c]] w (NewEnd w a m c l) := by
  obtain ⟨i0, hi, hz0, hz1, hz2⟩ := info_parts info3
  obtain ⟨n, hn⟩ : ∃ n, l.length = n := ⟨_, rfl⟩
  have hlen := fun u (hb : Below w.heap.size w u) => len_any _ l u (h.kept hb)
  have hones := fun u (x y : Int) (hr : RowAt u (.slice a m c) l) => ones_any _ _ _ l x y u hr hl
  rw [hn] at hl hlen hones
  rw [hn]
  have HH := Lib.hid h
  have HN := Lib.hid hn
  have HL := Lib.hid hlen
  have HO := Lib.hid hones
  obtain ⟨K, hK⟩ : ∃ K, K = n / 256 + 1 := ⟨_, rfl⟩
  have hK1 : K ≤ 5000000 := by omega
  have HK := Lib.hid hK
  have e1 : (n : Int) / 256 + 1 = (K : Int) := by omega
  have hK2 : 1 ≤ K := by omega
  clear h hn hlen hones hK
  go_enter Try.func12, Try.ntmps12
  go_wp2_with fail
  refine (HL.out _ (((Below.refl _ _).alloc (Nat.le_refl _) _).alloc (by simp) _)).mono ?_
  rintro e w1 ⟨rfl, hb1⟩
  have hs1 : w.heap.size + 2 ≤ w1.heap.size := by have := hb1.size; simp at this; omega
  go_wp2_with (first | (at_make; refine wpList_make_full _ rfl _ _ 23 rfl (w.heap.size + 2) 3 i0 (.int .i64 0) 1 Try.underlying23 hi hz0 hz1 _ _ _ _ K rfl rfl rfl rfl ?b2 ?b3 hs1 ?_))
  case b2 => rw [hz2]; omega
  case b3 => unfold maxLen; omega
  intro w2 hown hgrow
  have hI : NW w n a m c l K w1.heap.size 0 w2 := by
    have c0 : ∀ j, w2.cell? ⟨w.heap.size, j, none⟩ = w1.cell? ⟨w.heap.size, j, none⟩ := fun j => hgrow.cell_far _ (by simp only; omega) (by simp)
    have c1 : ∀ j, w2.cell? ⟨w.heap.size + 1, j, none⟩ = w1.cell? ⟨w.heap.size + 1, j, none⟩ := fun j => hgrow.cell_far _ (by simp only; omega) (by simp)
    have f1 : ∀ j, w2.frozen? ⟨w.heap.size + 1, j, none⟩ = w1.frozen? ⟨w.heap.size + 1, j, none⟩ := fun j => hgrow.frozen_far _ (by simp only; omega) (by simp)
    have d0 := fun j => hb1.cell (p := ⟨w.heap.size, j, none⟩) (by simp only [World.size_alloc]; omega)
    have d1 := fun j => hb1.cell (p := ⟨w.heap.size + 1, j, none⟩) (by simp only [World.size_alloc]; omega)
    have g1 := fun j => hb1.frozen (p := ⟨w.heap.size + 1, j, none⟩) (by simp only [World.size_alloc]; omega)
    have hbel : Below w.heap.size w w2 := ((((Below.refl _ _).alloc (Nat.le_refl _) _).alloc (by simp) _).trans (hb1.mono (by simp; omega))).trans ((below_grown hgrow).mono (by omega))
    refine ⟨?_, ?_, ?_, ?_, ?_, ?_, ?_, ?_, ?_, ?_, ?_, ?_, ?_, ?_, ?_, HH.out.kept hbel, hbel⟩
    · rw [c0, d0]; simp
    · rw [c0, d0]; simp
    · rw [c1, d1]; simp
    · rw [c1, d1]; simp
    · rw [c1, d1]; simp
    · rw [c1, d1]; simp
    · rw [c1, d1]; simp
    · rw [c1, d1]; simp
    · rw [f1, g1]; simp
    · rw [f1, g1]; simp
    · rw [f1, g1]; simp
    · rw [f1, g1]; simp
    · rw [f1, g1]; simp
    · rw [f1, g1]; simp
    · rw [cl_zero]
      have := hown
      rw [toList_madeCells_one] at this
      exact this
  have HI := Lib.hid hI
  clear hI hown hgrow hb1 hs1
  generalize w1.heap.size = g at *
  clear w1
  go_wp2
  go_loopw [16] (fun v wr => ∃ i : Nat, i ≤ K - 1 ∧ v = .int .i64 (i : Int) ∧ NW w n a m c l K g i wr) (fun v _ => K - (intOf v).toNat)
  case atStart => exact ⟨0, Nat.zero_le _, rfl, HI.out⟩
  case round =>
    obtain ⟨i, hi, rfl, hA⟩ := hrel
    clear HI
    by_cases hlt : i < K - 1
    · have hq : (i : Int) < (K : Int) - 1 := by omega
      have hend : (i + 1) * 256 ≤ n := by have := HK.out; omega
      have hsum := rk_block l (i * 256) ((i + 1) * 256) (by omega) (by rw [HN.out]; exact hend)
      have hle := rkN_le true l ((i + 1) * 256)
      rw [HN.out] at hle
      have hon := fun u (hu : NW w n a m c l K g i u) => (HO.out u ((i * 256 : Nat) : Int) (((i + 1) * 256 : Nat) : Int) hu.row).mono (fun _ _ (hh : _ ∧ _) => (⟨hh.1, hu.kept hh.2⟩ : _ ∧ NW w n a m c l K g i _))
      have hgi : ∀ u (hu : NW w n a m c l K g i u), u.cell? ⟨g, i, none⟩ = some (.int .i64 (rkN true l (i * 256) : Nat)) := fun u hu => by
        rw [hu.own.cellAt i (by omega), cl_get l K i i (by omega), if_pos (Nat.le_refl _)]
      have hgj : ∀ u (hu : NW w n a m c l K g i u), u.cell? ⟨g, i + 1, none⟩ = some (.int .i64 0) := fun u hu => by
        rw [hu.own.cellAt (i + 1) (by omega), cl_get l K i (i + 1) (by omega), if_neg (by omega)]
      have hnx := fun u (hu : NW w n a m c l K g i u) => hu.next (fun k e => row_lt HH.out k e)
      generalize rkN true l ((i + 1) * 256) = z at *
      generalize onesN l ((i * 256 : Nat) : Int) (((i + 1) * 256 : Nat) : Int) = o at *
      generalize rkN true l (i * 256) = r at *
      rw [← hsum] at hnx
      have hr : r ≤ n := by omega
      have ho : o ≤ n := by omega
      obtain ⟨j, hj⟩ : ∃ j, j = i + 1 := ⟨_, rfl⟩
      rw [← hj] at hgj hnx
      have hjK : j < K := by omega
      have hjz : ∀ u (hu : NW w n a m c l K g i u), u.frozen? ⟨g, j, none⟩ = false := fun u hu => hu.own.frozenAt j
      have hS : ∀ u (hu : NW w n a m c l K g i u), (u.setCell ⟨g, j, none⟩ (.int .i64 (r + o : Nat))).cell? ⟨w.heap.size, 0, none⟩ = some (.int .i64 (n : Int)) ∧ (u.setCell ⟨g, j, none⟩ (.int .i64 (r + o : Nat))).cell? ⟨w.heap.size, 1, none⟩ = some (.slice a m c) ∧ (u.setCell ⟨g, j, none⟩ (.int .i64 (r + o : Nat))).cell? ⟨g, i, none⟩ = some (.int .i64 (r : Nat)) := fun u hu => by
        refine ⟨(hnx u hu).b0, (hnx u hu).b1, ?_⟩
        rw [World.cell?_setCell_other _ _ _ _ (by simp only [ne_eq, Addr.mk.injEq]; omega)]
        exact hgi u hu
      have c0 := hA.b0
      have c1 := hA.b1
      have c2 := hgi _ hA
      have HG := Lib.hid (And.intro hgi (And.intro hgj hjz))
      have HX := Lib.hid (And.intro hon (And.intro hnx hS))
      have e2 : (i : Int) * 256 = ((i * 256 : Nat) : Int) := by omega
      have e3 : IntKind.i64.wrap (((i * 256 : Nat) : Int) + 256) = (((i + 1) * 256 : Nat) : Int) := by rw [IntWalk.i64_in _ (by omega)]; omega
      clear hgi hgj hon hnx hsum hle hjz hS
      generalize hbx : w.heap.size = bx at *
      generalize hx1 : i * 256 = x1 at *
      generalize hx2 : (i + 1) * 256 = x2 at *
      have q1 : IntKind.i64.wrap ((i : Int) + 1) = (j : Int) := by rw [IntWalk.i64_in _ (by omega)]; omega
      have q2 : IntKind.i64.wrap ((r : Int) + (o : Int)) = ((r + o : Nat) : Int) := by rw [IntWalk.i64_in _ (by omega)]; omega
      have q3 : (j : Int) < (K : Int) := by omega
      have q4 : (i : Int) < (K : Int) := by omega
      have HJ := Lib.hid hj
      have HBX := Lib.hid hbx
      clear hj hbx hx1 hx2 hr ho hend
      generalize r + o = ro at *
      go_wp2
      go_region_held3 (fun w' => w'.cell? ⟨bx, 0, none⟩ = some (.int .i64 (n : Int)) ∧ w'.cell? ⟨bx, 1, none⟩ = some (.slice a m c) ∧ w'.cell? ⟨g, i, none⟩ = some (.int .i64 (r : Nat)))
        (first
          | go_keep
          | exact ⟨by rw [← HBX.out]; exact hA.b0, by rw [← HBX.out]; exact hA.b1, HG.out.1 _ hA⟩
          | exact HX.out.2.2 _ hA
          | exact HX.out.2.2 _ hA.drew)
        (first
          | (go_at_call 30; (with_reducible refine (HX.out.1 _ hA).mono ?_); rintro e u ⟨rfl, hA⟩; have c3 := HG.out.2.1 _ hA; have c4 := HG.out.2.2 _ hA)
          | (go_at_call 30; (with_reducible refine (HX.out.1 _ hA.drew).mono ?_); rintro e u ⟨rfl, hA⟩; have c3 := HG.out.2.1 _ hA; have c4 := HG.out.2.2 _ hA))
      all_goals
        have HA := Lib.hid (HX.out.2.1 _ hA)
        clear hA c0 c1 c2 c3 c4 q1 q2 q3 q4 HG HX e2 e3
        generalize u.setCell ⟨g, j, none⟩ (.int .i64 (ro : Nat)) = U at *
        go_wp2
        go_roundw
        case rel => exact ⟨i + 1, by omega, by go_num, by rw [← HJ.out]; exact HA.out⟩
        case measure => simp [intOf]; omega
    · obtain rfl : i = K - 1 := by omega
      have hq : ¬ ((K - 1 : Nat) : Int) < (K : Int) - 1 := by omega
      have hKl : K = l.length / 256 + 1 := by rw [HN.out]; exact HK.out
      have hown := hA.own
      rw [cl_ahd l K hKl] at hown
      obtain ⟨a', cap', e', hnums, hlen'⟩ := nums_of_own hown
      simp only [Value.slice.injEq, true_and] at e'
      obtain ⟨rfl, rfl⟩ := e'
      have hti := tight_new (some ⟨g, 0, none⟩) K K (ahd l) wr 30 (by decide) hnums hlen'.1 (by omega) (by
        intro x hx
        simp only [ahd, List.mem_map] at hx
        obtain ⟨j, -, rfl⟩ := hx
        have := rkN_le true l (j * 256)
        rw [HN.out] at this
        constructor <;> omega)
      have HT := Lib.hid hti
      have HA := Lib.hid hA
      clear hti hA hown hnums hlen' hKl
      go_wp2_with fail
      refine HT.out.mono ?_
      rintro e w3 ⟨W, g2, L2, m2, rfl, hrow, hg2, hb⟩
      have hA3 := HA.out.kept hb
      have l1 : w.heap.size + 1 < wr.heap.size := World.block_lt_of_cell? wr _ HA.out.r0
      have l3 : wr.heap.size ≤ w3.heap.size := hb.size
      obtain ⟨b0, b1, r0, r1, r2, r3, r4, r5, z0, z1, z2, z3, z4, z5, -, hr, hbel⟩ := hA3
      have HF := Lib.hid (And.intro hrow (And.intro hg2 (And.intro hr hbel)))
      clear hrow hg2 hb hr hbel HT HA
      generalize hbx : w.heap.size = bx at *
      have hne : bx + 1 < w3.heap.size := by omega
      have hne0 : bx < w3.heap.size := by omega
      go_wp2
      have hk : Kp (fun k => k = bx + 1) w3 ((((((w3.setCell ⟨bx + 1, 0, none⟩ (.int .i64 (n : Int))).setCell ⟨bx + 1, 1, none⟩ (.slice a m c)).setCell ⟨bx + 1, 2, none⟩ (.int .i64 (K : Int))).setCell ⟨bx + 1, 3, none⟩ (.int .i64 (W : Int))).setCell ⟨bx + 1, 4, none⟩ (.int .i64 (L2 : Int))).setCell ⟨bx + 1, 5, none⟩ (.slice (some ⟨g2, 0, none⟩) m2 m2)) :=
        Kp.setCell (p := ⟨bx + 1, 5, none⟩) (Kp.setCell (p := ⟨bx + 1, 4, none⟩) (Kp.setCell (p := ⟨bx + 1, 3, none⟩) (Kp.setCell (p := ⟨bx + 1, 2, none⟩) (Kp.setCell (p := ⟨bx + 1, 1, none⟩) (Kp.setCell (p := ⟨bx + 1, 0, none⟩) (Kp.refl (fun k => k = bx + 1) w3) (.inl rfl) _) (.inl rfl) _) (.inl rfl) _) (.inl rfl) _) (.inl rfl) _) (.inl rfl) _
      have hk2 := hk.alloc (.cells #[.int .i64 (K : Int), .int .i64 (W : Int), .int .i64 (L2 : Int), .slice (some ⟨g2, 0, none⟩) m2 m2] 33)
      have k0 : (((((((w3.setCell ⟨bx + 1, 0, none⟩ (.int .i64 (n : Int))).setCell ⟨bx + 1, 1, none⟩ (.slice a m c)).setCell ⟨bx + 1, 2, none⟩ (.int .i64 (K : Int))).setCell ⟨bx + 1, 3, none⟩ (.int .i64 (W : Int))).setCell ⟨bx + 1, 4, none⟩ (.int .i64 (L2 : Int))).setCell ⟨bx + 1, 5, none⟩ (.slice (some ⟨g2, 0, none⟩) m2 m2)).alloc (.cells #[.int .i64 (K : Int), .int .i64 (W : Int), .int .i64 (L2 : Int), .slice (some ⟨g2, 0, none⟩) m2 m2] 33)).cell? ⟨bx + 1, 0, none⟩ = some (.int .i64 (n : Int)) := (cell_old _ _ _ _ (by simpa using hne)).trans (by simp [go_sem, r0])
      have k1 : (((((((w3.setCell ⟨bx + 1, 0, none⟩ (.int .i64 (n : Int))).setCell ⟨bx + 1, 1, none⟩ (.slice a m c)).setCell ⟨bx + 1, 2, none⟩ (.int .i64 (K : Int))).setCell ⟨bx + 1, 3, none⟩ (.int .i64 (W : Int))).setCell ⟨bx + 1, 4, none⟩ (.int .i64 (L2 : Int))).setCell ⟨bx + 1, 5, none⟩ (.slice (some ⟨g2, 0, none⟩) m2 m2)).alloc (.cells #[.int .i64 (K : Int), .int .i64 (W : Int), .int .i64 (L2 : Int), .slice (some ⟨g2, 0, none⟩) m2 m2] 33)).cell? ⟨bx + 1, 1, none⟩ = some (.slice a m c) := (cell_old _ _ _ _ (by simpa using hne)).trans (by simp [go_sem, r1])
      have k2 : (((((((w3.setCell ⟨bx + 1, 0, none⟩ (.int .i64 (n : Int))).setCell ⟨bx + 1, 1, none⟩ (.slice a m c)).setCell ⟨bx + 1, 2, none⟩ (.int .i64 (K : Int))).setCell ⟨bx + 1, 3, none⟩ (.int .i64 (W : Int))).setCell ⟨bx + 1, 4, none⟩ (.int .i64 (L2 : Int))).setCell ⟨bx + 1, 5, none⟩ (.slice (some ⟨g2, 0, none⟩) m2 m2)).alloc (.cells #[.int .i64 (K : Int), .int .i64 (W : Int), .int .i64 (L2 : Int), .slice (some ⟨g2, 0, none⟩) m2 m2] 33)).cell? ⟨bx + 1, 2, none⟩ = some (.int .i64 (K : Int)) := (cell_old _ _ _ _ (by simpa using hne)).trans (by simp [go_sem, r2])
      have k3 : (((((((w3.setCell ⟨bx + 1, 0, none⟩ (.int .i64 (n : Int))).setCell ⟨bx + 1, 1, none⟩ (.slice a m c)).setCell ⟨bx + 1, 2, none⟩ (.int .i64 (K : Int))).setCell ⟨bx + 1, 3, none⟩ (.int .i64 (W : Int))).setCell ⟨bx + 1, 4, none⟩ (.int .i64 (L2 : Int))).setCell ⟨bx + 1, 5, none⟩ (.slice (some ⟨g2, 0, none⟩) m2 m2)).alloc (.cells #[.int .i64 (K : Int), .int .i64 (W : Int), .int .i64 (L2 : Int), .slice (some ⟨g2, 0, none⟩) m2 m2] 33)).cell? ⟨bx + 1, 3, none⟩ = some (.int .i64 (W : Int)) := (cell_old _ _ _ _ (by simpa using hne)).trans (by simp [go_sem, r3])
      have k4 : (((((((w3.setCell ⟨bx + 1, 0, none⟩ (.int .i64 (n : Int))).setCell ⟨bx + 1, 1, none⟩ (.slice a m c)).setCell ⟨bx + 1, 2, none⟩ (.int .i64 (K : Int))).setCell ⟨bx + 1, 3, none⟩ (.int .i64 (W : Int))).setCell ⟨bx + 1, 4, none⟩ (.int .i64 (L2 : Int))).setCell ⟨bx + 1, 5, none⟩ (.slice (some ⟨g2, 0, none⟩) m2 m2)).alloc (.cells #[.int .i64 (K : Int), .int .i64 (W : Int), .int .i64 (L2 : Int), .slice (some ⟨g2, 0, none⟩) m2 m2] 33)).cell? ⟨bx + 1, 4, none⟩ = some (.int .i64 (L2 : Int)) := (cell_old _ _ _ _ (by simpa using hne)).trans (by simp [go_sem, r4])
      have k5 : (((((((w3.setCell ⟨bx + 1, 0, none⟩ (.int .i64 (n : Int))).setCell ⟨bx + 1, 1, none⟩ (.slice a m c)).setCell ⟨bx + 1, 2, none⟩ (.int .i64 (K : Int))).setCell ⟨bx + 1, 3, none⟩ (.int .i64 (W : Int))).setCell ⟨bx + 1, 4, none⟩ (.int .i64 (L2 : Int))).setCell ⟨bx + 1, 5, none⟩ (.slice (some ⟨g2, 0, none⟩) m2 m2)).alloc (.cells #[.int .i64 (K : Int), .int .i64 (W : Int), .int .i64 (L2 : Int), .slice (some ⟨g2, 0, none⟩) m2 m2] 33)).cell? ⟨bx + 1, 5, none⟩ = some (.slice (some ⟨g2, 0, none⟩) m2 m2) := (cell_old _ _ _ _ (by simpa using hne)).trans (by simp [go_sem, r5])
      generalize (((((((w3.setCell ⟨bx + 1, 0, none⟩ (.int .i64 (n : Int))).setCell ⟨bx + 1, 1, none⟩ (.slice a m c)).setCell ⟨bx + 1, 2, none⟩ (.int .i64 (K : Int))).setCell ⟨bx + 1, 3, none⟩ (.int .i64 (W : Int))).setCell ⟨bx + 1, 4, none⟩ (.int .i64 (L2 : Int))).setCell ⟨bx + 1, 5, none⟩ (.slice (some ⟨g2, 0, none⟩) m2 m2)).alloc (.cells #[.int .i64 (K : Int), .int .i64 (W : Int), .int .i64 (L2 : Int), .slice (some ⟨g2, 0, none⟩) m2 m2] 33)) = U7 at *
      refine bodyPost_ret (v := .agg #[.int .i64 (n : Int), .slice a m c, .int .i64 (K : Int), .int .i64 (W : Int), .int .i64 (L2 : Int), .slice (some ⟨g2, 0, none⟩) m2 m2]) (by simp [results, Try.results12, go_sem, k0, k1, k2, k3, k4, k5]) rfl ?_
      obtain ⟨hrow, hg2, hr, hbel⟩ := HF.out
      have hrl := fun k e => row_lt HH.out k e
      rw [hbx] at hrl
      unfold NewEnd
      rw [hbx]
      refine ⟨⟨n, a, m, c, K, W, L2, some ⟨g2, 0, none⟩, m2, m2⟩, rfl, ⟨row_kp hr hk2 (fun k e => by have := hrl k e; omega), HN.out, hl, .inr (irow_kp hrow hk2 ?_)⟩, ⟨rfl, rfl, rfl⟩, hbel.trans (hk2.toBelow (by omega) (fun k hk' e => by omega))⟩
      intro k e
      simp only [Value.ownBlock, Option.some.injEq] at e
      omega

end Go.Proofs.Ytfhlcclbjagdmaa

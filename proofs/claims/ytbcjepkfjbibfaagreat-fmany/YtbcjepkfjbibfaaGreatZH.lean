/- Contracts carried over: Same of rows of bits; Width, At, Same, List of rows of numbers. -/
import Derived.Test.YtbcjepkfjbibfaaGreatBc
set_option maxRecDepth 100000
namespace Go.Proofs.YtbcjepkfjbibfaaGreat
open Go.RowKit
open M
attribute [local go_sem ↓] Go.wp_at_zero Go.wp_at_succ


set_option maxHeartbeats 1000000 in
theorem sameWords_any (a1 a2 : Option Addr) (m1 c1 m2 c2 : Nat) (l1 l2 : List Bool) (w : World) (h1 : RowAt w (.slice a1 m1 c1) l1) (h2 : RowAt w (.slice a2 m2 c2) l2) (hl : l1.length = l2.length) (hb : l1.length ≤ 1000000000) :
    Calls Tryz.prog 89 #[.slice a1 m1 c1, .slice a2 m2 c2] w fun e w' => e = .returned (.bool (decide (l1 = l2))) ∧ w = w' := by
  obtain ⟨e1, f1, g1, k1⟩ := h1.some
  obtain ⟨e2, f2, g2, k2⟩ := h2.some
  have em : m2 = m1 := by rw [e1, e2, hl]
  subst em
  have hm : m2 ≤ 1000000000 := by rw [e1]; unfold nw; omega
  unfold maxLen at g1 g2
  have K1 := Lib.hid k1
  have K2 := Lib.hid k2
  have HL := Lib.hid hl
  have E1 := Lib.hid e1
  clear h1 h2 k1 k2 hl e1 e2
  go_enter Tryz.func89, Tryz.ntmps89
  go_wp2
  go_loop [14] (fun v => ∃ i : Nat, i ≤ m2 ∧ v = .int .i64 (i : Int) ∧ ∀ k, k < i → wd l1 k = wd l2 k) (fun v => m2 - (intOf v).toNat)
  case atStart => exact ⟨0, Nat.zero_le _, rfl, fun k hk => absurd hk (by omega)⟩
  case round =>
    obtain ⟨i, hi, rfl, hall⟩ := hrel
    have HA := Lib.hid hall
    clear hall
    by_cases hlt : i < m2
    · obtain ⟨x1, rfl, d1⟩ := K1.out i hlt
      obtain ⟨x2, rfl, d2⟩ := K2.out i hlt
      by_cases he : wd l1 i = wd l2 i
      · have hall2 : ∀ k, k < i + 1 → wd l1 k = wd l2 k := fun k hk => by
          by_cases e : k = i
          · subst e; exact he
          · exact HA.out k (by omega)
        have HA2 := Lib.hid hall2
        rw [← he] at d2
        clear he hall2
        generalize hy : wd l1 i = y at d1 d2
        clear hy
        go_wp2
        go_round
        case rel => exact ⟨i + 1, by omega, by go_num, HA2.out⟩
        case measure => simp [intOf]; omega
      · have hne : l1 ≠ l2 := fun e => he (by rw [e])
        have HNE := Lib.hid hne
        clear hne
        have hb : ((wd l1 i : Int) != (wd l2 i : Int)) = true := by simp; omega
        generalize wd l1 i = y at *
        generalize wd l2 i = z at *
        go_wp2
        go_ret
        exact ⟨ret_bool (by rw [decide_eq_false HNE.out]), rfl⟩
    · obtain rfl : i = m2 := by omega
      have heq : l1 = l2 := wd_ext l1 l2 HL.out (fun k hk => HA.out k (by rw [E1.out]; exact hk))
      have HQ := Lib.hid heq
      clear heq
      go_wp2
      go_ret
      exact ⟨ret_bool (by rw [decide_eq_true HQ.out]), rfl⟩

set_option maxHeartbeats 1000000 in
theorem same_any (a1 a2 : Option Addr) (m1 c1 m2 c2 : Nat) (l1 l2 : List Bool) (w : World) (h1 : RowAt w (.slice a1 m1 c1) l1) (h2 : RowAt w (.slice a2 m2 c2) l2) (hb1 : l1.length ≤ 1000000000) :
    Calls Tryz.prog 63 #[.agg #[.int .i64 (l1.length : Int), .slice a1 m1 c1], .agg #[.int .i64 (l2.length : Int), .slice a2 m2 c2]] w fun e w' => e = .returned (.bool (decide (l1 = l2))) ∧ Below w.heap.size w w' := by
  have hbox := boxed2 w (.cells #[.int .i64 (l1.length : Int), .slice a1 m1 c1] 30) (.cells #[.int .i64 (l2.length : Int), .slice a2 m2 c2] 30)
  have HB := Lib.hid hbox
  clear hbox
  by_cases hl : l1.length = l2.length
  · have hw := fun w1 (hk : Below w.heap.size w w1) => sameWords_any a1 a2 m1 c1 m2 c2 l1 l2 w1 (h1.kept hk) (h2.kept hk) hl hb1
    have HW := Lib.hid hw
    clear hw h1 h2
    rw [← hl] at HB ⊢
    clear hl
    generalize l1.length = n at *
    go_enter Tryz.func63, Tryz.ntmps63
    go_wp2_with fail
    refine (HW.out _ HB.out).mono ?_
    rintro e w' ⟨rfl, rfl⟩
    go_wp2
    go_ret
    exact ⟨rfl, HB.out⟩
  · have hne : l1 ≠ l2 := fun e => hl (by rw [e])
    have HNE := Lib.hid hne
    clear h1 h2 hne
    generalize l1.length = n1 at *
    generalize l2.length = n2 at *
    have hbq : ((n1 : Int) == (n2 : Int)) = false := by simp; omega
    have hbq2 : (n1 == n2) = false := by simp; omega
    go_enter Tryz.func63, Tryz.ntmps63
    go_wp2
    go_ret
    exact ⟨ret_bool (by rw [decide_eq_false HNE.out]), HB.out⟩



set_option maxHeartbeats 400000 in
theorem iwidth_any (n W L : Nat) (a : Option Addr) (m c : Nat) (w : World) :
    Calls Tryz.prog 25 #[intsV n W L (.slice a m c)] w fun e w' => e = .returned (.int .i64 (W : Int)) ∧ Below w.heap.size w w' := by
  unfold intsV
  go_enter Tryz.func25, Tryz.ntmps25
  go_wp2
  go_ret
  exact ⟨rfl, (Below.refl _ _).alloc (Nat.le_refl _) _⟩

set_option maxHeartbeats 400000 in
theorem iat_any (n W L : Nat) (a : Option Addr) (m c : Nat) (xs : List Int) (i : Int) (w : World) (h : IRow w n W L a m c xs) :
    Calls Tryz.prog 54 #[intsV n W L (.slice a m c), .int .i64 i] w fun e w' => e = .returned (.int .i64 (atI xs i)) ∧ Below w.heap.size w w' := by
  have hal := fun o => ((Below.refl w.heap.size w).alloc (Nat.le_refl _) o)
  have hl := h.lb
  have hn := h.len
  by_cases hi : i < 0 ∨ (n : Int) ≤ i
  · have e : atI xs i = -1 := by unfold atI; rw [if_neg (by omega)]
    rw [e]
    have hb := fun o => iget_out n W L a m c i (w.alloc o) hi
    have HB := Lib.hid hb
    clear hb h hi e
    unfold intsV at *
    go_enter Tryz.func54, Tryz.ntmps54
    go_wp2_with fail
    refine (HB.out _).mono ?_
    rintro e w' ⟨rfl, hb⟩
    have HB2 := Lib.hid hb
    clear hb HB
    go_wp2
    go_ret
    exact ⟨rfl, (hal _).trans (HB2.out.mono (by simp))⟩
  · obtain ⟨k, rfl⟩ := Int.eq_ofNat_of_zero_le (a := i) (by omega)
    have e : atI xs k = xs.getD k 0 := by unfold atI; rw [if_pos (by omega)]; simp
    rw [e]
    have hb := fun o => iget_in n W L a m c xs k (w.alloc o) (h.row.kept (hal o)) hn h.mul hl (by have := h.hn; omega) h.hW h.fit (by omega)
    have HB := Lib.hid hb
    clear hb h hi e
    unfold intsV at *
    generalize xs.getD k 0 = x at *
    go_enter Tryz.func54, Tryz.ntmps54
    go_wp2_with fail
    refine (HB.out _).mono ?_
    rintro e w' ⟨rfl, hb⟩
    have HB2 := Lib.hid hb
    clear hb HB
    go_wp2
    go_ret
    exact ⟨rfl, (hal _).trans (HB2.out.mono (by simp))⟩



set_option maxHeartbeats 1000000 in
theorem isame_any (n1 W1 L1 n2 W2 L2 : Nat) (a1 a2 : Option Addr) (m1 c1 m2 c2 : Nat) (xs ys : List Int) (w : World) (h1 : IRow w n1 W1 L1 a1 m1 c1 xs) (h2 : IRow w n2 W2 L2 a2 m2 c2 ys) :
    Calls Tryz.prog 64 #[intsV n1 W1 L1 (.slice a1 m1 c1), intsV n2 W2 L2 (.slice a2 m2 c2)] w fun e w' => e = .returned (.bool (decide (W1 = W2 ∧ xs = ys))) ∧ Below w.heap.size w w' := by
  have hal := fun o1 o2 => boxed2 w o1 o2
  by_cases hn : n1 = n2
  · by_cases hW : W1 = W2
    · subst hn hW
      have hLL : L2 = L1 := by rw [← h1.mul, ← h2.mul]
      subst hLL
      have hr1 : (rowB xs W1).length = L2 := by rw [rowB_length, h1.len, h1.mul]
      have hr2 : (rowB ys W1).length = L2 := by rw [rowB_length, h2.len, h2.mul]
      have hs := fun o1 o2 => same_any a1 a2 m1 c1 m2 c2 (rowB xs W1) (rowB ys W1) ((w.alloc o1).alloc o2) (h1.row.kept (hal o1 o2)) (h2.row.kept (hal o1 o2)) (by rw [hr1]; exact h1.lb)
      rw [hr1, hr2] at hs
      have hb : decide (W1 = W1 ∧ xs = ys) = decide (rowB xs W1 = rowB ys W1) := by
        rw [decide_eq_decide]
        constructor
        · rintro ⟨-, rfl⟩; rfl
        · intro e
          exact ⟨rfl, rowB_inj W1 xs ys (by rw [h1.len, h2.len]) h1.fit h2.fit e⟩
      rw [hb]
      have HS := Lib.hid hs
      clear hs hr1 hr2 h1 h2 hb
      generalize decide (rowB xs W1 = rowB ys W1) = b at *
      unfold intsV at *
      go_enter Tryz.func64, Tryz.ntmps64
      go_wp2_with fail
      refine (HS.out _ _).mono ?_
      rintro e w' ⟨rfl, hb⟩
      have HB2 := Lib.hid hb
      clear hb HS
      go_wp2
      go_ret
      exact ⟨rfl, (hal _ _).trans (HB2.out.mono (by simp; omega))⟩
    · have hb : decide (W1 = W2 ∧ xs = ys) = false := by simp [hW]
      rw [hb]
      subst hn
      have hq1 : ((W1 : Int) == (W2 : Int)) = false := by simp; omega
      have hq2 : (W1 == W2) = false := by simp; omega
      clear h1 h2 hb
      unfold intsV at *
      go_enter Tryz.func64, Tryz.ntmps64
      go_wp2
      go_ret
      exact ⟨rfl, hal _ _⟩
  · have hb : decide (W1 = W2 ∧ xs = ys) = false := by
      simp only [decide_eq_false_iff_not]
      rintro ⟨-, rfl⟩
      exact hn (by rw [← h1.len, ← h2.len])
    rw [hb]
    have hq1 : ((n1 : Int) == (n2 : Int)) = false := by simp; omega
    have hq2 : (n1 == n2) = false := by simp; omega
    clear h1 h2 hb
    unfold intsV at *
    go_enter Tryz.func64, Tryz.ntmps64
    go_wp2
    go_ret
    exact ⟨rfl, hal _ _⟩



set_option maxHeartbeats 1000000 in
theorem ilist_any (n W L : Nat) (a : Option Addr) (m c : Nat) (xs : List Int) (w : World) (h : IRow w n W L a m c xs) :
    Calls Tryz.prog 23 #[intsV n W L (.slice a m c)] w fun e w' => ∃ g, e = .returned (.slice (some ⟨g, 0, none⟩) n n) ∧ w.heap.size ≤ g ∧ w'.ownsRow w.heap.size 3 1 (.slice (some ⟨g, 0, none⟩) n n) n (xs.map (Value.int .i64)) ∧ Below w.heap.size w w' := by
  obtain ⟨i0, hi, hz0, hz1, hz2⟩ := info_parts info3
  have hal := ((Below.refl w.heap.size w).alloc (Nat.le_refl _) (.cells #[.int .i64 (n : Int), .int .i64 (W : Int), .int .i64 (L : Int), .slice a m c] 32))
  have hn := h.hn
  have hlt0 := Lib.hid (row_lt h.row)
  have hbx := IBx.new w n W L (.slice a m c)
  have HH := Lib.hid (And.intro (h.kept hal) (And.intro hbx hal))
  clear h hal hbx
  unfold intsV at *
  go_enter Tryz.func23, Tryz.ntmps23
  go_wp2_with (first | (at_make; refine wpList_make_full _ rfl _ _ 22 rfl (w.heap.size + 1) 3 i0 (.int .i64 0) 1 Tryz.underlying22 hi hz0 hz1 _ _ _ _ n rfl rfl rfl rfl ?b2 ?b3 ?b4 ?_))
  case b2 => rw [hz2]; omega
  case b3 => unfold maxLen; omega
  case b4 => simp
  intro w1 hown hgrow
  obtain ⟨hrow, hbx, hal⟩ := HH.out
  have hg1 := below_grown hgrow
  have hbx1 := hbx.kept hg1
  have hrow1 := hrow.kept hg1
  have hbel1 := hal.trans (hg1.mono (by simp))
  rw [toList_madeCells_one] at hown
  have hown0 : w1.ownsRow (w.heap.size + 1) 3 1 (Value.slice (some ⟨w.heap.size + 1, 0, none⟩) n n) n (liCells xs n 0) := by
    rw [show liCells xs n 0 = List.replicate n (Value.int .i64 0) from ?_]
    · exact hown
    · apply List.ext_getElem <;> simp [liCells]
  have H1 := Lib.hid (And.intro hown0 (And.intro hbx1 (And.intro hrow1 hbel1)))
  clear hown hgrow hrow hbx hal hg1 hbx1 hrow1 hbel1 hown0 HH
  go_wp2
  go_loopw [10] (fun v wr => ∃ i : Nat, i ≤ n ∧ v = .int .i64 (i : Int) ∧ wr.ownsRow (w.heap.size + 1) 3 1 (Value.slice (some ⟨w.heap.size + 1, 0, none⟩) n n) n (liCells xs n i) ∧ IBx wr w.heap.size n W L (.slice a m c) ∧ IRow wr n W L a m c xs ∧ Below w.heap.size w wr) (fun v _ => n - (intOf v).toNat)
  case atStart => exact ⟨0, Nat.zero_le _, rfl, H1.out⟩
  case round =>
    obtain ⟨i, hik, rfl, r1, r2, r3, r4⟩ := hrel
    by_cases hlt : i < n
    · have hln := r3.len
      have hat := iat_any n W L a m c xs (i : Int) wr r3
      rw [atI_in xs i (by omega)] at hat
      obtain ⟨c0, c1, c2, c3⟩ := r2
      have hbx2 : IBx wr w.heap.size n W L (.slice a m c) := ⟨c0, c1, c2, c3⟩
      have HA := Lib.hid (And.intro hat (And.intro r1 (And.intro hbx2 (And.intro r3 r4))))
      clear hat r1 r3 r4 hbx2
      have q1 : (i : Int) < (n : Int) := by omega
      have q2 : (0 : Int) ≤ (i : Int) := by omega
      unfold intsV at HA
      go_wp2_with fail
      refine HA.out.1.mono ?_
      rintro e w5 ⟨rfl, hb⟩
      clear c0 c1 c2 c3
      obtain ⟨-, r1, r2, r3, r4⟩ := HA.out
      have r1 := own_kept r1 hb
      have hfz := r1.frozenAt i
      have hcw : w5.cell? ⟨w.heap.size + 1, i, none⟩ = some (.int .i64 0) := by
        rw [r1.cellAt i (by omega)]; simp [liCells, hlt]
      have hst := (r1.stored i (.int .i64 (xs.getD i 0))).1
      rw [liCells_set xs n i] at hst
      have r2 := r2.kept hb
      have r3 := r3.kept hb
      have r4 := r4.trans (hb.mono r4.size)
      have hk : Kp (fun k => k = w.heap.size + 1) w5 (w5.setCell ⟨w.heap.size + 1, i, none⟩ (.int .i64 (xs.getD i 0))) := Kp.setCell (p := ⟨w.heap.size + 1, i, none⟩) (Kp.refl (fun k => k = w.heap.size + 1) w5) (.inl rfl) _
      have s2 := r2.kp hk (by omega)
      have s3 := r3.kp hk (fun k e ek => by have := hlt0.out k e; omega)
      have s4 := r4.trans (hk.toBelow r4.size (fun k hk e => by omega))
      have HX := Lib.hid (And.intro hst (And.intro s2 (And.intro s3 s4)))
      clear r1 r2 r3 r4 hst s2 s3 s4 hk hb HA
      generalize xs.getD i 0 = x at *
      go_wp2
      go_roundw
      case rel => exact ⟨i + 1, by omega, by go_num, HX.out⟩
      case measure => simp [intOf]; omega
    · obtain rfl : i = n := by omega
      have hln := r3.len
      rw [← hln, liCells_all, hln] at r1
      have HX := Lib.hid (And.intro (own_mono r1 (Nat.le_succ _)) r4)
      clear r1 r2 r3 r4 H1
      go_wp2
      go_ret
      exact ⟨_, rfl, by omega, HX.out⟩


end Go.Proofs.YtbcjepkfjbibfaaGreat

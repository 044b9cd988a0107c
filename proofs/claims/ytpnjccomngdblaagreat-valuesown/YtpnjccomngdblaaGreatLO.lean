/- The walk of ValuesOwn. -/
import Derived.Test.YtpnjccomngdblaaGreatLOa
set_option maxRecDepth 100000
namespace Go.Proofs.YtpnjccomngdblaaGreat
open Go.RowKit
open M
attribute [local go_sem ↓] Go.wp_at_zero Go.wp_at_succ

variable {w u w' : World} {b c : Nat} {F : FQ} {E : Option Addr} {ss : List ByteArray}
set_option linter.unusedSimpArgs false in
set_option maxHeartbeats 16000000 in
theorem own_walk (A : Option Addr) (n0 c0 : Nat) (xs : List ByteArray) (x0 x1 x2 : Int) (w : World) (hA : StrsAt w A xs) (hx : xs.length = n0) :
    Calls Tryz.prog 6 #[.slice A n0 c0, .agg #[.int .i64 x0, .int .i64 x1, .int .i64 x2]] w fun e w' => e = .returned (.bool true) ∧ Below w.heap.size w w' := by
  obtain ⟨w1, hw1⟩ : ∃ w1, w1 = w.alloc (.cells #[.int .i64 x0, .int .i64 x1, .int .i64 x2] 67) := ⟨_, rfl⟩
  have hqv : TR3 w1 w.heap.size x0 x1 x2 := by rw [hw1]; exact TR3.new _ _ _ _
  have hb1 : Below w.heap.size w w1 := by rw [hw1]; exact al w _
  have HX := Lib.hid (And.intro hA hx)
  obtain ⟨qb, hqb⟩ : ∃ qb, w.heap.size = qb := ⟨_, rfl⟩
  rw [hqb] at hqv hb1
  have H1 := Lib.hid (And.intro hqv hb1)
  have HQ := Lib.hid hqb
  clear hA hx hqv hb1
  go_enter Tryz.func6, Tryz.ntmps6
  go_upto_region 1 with fail
  rw [← hw1]
  clear hw1
  go_wp2_with fail
  (with_reducible refine (awake_v _).mono ?_)
  rintro e z1 ⟨rfl, hb⟩
  have H2 := Lib.hid (And.intro (H1.out.1.kept hb) (H1.out.2.trans (hb.mono (by have := World.block_lt_of_cell? w1 _ H1.out.1.c0; simp at this; omega))))
  clear hb H1
  have HF := Lib.hid (few_all A n0 c0 xs z1 (HX.out.1.kept (by rw [HQ.out]; exact H2.out.2)) HX.out.2)
  go_wp2_with fail
  (with_reducible refine HF.out.mono ?_)
  rintro e z2 ⟨B, m, cp, ss, rfl, rfl, hm10, hB, hsz, hbg, hno, hb2⟩
  have hsl : ∀ i, i < ss.length → (tV ss i).size ≤ 20 := fun i hi => hsz _ (tV_mem hi)
  have HG := Lib.hid (And.intro (vnew_ok B ss.length cp ss z2 hB rfl (by omega)) (And.intro hB (And.intro (H2.out.1.kept hb2) (And.intro hsl (H2.out.2.trans (hb2.mono (by have := World.block_lt_of_cell? z1 _ H2.out.1.c0; simp at this; omega)))))))
  clear hB hsz hno hb2 HF H2 hsl
  go_wp2_with fail
  (with_reducible refine HG.out.1.mono ?_)
  rintro e z4 ⟨F, E, c, rfl, hV, hb4⟩
  have hbs := below_stored z4 F E ss.length c
  have HL := Lib.hid (And.intro (show LQ3 z4 z4.heap.size F E c B ss qb x0 x1 x2 _ from ⟨LQV.stored (c := c) hV (HG.out.2.1.kept hb4) (Below.refl _ _), (HG.out.2.2.1.kept hb4).kept hbs⟩) (HG.out.2.2.2.2.trans (hb4.mono (by have := World.block_lt_of_cell? z2 _ HG.out.2.2.1.c0; simp at this; omega))))
  have hqu : qb ≤ z4.heap.size := by have := World.block_lt_of_cell? z4 _ (HG.out.2.2.1.kept hb4).c0; simp at this; omega
  clear hV hb4 hbs
  go_upto_region 4 with (refine store40 (op := ⟨none, .store 40 (.tmp 7) (.tmp 27), _, _, _, _⟩) F E ss.length c z4.heap.size (.tmp 7) (.tmp 27) rfl rfl rfl rfl (there18 z4) ?_)
  generalize (z4.alloc (.cells #[.int .i64 0, .int .i64 0, .slice none 0 0, .int .i64 0, .slice none 0 0, .int .i64 0, .int .i64 0, .int .i64 0, .slice none 0 0, .int .i64 0, .int .i64 0, .int .i64 0, .slice none 0 0, .int .i64 0, .int .i64 0, .int .i64 0, .slice none 0 0, .slice none 0 0] 40)).setCells z4.heap.size 0 [.int .i64 (F.N : Int), .int .i64 F.Z, .slice F.wa F.wW F.wc, .int .i64 (F.R.n : Int), .slice F.R.a F.R.m F.R.c, .int .i64 (F.R.cn : Int), .int .i64 (F.R.cW : Int), .int .i64 (F.R.cL : Int), .slice F.R.a2 F.R.m2 F.R.c2, .int .i64 (F.S.n : Int), .int .i64 (F.S.W : Int), .int .i64 (F.S.L : Int), .slice F.S.a F.S.m F.S.c, .int .i64 (F.P.n : Int), .int .i64 (F.P.W : Int), .int .i64 (F.P.L : Int), .slice F.P.a F.P.m F.P.c, .slice E ss.length c] = z5 at *
  obtain ⟨bx, hbx2⟩ : ∃ bx, z4.heap.size = bx := ⟨_, rfl⟩
  simp only [hbx2] at HL hqu ⊢
  have HBX := Lib.hid hbx2
  clear hbx2
  have HW := Lib.hid HL.out.2
  have hlen := fun (u : World) (hu : LQ3 z4 bx F E c B ss qb x0 x1 x2 u) => vlen_any F E ss.length c u
  have HLN := Lib.hid hlen
  clear hlen
  go_upto_region 6 with (first | (refine load40 HL.out.1.lq.vx _ (by with_reducible rfl) rfl rfl ?_) | (go_at_call 22; (with_reducible refine (HLN.out _ HL.out.1).mono ?_); rintro e z6 ⟨rfl, hb6⟩; have H6 := Lib.hid (HL.out.1.kept hb6); clear hb6 HL))
  by_cases hl0 : ss.length = 0
  · have q0 : ((ss.length : Int) == 0) = true := by simp [hl0]
    go_wp2
    go_ret
    exact ⟨rfl, by rw [HQ.out]; exact HW.out.trans (H6.out.lq.vx.bel.mono (by rw [HBX.out]; exact hqu))⟩
  · have q0 : ((ss.length : Int) == 0) = false := by simp only [beq_eq_false_iff_ne, ne_eq]; omega
    have q0' : (ss.length : Int) ≠ 0 := by omega
    obtain ⟨wi, i, hil, hie⟩ := brought0 x0 ss.length (by omega) (by omega)
    have hsz := HG.out.2.2.2.1 i hil
    obtain ⟨bb, off, hBe, hbl, hcs⟩ := str_all H6.out.lq.st (by omega)
    obtain ⟨n, hn⟩ : ∃ n, (tV ss i).size = n := ⟨_, rfl⟩
    obtain ⟨wa1, wa2, wa3, a, han, hae⟩ := brought1 x1 n (by omega)
    obtain ⟨wk1, wk2, wk3, wk4, wk5, k, hkn, hke⟩ := brought2 x2 n a (by omega) han
    obtain ⟨hpr, hmi, hme, hps⟩ := part_own ss (i := i) (a := a) (k := k) hil (by omega)
    have hpart := fun (u : World) (hu : LQ3 z4 bx F E c B ss qb x0 x1 x2 u) => part_ok (c := c) i (a : Int) (k : Int) hu.lq.vx.vi hil
    simp only [hpr] at hpart
    have hcm := ids_cn ss ((tV ss i).extract a (a + k)) ss.length
    have hids := fun (u : World) (hu : LQ3 z4 bx F E c B ss qb x0 x1 x2 u) => hu.lq.vx.ids ((tV ss i).extract a (a + k)) (by omega)
    have hcnt := fun (u : World) (hu : LQ3 z4 bx F E c B ss qb x0 x1 x2 u) => hu.lq.vx.count ((tV ss i).extract a (a + k)) (by omega)
    have hequ := fun (u : World) (hu : LQ3 z4 bx F E c B ss qb x0 x1 x2 u) => hu.lq.vx.equal (tV ss i) (by omega)
    have hil2 := idN_le ss ((tV ss i).extract a (a + k)) ss.length
    have hel2 := eqNV_le ss (tV ss i) ss.length
    have hcn2 := cn_le ss ((tV ss i).extract a (a + k)) ss.length
    have hcs1 := fun (u : World) (hu : Below z6.heap.size z6 u) => hcs i hil u hu
    have hcs2 := fun (u : World) (hu : Below z6.heap.size z6 u) (q : Nat) (hq : q < ss.length) => hcs q hq u hu
    have hQe : ∀ j, j < (eqV ss (tV ss i)).length → ∃ q : Nat, (eqV ss (tV ss i)).getD j 0 = (q : Int) ∧ q < ss.length ∧ tV ss q = tV ss i := fun j hj => by
      obtain ⟨q, h1, h2, h3⟩ := eq_mem.1 (getD_mem (b := 0) hj)
      exact ⟨q, h1, h2, h3⟩
    change (idsV ss _).length ≤ _ at hil2
    change (eqV ss _).length ≤ _ at hel2
    change (idsV ss _).length ≤ _ at hcm
    obtain ⟨t, ht⟩ : ∃ t, a + k = t := ⟨_, rfl⟩
    simp only [ht] at hpart hids hcnt hcm hil2 hcn2 hmi hps
    obtain ⟨s, hs⟩ : ∃ s, tV ss i = s := ⟨_, rfl⟩
    simp only [hs] at hpart hids hcnt hequ hcm hil2 hel2 hcn2 hcs1 hQe hmi hme hps hn hsz
    obtain ⟨p, hp⟩ : ∃ p, s.extract a t = p := ⟨_, rfl⟩
    simp only [hp] at hpart hids hcnt hcm hil2 hcn2 hmi hps
    obtain ⟨I, hI⟩ : ∃ I, idsV ss p = I := ⟨_, rfl⟩
    simp only [hI] at hids hcm hil2 hmi
    obtain ⟨Q, hQ⟩ : ∃ Q, eqV ss s = Q := ⟨_, rfl⟩
    simp only [hQ] at hequ hel2 hQe hme
    obtain ⟨N, hN⟩ : ∃ N, cnV ss p ss.length = N := ⟨_, rfl⟩
    simp only [hN] at hcnt hcm hcn2
    obtain ⟨il, hil3⟩ : ∃ il, I.length = il := ⟨_, rfl⟩
    obtain ⟨ql, hql3⟩ : ∃ ql, Q.length = ql := ⟨_, rfl⟩
    rw [hil3] at hil2 hcm
    rw [hql3] at hel2 hQe
    simp only [hil3] at hids
    simp only [hql3] at hequ
    have hia := hasA_all hmi
    have hqa := hasA_all hme
    rw [hil3] at hia
    rw [hql3] at hqa
    have HC := Lib.hid (And.intro hpart (And.intro hids (And.intro hcnt (And.intro hequ (And.intro hcs1 (And.intro hcs2 (And.intro hQe (And.intro hil3 (And.intro hql3 (And.intro hia (And.intro hqa hs)))))))))))
    have hN9 : N ≤ 210 := by omega
    have hn20 : n ≤ 20 := by omega
    have hil9 : il ≤ 10 := by omega
    have hql9 : ql ≤ 10 := by omega
    have HP := Lib.hid (And.intro hp ht)
    have q1 : (i : Int) < (ss.length : Int) := by omega
    have q2 : (0 : Int) ≤ (i : Int) := by omega
    have q3 : ((n : Int) + 1) ≠ 0 := by omega
    have q4 : ((n : Int) - (a : Int) + 1) ≠ 0 := by omega
    have q3' : ((n : Int) + 1 == 0) = false := by simp only [beq_eq_false_iff_ne, ne_eq]; omega
    have q4' : ((n : Int) - (a : Int) + 1 == 0) = false := by simp only [beq_eq_false_iff_ne, ne_eq]; omega
    have c3 := HC.out.2.2.2.2.1 z6 (Below.refl _ _)
    subst hBe
    obtain ⟨c0, c1, c2⟩ := H6.out.qv
    clear hpart hids hcnt hequ hcs hcs1 hcs2 hQe hil3 hql3 hia hqa hs hp ht hN hI hQ hpr hmi hme hil2 hel2 hcn2 hsz hps
    have HSN := Lib.hid hn
    rw [← hn] at wa1 wa2 wa3 hae wk1 wk2 wk3 wk4 wk5 hke q3 q4 q3' q4'
    clear hn
    go_upto_region 13 with (first | (refine load40 H6.out.lq.vx _ (by with_reducible rfl) rfl rfl ?_) | (go_at_call 14; (with_reducible refine (HC.out.1 _ H6.out).mono ?_); rintro e z7 ⟨rfl, hb7⟩; have H7 := Lib.hid (And.intro (H6.out.kept hb7) hb7); clear hb7 c0 c1 c2 c3))
    go_upto_region 14 with (first | (refine load40 H7.out.1.lq.vx _ (by with_reducible rfl) rfl rfl ?_) | (go_at_call 26; (with_reducible refine (HC.out.2.1 _ H7.out.1).mono ?_); rintro e z8 ⟨A8, c8, rfl, hN8, hb8, -⟩; have H8 := Lib.hid (And.intro (H7.out.1.kept hb8) (And.intro (H7.out.2.trans (hb8.mono H7.out.2.size)) hN8)); clear hb8 hN8 H7))
    go_wp2
    go_loopw [16, 17] (fun v16 v17 wr => ∃ j : Nat, j ≤ il ∧ v17 = .int .i64 (j : Int) ∧ v16 = .bool (hasA I (i : Int) j) ∧ wr = z8) (fun _ v17 _ => il - (intOf v17).toNat)
    case atStart => exact ⟨0, Nat.zero_le _, rfl, rfl, rfl⟩
    case round =>
      obtain ⟨j, hjn, rfl, rfl, rfl⟩ := hrel
      by_cases hlt : j < il
      · obtain ⟨b8, o8, hAe, hbl8, hc8⟩ := num_at H8.out.2.2 (i := j) (by rw [HC.out.2.2.2.2.2.2.2.1]; exact hlt)
        have hsu := hasA_succ (E := I) (a := (i : Int)) (i := j) (by rw [HC.out.2.2.2.2.2.2.2.1]; exact hlt)
        obtain ⟨x, hx⟩ : ∃ x, I.getD j 0 = x := ⟨_, rfl⟩
        rw [hx] at hc8 hsu
        obtain ⟨g, hg⟩ : ∃ g, hasA I (i : Int) j = g := ⟨_, rfl⟩
        rw [hg] at hsu ⊢
        have HS := Lib.hid hsu
        have r1 : (j : Int) < (il : Int) := by omega
        have r2 : (0 : Int) ≤ (j : Int) := by omega
        have r3 : (x == (i : Int)) = decide (x = (i : Int)) := rfl
        subst hAe
        clear hx hsu hg
        cases g with
        | true =>
          go_wp2
          go_roundw
          case rel => exact ⟨j + 1, by omega, by go_num, by rw [HS.out]; rfl, by first | rfl | trivial⟩
          case measure => simp [intOf]; omega
        | false =>
          go_wp2
          go_roundw
          case rel => exact ⟨j + 1, by omega, by go_num, by rw [HS.out]; rfl, by first | rfl | trivial⟩
          case measure => simp [intOf]; omega
      · obtain rfl : il = j := by omega
        have r1 : ¬ (il : Int) < (il : Int) := by omega
        rw [HC.out.2.2.2.2.2.2.2.2.2.1]
        obtain ⟨w8, rfl⟩ : ∃ w8, w8 = wr := ⟨_, rfl⟩
        go_upto_region 19 with fail
        have hA : Below w8.heap.size w8 w8 := Below.refl _ _
        try simp only [List.append_eq, List.cons_append, List.nil_append]
        refine wp_region_held_drew (S := fun w' => Below w8.heap.size w8 w') (by kernel_rfl) (hA.drew) (fun hHeld => ?_)
        replace hA := hA.drew
        refine wpAnyH_take (i := 0) (oi := ⟨some 112, _, _, _, _, _⟩) rfl (by kernel_rfl) (by kernel_rfl) (by kernel_rfl) (fun _ _ _ h => h) (yieldsIf_load_mid (by kernel_rfl) 40 _ rfl _ 0 rfl _ _ (fun w hw => VX.range (H8.out.1.kept hw).lq.vx) Tryz.underlying40 rfl (by kernel_rfl)) (by assumption) ?_
        try simp only [Act.put, List.setIfInBounds_toArray, List.set_cons_zero, List.set_cons_succ]
        refine wpAnyH_take (i := 1) (oi := ⟨some 113, _, _, _, _, _⟩) (v := ?_) rfl (by kernel_rfl) (by kernel_rfl) (by kernel_rfl) (fun _ _ _ h => h) (Or.inl ⟨by kernel_rfl, ?_⟩) (by assumption) ?_
        case refine_2 => (intro w hSw; go_simp; try (with_reducible rfl))
        try simp only [Act.put, List.setIfInBounds_toArray, List.set_cons_zero, List.set_cons_succ]
        refine wpAnyH_take (i := 2) (oi := ⟨some 114, _, _, _, _, _⟩) (v := ?_) rfl (by kernel_rfl) (by kernel_rfl) (by kernel_rfl) (fun _ _ _ h => h) (Or.inl ⟨by kernel_rfl, ?_⟩) (by assumption) ?_
        case refine_2 => (intro w hSw; go_simp; try (with_reducible rfl))
        try simp only [Act.put, List.setIfInBounds_toArray, List.set_cons_zero, List.set_cons_succ]
        refine wpAnyH_take (i := 3) (oi := ⟨some 115, _, _, _, _, _⟩) (v := ?_) rfl (by kernel_rfl) (by kernel_rfl) (by kernel_rfl) (fun _ _ _ h => h) (Or.inl ⟨by kernel_rfl, ?_⟩) (by assumption) ?_
        case refine_2 => (intro w hSw; go_simp; try (with_reducible rfl))
        try simp only [Act.put, List.setIfInBounds_toArray, List.set_cons_zero, List.set_cons_succ]
        refine wpAnyH_take (i := 4) (oi := ⟨some 116, _, _, _, _, _⟩) (v := ?_) rfl (by kernel_rfl) (by kernel_rfl) (by kernel_rfl) (fun _ _ _ h => h) (Or.inl ⟨by kernel_rfl, ?_⟩) (by assumption) ?_
        case refine_2 => (intro w hSw; have y3 := HC.out.2.2.2.2.1 _ (H8.out.2.1.trans (hSw.mono H8.out.2.1.size)); go_simp; try (with_reducible rfl))
        try simp only [Act.put, List.setIfInBounds_toArray, List.set_cons_zero, List.set_cons_succ]
        refine wpAnyH_ready (rs := [5]) (by kernel_rfl) (by simp) ?_
        refine AllReadyH.cons rfl (fun K hK => ?_) AllReadyH.nil
        go_simp
        (with_reducible refine (HC.out.2.2.2.1 _ (H8.out.1.kept hA)).mono ?_)
        rintro e z9 ⟨A9, c9, rfl, hN9, hb9, -⟩
        replace hA := hA.trans (hb9.mono hA.size)
        clear hHeld
        refine hK.out _ _ (hA) (fun hHeld => ?_)
        clear hK K
        try simp only [Act.put, List.setIfInBounds_toArray, List.set_cons_zero, List.set_cons_succ]
        refine wpAnyH_take (i := 6) (oi := ⟨some 18, _, _, _, _, _⟩) (v := ?_) rfl (by kernel_rfl) (by kernel_rfl) (by kernel_rfl) (fun _ _ _ h => h) (Or.inl ⟨by kernel_rfl, ?_⟩) (by assumption) ?_
        case refine_2 => (intro w hSw; go_simp; try (with_reducible rfl))
        try simp only [Act.put, List.setIfInBounds_toArray, List.set_cons_zero, List.set_cons_succ]
        refine wpAnyH_done (by kernel_rfl) ?_ _
        clear hHeld
        have H9 := Lib.hid (And.intro (H8.out.1.kept hA) (And.intro (H8.out.2.1.trans (hA.mono H8.out.2.1.size)) hN9))
        clear hA hb9 hN9 H8
        go_wp2
        go_loopw [19, 20] (fun v19 v20 wr => ∃ j : Nat, j ≤ ql ∧ v20 = .int .i64 (j : Int) ∧ v19 = .bool (hasA Q (i : Int) j) ∧ LQ3 z4 bx F E c (some ⟨bb, off, none⟩) ss qb x0 x1 x2 wr ∧ Below z6.heap.size z6 wr ∧ NumsAt .i64 wr A9 Q) (fun _ v20 _ => ql - (intOf v20).toNat)
        case atStart => exact ⟨0, Nat.zero_le _, rfl, rfl, H9.out⟩
        case round =>
          obtain ⟨j, hjn, rfl, rfl, hL, hbL, hNL⟩ := hrel
          clear H9
          by_cases hlt : j < ql
          · obtain ⟨b9, o9, hAe, hbl9, hc9⟩ := num_at hNL (i := j) (by rw [HC.out.2.2.2.2.2.2.2.2.1]; exact hlt)
            obtain ⟨q, hq1, hq2, hq3⟩ := HC.out.2.2.2.2.2.2.1 j hlt
            have hsu := hasA_succ (E := Q) (a := (i : Int)) (i := j) (by rw [HC.out.2.2.2.2.2.2.2.2.1]; exact hlt)
            rw [hq1] at hc9 hsu
            have hcq := HC.out.2.2.2.2.2.1 wr hbL q hq2
            have hci := HC.out.2.2.2.2.1 wr hbL
            rw [hq3] at hcq
            obtain ⟨g, hg⟩ : ∃ g, hasA Q (i : Int) j = g := ⟨_, rfl⟩
            rw [hg] at hsu ⊢
            have HS := Lib.hid (And.intro hsu (And.intro hL (And.intro hbL hNL)))
            have r1 : (j : Int) < (ql : Int) := by omega
            have r2 : (0 : Int) ≤ (j : Int) := by omega
            have r3 : ¬ (q : Int) < 0 := by omega
            have r4 : ¬ (ss.length : Int) ≤ (q : Int) := by omega
            have r5 : (q : Int) < (ss.length : Int) := by omega
            have r6 : (0 : Int) ≤ (q : Int) := by omega
            have r7 : (s.toList != s.toList) = false := by simp
            subst hAe
            clear hsu hg hL hbL hNL hq1 hq3
            go_wp2
            go_quiet (fail)
            obtain ⟨v9, hv9⟩ : ∃ v9, wr.drewN nq = v9 := ⟨_, rfl⟩
            have hbd : Below wr.heap.size wr v9 := by rw [← hv9]; exact below_drN wr nq
            have y1 := (hbd.cell (p := ⟨b9, o9 + j, none⟩) hbl9).trans hc9
            have H10 := Lib.hid (And.intro (HS.out.2.1.kept hbd) (And.intro (HS.out.2.2.1.trans (hbd.mono HS.out.2.2.1.size)) (HS.out.2.2.2.kept hbd)))
            simp only [hv9]
            clear hv9 hbd hc9 hcq hci
            have r8 : ((q : Int) == (i : Int)) = decide ((q : Int) = (i : Int)) := rfl
            cases g with
            | true =>
              go_wp2
              go_roundw
              case rel => exact ⟨j + 1, by omega, by go_num, by rw [HS.out.1]; rfl, H10.out⟩
              case measure => simp [intOf]; omega
            | false =>
              go_wp2
              go_roundw
              case rel => exact ⟨j + 1, by omega, by go_num, by rw [HS.out.1]; rfl, H10.out⟩
              case measure => simp [intOf]; omega
          · obtain rfl : j = ql := by omega
            have r1 : ¬ (j : Int) < (j : Int) := by omega
            rw [HC.out.2.2.2.2.2.2.2.2.2.2.1]
            have hci := HC.out.2.2.2.2.1 wr hbL
            have H9 := Lib.hid hL
            have r3 : IntKind.i64.wrap ((a : Int) + (k : Int)) = (t : Int) := by rw [← HP.out.2, Int.natCast_add]; exact IntWalk.i64_in _ (by omega)
            have hex := HP.out.1
            have r4 : (p.toList == (s.extract a t).toList) = true := by rw [hex]; simp
            have r5 : t ≤ s.size := by have := HP.out.2; have := HSN.out; omega
            have r6 : a ≤ t := by have := HP.out.2; omega
            have r7 : (t : Int) ≤ (s.size : Int) := by omega
            have r8 : (a : Int) ≤ (t : Int) := by omega
            have r9 : (il : Int) ≤ (N : Int) := by omega
            clear hL hbL hNL hex
            go_wp2_with (first | (refine load40 H9.out.lq.vx _ (by with_reducible rfl) rfl rfl ?_) | (go_at_call 30; (with_reducible refine (HC.out.2.2.1 _ H9.out).mono ?_); rintro e z11 ⟨rfl, hb11, -⟩; have H11 := Lib.hid (H9.out.kept hb11); clear hb11 H9))
            go_ret
            exact ⟨rfl, by rw [HQ.out]; exact HW.out.trans (H11.out.lq.vx.bel.mono (by rw [HBX.out]; exact hqu))⟩

end Go.Proofs.YtpnjccomngdblaaGreat

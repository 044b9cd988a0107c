/- The walk of ValuesTell. -/
import Derived.Test.YtpnjccomngdblaaGreatLTa
set_option maxRecDepth 100000
namespace Go.Proofs.YtpnjccomngdblaaGreat
open Go.RowKit
open M
attribute [local go_sem ↓] Go.wp_at_zero Go.wp_at_succ

variable {w u w' : World} {b c : Nat} {F : FQ} {E : Option Addr} {ss : List ByteArray}

set_option linter.unusedSimpArgs false in
set_option maxHeartbeats 16000000 in
theorem tell_walk (A : Option Addr) (n0 c0 : Nat) (xs : List ByteArray) (x0 x1 x2 x3 : Int) (w : World) (hA : StrsAt w A xs) (hx : xs.length = n0) (hq3 : x3 ≤ 9223372036854775807) :
    Calls Tryz.prog 3 #[.slice A n0 c0, .agg #[.int .i64 x0, .int .i64 x1, .int .i64 x2, .int .i64 x3]] w fun e w' => e = .returned (.bool true) ∧ Below w.heap.size w w' := by
  obtain ⟨w1, hw1⟩ : ∃ w1, w1 = w.alloc (.cells #[.int .i64 x0, .int .i64 x1, .int .i64 x2, .int .i64 x3] 23) := ⟨_, rfl⟩
  have hqv : QV w1 w.heap.size x0 x1 x2 x3 := by rw [hw1]; exact QV.new _ _ _ _ _
  have hb1 : Below w.heap.size w w1 := by rw [hw1]; exact al w _
  have HX := Lib.hid (And.intro hA (And.intro hx hq3))
  obtain ⟨qb, hqb⟩ : ∃ qb, w.heap.size = qb := ⟨_, rfl⟩
  rw [hqb] at hqv hb1
  have H1 := Lib.hid (And.intro hqv hb1)
  have HQ := Lib.hid hqb
  clear hA hx hqv hb1 hq3
  go_enter Tryz.func3, Tryz.ntmps3
  go_upto_region 1 with fail
  rw [← hw1]
  clear hw1
  go_wp2_with fail
  (with_reducible refine (awake_v _).mono ?_)
  rintro e z1 ⟨rfl, hb⟩
  have H2 := Lib.hid (And.intro (H1.out.1.kept hb) (H1.out.2.trans (hb.mono (by have := World.block_lt_of_cell? w1 _ H1.out.1.c0; simp at this; omega))))
  clear hb H1
  have HF := Lib.hid (few_all A n0 c0 xs z1 (HX.out.1.kept (by rw [HQ.out]; exact H2.out.2)) HX.out.2.1)
  go_wp2_with fail
  (with_reducible refine HF.out.mono ?_)
  rintro e z2 ⟨B, m, cp, ss, rfl, rfl, hm10, hB, hsz, hbg, hno, hb2⟩
  have hsl : ∀ i, i < ss.length → (tV ss i).size ≤ 20 := fun i hi => hsz _ (tV_mem hi)
  have HG := Lib.hid (And.intro (vnew_ok B ss.length cp ss z2 hB rfl (by omega)) (And.intro hB (And.intro (H2.out.1.kept hb2) (And.intro hsl (H2.out.2.trans (hb2.mono (by have := World.block_lt_of_cell? z1 _ H2.out.1.c0; simp at this; omega)))))))
  clear hB hsz hno hb2 HF H2 hsl
  go_wp2_with fail
  (with_reducible refine HG.out.1.mono ?_)
  rintro e z4 ⟨F, E, c, rfl, hV, hb4⟩
  have hbs := below_stored z4 F E ss.length c
  have HL := Lib.hid (And.intro (show LQ4 z4 z4.heap.size F E c B ss qb x0 x1 x2 x3 _ from ⟨LQV.stored (c := c) hV (HG.out.2.1.kept hb4) (Below.refl _ _), (HG.out.2.2.1.kept hb4).kept hbs⟩) (HG.out.2.2.2.2.trans (hb4.mono (by have := World.block_lt_of_cell? z2 _ HG.out.2.2.1.c0; simp at this; omega))))
  have hqu : qb ≤ z4.heap.size := by have := World.block_lt_of_cell? z4 _ (HG.out.2.2.1.kept hb4).c0; simp at this; omega
  clear hV hb4 hbs
  go_upto_region 4 with (refine store40 (op := ⟨none, .store 40 (.tmp 7) (.tmp 30), _, _, _, _⟩) F E ss.length c z4.heap.size (.tmp 7) (.tmp 30) rfl rfl rfl rfl (there18 z4) ?_)
  generalize (z4.alloc (.cells #[.int .i64 0, .int .i64 0, .slice none 0 0, .int .i64 0, .slice none 0 0, .int .i64 0, .int .i64 0, .int .i64 0, .slice none 0 0, .int .i64 0, .int .i64 0, .int .i64 0, .slice none 0 0, .int .i64 0, .int .i64 0, .int .i64 0, .slice none 0 0, .slice none 0 0] 40)).setCells z4.heap.size 0 [.int .i64 (F.N : Int), .int .i64 F.Z, .slice F.wa F.wW F.wc, .int .i64 (F.R.n : Int), .slice F.R.a F.R.m F.R.c, .int .i64 (F.R.cn : Int), .int .i64 (F.R.cW : Int), .int .i64 (F.R.cL : Int), .slice F.R.a2 F.R.m2 F.R.c2, .int .i64 (F.S.n : Int), .int .i64 (F.S.W : Int), .int .i64 (F.S.L : Int), .slice F.S.a F.S.m F.S.c, .int .i64 (F.P.n : Int), .int .i64 (F.P.W : Int), .int .i64 (F.P.L : Int), .slice F.P.a F.P.m F.P.c, .slice E ss.length c] = z5 at *
  obtain ⟨bx, hbx2⟩ : ∃ bx, z4.heap.size = bx := ⟨_, rfl⟩
  simp only [hbx2] at HL hqu ⊢
  have HBX := Lib.hid hbx2
  clear hbx2
  have HW := Lib.hid HL.out.2
  go_wp2
  go_loopw [9, 10, 11, 12] (fun v9 v10 _ _ wr => ∃ i : Nat, i ≤ ss.length ∧ v10 = .int .i64 (i : Int) ∧ v9 = .int .i64 ((bg ss i - i : Nat) : Int) ∧ LQ4 z4 bx F E c B ss qb x0 x1 x2 x3 wr) (fun _ v10 _ _ _ => ss.length - (intOf v10).toNat)
  case atStart => exact ⟨0, Nat.zero_le _, rfl, rfl, HL.out.1⟩
  case round =>
    obtain ⟨i, hin, rfl, rfl, hL⟩ := hrel
    by_cases hlt : i < ss.length
    · obtain ⟨bb, off, hBe, hbl, hc⟩ := str_at hL.lq.st hlt
      have hget := hL.lq.vx.get i hlt
      have hbu := bg_up ss i
      have hlb := len_bg ss i
      have hsz := HG.out.2.2.2.1 i hlt
      have hbm := bg_mono ss (i := i) (j := ss.length) (by omega)
      obtain ⟨s, hs⟩ : ∃ s, tV ss i = s := ⟨_, rfl⟩
      rw [hs] at hc hget hbu hsz
      obtain ⟨x, hx⟩ : ∃ x, bg ss i - i = x := ⟨_, rfl⟩
      obtain ⟨y, hy⟩ : ∃ y, bg ss (i + 1) - (i + 1) = y := ⟨_, rfl⟩
      rw [hx]
      have q1 : (i : Int) < (ss.length : Int) := by omega
      have q2 : (0 : Int) ≤ (i : Int) := by omega
      have q3 : IntKind.i64.wrap ((x : Int) + (s.size : Int)) = (y : Int) := by rw [show (x : Int) + (s.size : Int) = (y : Int) by omega]; exact IntWalk.i64_in _ (by omega)
      have q4 : (s.toList != s.toList) = false := by simp
      have HI := Lib.hid (And.intro hL (And.intro hget hy))
      have hcc := fun (u : World) (hu : Below wr.heap.size wr u) => (hu.cell (p := ⟨bb, off + i, none⟩) hbl).trans hc
      have HCC := Lib.hid hcc
      subst hBe
      clear hL hget hbu hlb hsz hbm hs hx hy hcc
      go_wp2_with (refine load40 HI.out.1.lq.vx _ (by with_reducible rfl) rfl rfl ?_)
      (with_reducible refine HI.out.2.1.mono ?_)
      rintro e w6 ⟨rfl, hb6, -⟩
      have hc6 := HCC.out w6 hb6
      have H6 := Lib.hid (HI.out.1.kept hb6)
      clear hb6 hc
      go_wp2
      go_roundw
      case rel => exact ⟨i + 1, by omega, by go_num, by rw [HI.out.2.2], H6.out⟩
      case measure => simp [intOf]; omega
    · obtain rfl : i = ss.length := by omega
      clear HL
      have HL := Lib.hid hL
      have q1 : ¬ (ss.length : Int) < (ss.length : Int) := by omega
      clear hL
      obtain ⟨is, his⟩ : ∃ is, is = decide (0 ≤ x0 ∧ x0 < (ss.length : Int)) := ⟨_, rfl⟩
      obtain ⟨fc, hfc⟩ : ∃ fc : Int, fc = if is = true then 0 else 13 := ⟨_, rfl⟩
      obtain ⟨S, hS⟩ : ∃ S, S = if is = true then prV (tV ss x0.toNat) x1 x2 else ⟨#[]⟩ := ⟨_, rfl⟩
      obtain ⟨T, hT⟩ : ∃ T, T = if is = true then tV ss x0.toNat else ⟨#[]⟩ := ⟨_, rfl⟩
      have hTA : TA ss x0 x1 x2 S T fc is := ⟨his, hfc, hS, hT⟩
      have hpart := fun (u : World) (hu : LQ4 z4 bx F E c B ss qb x0 x1 x2 x3 u) => hu.lq.vx.partE hTA
      have hget := fun (u : World) (hu : LQ4 z4 bx F E c B ss qb x0 x1 x2 x3 u) => hu.lq.vx.getE hTA
      have hat := fun (u : World) (hu : LQ4 z4 bx F E c B ss qb x0 x1 x2 x3 u) => hu.lq.vx.atE x3
      have hrat := fun (u : World) (hu : LQ4 z4 bx F E c B ss qb x0 x1 x2 x3 u) => ratE B cp ss x3 u hu.lq.st HX.out.2.2 (by omega)
      obtain ⟨aA, haA⟩ : ∃ aA, atA ss x3 = aA := ⟨_, rfl⟩
      obtain ⟨aB, haB⟩ : ∃ aB, atB ss x3 = aB := ⟨_, rfl⟩
      simp only [haA, haB] at hat hrat
      have hfm := fun (u : World) (hu : LQ4 z4 bx F E c B ss qb x0 x1 x2 x3 u) => vfm_any (c := c) hu.lq.vx.vi
      have hrl : (rowV ss).length ≤ 300 := by rw [row_len]; omega
      have hex : ∀ (u : World), FMI u F (rowV ss) 257 → Calls Tryz.prog 20 #[.agg #[.int .i64 (F.N : Int), .int .i64 F.Z, .slice F.wa F.wW F.wc, .int .i64 (F.R.n : Int), .slice F.R.a F.R.m F.R.c, .int .i64 (F.R.cn : Int), .int .i64 (F.R.cW : Int), .int .i64 (F.R.cL : Int), .slice F.R.a2 F.R.m2 F.R.c2, .int .i64 (F.S.n : Int), .int .i64 (F.S.W : Int), .int .i64 (F.S.L : Int), .slice F.S.a F.S.m F.S.c, .int .i64 (F.P.n : Int), .int .i64 (F.P.W : Int), .int .i64 (F.P.L : Int), .slice F.P.a F.P.m F.P.c], .int .i64 0, .int .i64 300] u fun e u' => ∃ D, e = .returned (.slice (some ⟨D, 0, none⟩) (rowV ss).length (rowV ss).length) ∧ NumsAt .i64 u' (some ⟨D, 0, none⟩) (rowV ss) ∧ Below u.heap.size u u' := fun u hu => by
        have := extract_any hu 0 300 (by omega) (by omega)
        rwa [exL_whole _ hrl] at this
      have hfs : ∀ (u : World), FMI u F (rowV ss) 257 → Calls Tryz.prog 24 #[.agg #[.int .i64 (F.N : Int), .int .i64 F.Z, .slice F.wa F.wW F.wc, .int .i64 (F.R.n : Int), .slice F.R.a F.R.m F.R.c, .int .i64 (F.R.cn : Int), .int .i64 (F.R.cW : Int), .int .i64 (F.R.cL : Int), .slice F.R.a2 F.R.m2 F.R.c2, .int .i64 (F.S.n : Int), .int .i64 (F.S.W : Int), .int .i64 (F.S.L : Int), .slice F.S.a F.S.m F.S.c, .int .i64 (F.P.n : Int), .int .i64 (F.P.W : Int), .int .i64 (F.P.L : Int), .slice F.P.a F.P.m F.P.c]] u fun e u' => e = .returned (.int .i64 257) ∧ Below u.heap.size u u' := fun u hu => fsize_any hu
      have hrow := fun (u : World) (hu : LQ4 z4 bx F E c B ss qb x0 x1 x2 x3 u) => rrow_any B ss.length cp ss u hu.lq.st rfl (by omega)
      have hlen := fun (u : World) (hu : LQ4 z4 bx F E c B ss qb x0 x1 x2 x3 u) => vlen_any F E ss.length c u
      have hby := fun (u : World) (hu : LQ4 z4 bx F E c B ss qb x0 x1 x2 x3 u) => bytes_v (c := c) hu.lq.vx.vi
      obtain ⟨R, hR⟩ : ∃ R, rowV ss = R := ⟨_, rfl⟩
      simp only [hR] at hex hfs hrow hrl hfm
      obtain ⟨Y, hY⟩ : ∃ Y, bg ss ss.length - ss.length = Y := ⟨_, rfl⟩
      simp only [hY] at hby ⊢
      have HC := Lib.hid (And.intro hpart (And.intro hget (And.intro hat (And.intro hrat (And.intro hfm (And.intro hex (And.intro hfs (And.intro hrow (And.intro hlen hby)))))))))
      have HT := Lib.hid hTA
      have HR := Lib.hid hrl
      clear hpart hget hat hrat hfm hex hfs hrow hlen hby hTA haA haB hR hY hrl his hfc hS hT
      obtain ⟨c0, c1, c2, c3⟩ := HL.out.qv
      go_upto_region 15 with (first | (refine load40 HL.out.lq.vx _ (by with_reducible rfl) rfl rfl ?_) | (go_at_call 14; (with_reducible refine (HC.out.1 _ HL.out).mono ?_); rintro e u6 ⟨rfl, hb6⟩; have H6 := Lib.hid (HL.out.kept hb6); clear hb6 HL c0 c1 c2 c3; obtain ⟨c0, c1, c2, c3⟩ := H6.out.qv))
      go_upto_region 16 with (first | (refine load40 H6.out.lq.vx _ (by with_reducible rfl) rfl rfl ?_) | (go_at_call 13; (with_reducible refine (HC.out.2.1 _ H6.out).mono ?_); rintro e u7 ⟨rfl, hb7⟩; have H7 := Lib.hid (H6.out.kept hb7); clear hb7 H6 c0 c1 c2 c3; obtain ⟨c0, c1, c2, c3⟩ := H7.out.qv))
      go_upto_region 17 with fail
      go_cut [18] from 81 to 90 (fun v18 wx => v18 = .bool is ∧ wx = u7)
      case first =>
        obtain ⟨his, -, -, -⟩ := HT.out
        by_cases h0 : 0 ≤ x0 ∧ x0 < (ss.length : Int)
        · rw [decide_eq_true h0] at his
          obtain ⟨q1, q2⟩ := h0
          subst his
          go_wp2
          go_meet
          exact ⟨rfl, rfl⟩
        · rw [decide_eq_false h0] at his
          subst his
          by_cases h1 : 0 ≤ x0
          · have q1 : ¬ x0 < (ss.length : Int) := by omega
            clear h0
            go_wp2
            go_meet
            exact ⟨rfl, rfl⟩
          · clear h0
            go_wp2
            go_meet
            exact ⟨rfl, rfl⟩
      case rest =>
        obtain ⟨rfl, rfl⟩ := hcut
        obtain ⟨w7, rfl⟩ : ∃ w7, w7 = wc := ⟨_, rfl⟩
        go_upto_if 91 with fail
        go_cut [17] from 92 to 101 (fun v17 wx => v17 = .string S ∧ LQ4 z4 bx F E c B ss qb x0 x1 x2 x3 wx)
        case first =>
          obtain ⟨his, -, hS, -⟩ := HT.out
          cases is with
          | true =>
            have h0 := of_decide_eq_true his.symm
            rw [if_pos rfl] at hS
            obtain ⟨n, rfl⟩ : ∃ n : Nat, x0 = (n : Int) := ⟨x0.toNat, by omega⟩
            rw [Int.toNat_natCast] at hS
            have hnl : n < ss.length := by omega
            have hsz := HG.out.2.2.2.1 n hnl
            obtain ⟨bb, off, hBe, hbl, hcs⟩ := str_all H7.out.lq.st (by omega)
            have hcs' := fun (u : World) (hu : Below w7.heap.size w7 u) => hcs n hnl u hu
            have hrp := rpartE (tV ss n) x1 x2
            rw [← hS] at hrp
            obtain ⟨s, hs⟩ : ∃ s, tV ss n = s := ⟨_, rfl⟩
            simp only [hs] at hcs' hrp hsz
            have HCS := Lib.hid hcs'
            have HRP := Lib.hid (And.intro hrp hsz)
            have q1 : (n : Int) < (ss.length : Int) := by omega
            have q2 : (0 : Int) ≤ (n : Int) := by omega
            subst hBe
            clear hcs hcs' hrp hsz hs h0 hS his
            go_upto_region 19 with fail
            have hA : Below w7.heap.size w7 w7 := Below.refl _ _
            try simp only [List.append_eq, List.cons_append, List.nil_append]
            refine wp_region_held_drew (S := fun w' => Below w7.heap.size w7 w') (by kernel_rfl) (hA.drew) (fun hHeld => ?_)
            replace hA := hA.drew
            refine wpAnyH_take (i := 0) (oi := ⟨some 92, _, _, _, _, _⟩) (v := ?_) rfl (by kernel_rfl) (by kernel_rfl) (by kernel_rfl) (fun _ _ _ h => h) (Or.inl ⟨by kernel_rfl, ?_⟩) (by assumption) ?_
            case refine_2 => (intro w hSw; go_simp; try (with_reducible rfl))
            try simp only [Act.put, List.setIfInBounds_toArray, List.set_cons_zero, List.set_cons_succ]
            refine wpAnyH_take (i := 1) (oi := ⟨some 93, _, _, _, _, _⟩) (v := ?_) rfl (by kernel_rfl) (by kernel_rfl) (by kernel_rfl) (fun _ _ _ h => h) (Or.inl ⟨by kernel_rfl, ?_⟩) (by assumption) ?_
            case refine_2 => (intro w hSw; go_simp; try (with_reducible rfl))
            try simp only [Act.put, List.setIfInBounds_toArray, List.set_cons_zero, List.set_cons_succ]
            refine wpAnyH_take (i := 2) (oi := ⟨some 94, _, _, _, _, _⟩) (v := ?_) rfl (by kernel_rfl) (by kernel_rfl) (by kernel_rfl) (fun _ _ _ h => h) (Or.inl ⟨by kernel_rfl, ?_⟩) (by assumption) ?_
            case refine_2 => (intro w hSw; have qq := H7.out.qv.kept hSw; have y0 := qq.c0; have y1 := qq.c1; have y2 := qq.c2; have y3 := HCS.out _ hSw; go_simp; try (with_reducible rfl))
            try simp only [Act.put, List.setIfInBounds_toArray, List.set_cons_zero, List.set_cons_succ]
            refine wpAnyH_take (i := 3) (oi := ⟨some 95, _, _, _, _, _⟩) (v := ?_) rfl (by kernel_rfl) (by kernel_rfl) (by kernel_rfl) (fun _ _ _ h => h) (Or.inl ⟨by kernel_rfl, ?_⟩) (by assumption) ?_
            case refine_2 => (intro w hSw; go_simp; try (with_reducible rfl))
            try simp only [Act.put, List.setIfInBounds_toArray, List.set_cons_zero, List.set_cons_succ]
            refine wpAnyH_take (i := 4) (oi := ⟨some 96, _, _, _, _, _⟩) (v := ?_) rfl (by kernel_rfl) (by kernel_rfl) (by kernel_rfl) (fun _ _ _ h => h) (Or.inl ⟨by kernel_rfl, ?_⟩) (by assumption) ?_
            case refine_2 => (intro w hSw; have qq := H7.out.qv.kept hSw; have y0 := qq.c0; have y1 := qq.c1; have y2 := qq.c2; have y3 := HCS.out _ hSw; go_simp; try (with_reducible rfl))
            try simp only [Act.put, List.setIfInBounds_toArray, List.set_cons_zero, List.set_cons_succ]
            refine wpAnyH_take (i := 5) (oi := ⟨some 97, _, _, _, _, _⟩) (v := ?_) rfl (by kernel_rfl) (by kernel_rfl) (by kernel_rfl) (fun _ _ _ h => h) (Or.inl ⟨by kernel_rfl, ?_⟩) (by assumption) ?_
            case refine_2 => (intro w hSw; go_simp; try (with_reducible rfl))
            try simp only [Act.put, List.setIfInBounds_toArray, List.set_cons_zero, List.set_cons_succ]
            refine wpAnyH_take (i := 6) (oi := ⟨some 98, _, _, _, _, _⟩) (v := ?_) rfl (by kernel_rfl) (by kernel_rfl) (by kernel_rfl) (fun _ _ _ h => h) (Or.inl ⟨by kernel_rfl, ?_⟩) (by assumption) ?_
            case refine_2 => (intro w hSw; have qq := H7.out.qv.kept hSw; have y0 := qq.c0; have y1 := qq.c1; have y2 := qq.c2; have y3 := HCS.out _ hSw; go_simp; try (with_reducible rfl))
            try simp only [Act.put, List.setIfInBounds_toArray, List.set_cons_zero, List.set_cons_succ]
            refine wpAnyH_take (i := 7) (oi := ⟨some 99, _, _, _, _, _⟩) (v := ?_) rfl (by kernel_rfl) (by kernel_rfl) (by kernel_rfl) (fun _ _ _ h => h) (Or.inl ⟨by kernel_rfl, ?_⟩) (by assumption) ?_
            case refine_2 => (intro w hSw; go_simp; try (with_reducible rfl))
            try simp only [Act.put, List.setIfInBounds_toArray, List.set_cons_zero, List.set_cons_succ]
            refine wpAnyH_take (i := 8) (oi := ⟨some 100, _, _, _, _, _⟩) (v := ?_) rfl (by kernel_rfl) (by kernel_rfl) (by kernel_rfl) (fun _ _ _ h => h) (Or.inl ⟨by kernel_rfl, ?_⟩) (by assumption) ?_
            case refine_2 => (intro w hSw; have qq := H7.out.qv.kept hSw; have y0 := qq.c0; have y1 := qq.c1; have y2 := qq.c2; have y3 := HCS.out _ hSw; go_simp; try (with_reducible rfl))
            try simp only [Act.put, List.setIfInBounds_toArray, List.set_cons_zero, List.set_cons_succ]
            refine wpAnyH_ready (rs := [9]) (by kernel_rfl) (by simp) ?_
            refine AllReadyH.cons rfl (fun K hK => ?_) AllReadyH.nil
            go_simp
            (with_reducible refine (HRP.out.1 _ (by have := HRP.out.2; omega)).mono ?_)
            rintro e u ⟨rfl, rfl⟩
            clear hHeld
            refine hK.out _ _ (hA) (fun hHeld => ?_)
            clear hK K
            try simp only [Act.put, List.setIfInBounds_toArray, List.set_cons_zero, List.set_cons_succ]
            refine wpAnyH_take (i := 10) (oi := ⟨some 17, _, _, _, _, _⟩) (v := ?_) rfl (by kernel_rfl) (by kernel_rfl) (by kernel_rfl) (fun _ _ _ h => h) (Or.inl ⟨by kernel_rfl, ?_⟩) (by assumption) ?_
            case refine_2 => (intro w hSw; go_simp; try (with_reducible rfl))
            try simp only [Act.put, List.setIfInBounds_toArray, List.set_cons_zero, List.set_cons_succ]
            refine wpAnyH_done (by kernel_rfl) ?_ _
            clear hHeld
            have HE := Lib.hid (H7.out.kept hA)
            clear hA
            go_wp2
            go_meet
            exact ⟨rfl, HE.out⟩
          | false =>
            rw [if_neg (by simp)] at hS
            have HS := Lib.hid hS
            clear hS his
            go_wp2
            go_meet
            exact ⟨by rw [HS.out], H7.out⟩
        case rest =>
          obtain ⟨rfl, hL8⟩ := hcut
          have H8 := Lib.hid hL8
          clear hL8 H7 c0 c1 c2 c3
          obtain ⟨c0, c1, c2, c3⟩ := H8.out.qv
          go_upto_region 21 with (first | (refine load40 H8.out.lq.vx _ (by with_reducible rfl) rfl rfl ?_) | (go_at_call 16; (with_reducible refine (HC.out.2.2.1 _ H8.out).mono ?_); rintro e u9 ⟨rfl, hb9⟩; have H9 := Lib.hid (H8.out.kept hb9); clear hb9 H8 c0 c1 c2 c3; obtain ⟨c0, c1, c2, c3⟩ := H9.out.qv))
          go_upto_region 22 with (go_at_call 17; (with_reducible refine (HC.out.2.2.2.1 _ H9.out).mono ?_); rintro e u ⟨rfl, rfl⟩)
          clear c0 c1 c2 c3
          go_upto_region 23 with (first | (refine load40 H9.out.lq.vx _ (by with_reducible rfl) rfl rfl ?_) | (go_at_call 19; (with_reducible refine (HC.out.2.2.2.2.1 _ H9.out).mono ?_); rintro e u10 ⟨rfl, hF10, hb10⟩; have H10 := Lib.hid (And.intro (H9.out.kept hb10) hF10); clear hF10 hb10 H9) | (go_at_call 20; (with_reducible refine (HC.out.2.2.2.2.2.1 _ H10.out.2).mono ?_); rintro e u11 ⟨D, rfl, hN11, hb11⟩; have H11 := Lib.hid (And.intro (H10.out.1.kept hb11) hN11); clear hN11 hb11 H10) | (go_at_call 21; (with_reducible refine (HC.out.2.2.2.2.2.2.2.1 _ H11.out.1).mono ?_); rintro e u12 ⟨v12, rfl, hI12⟩; obtain ⟨A12, c12, rfl, hN12, -, -, -, -⟩ := nums_of_own hI12.1; have H12 := Lib.hid (And.intro (H11.out.1.kept hI12.2) (And.intro (H11.out.2.kept hI12.2) hN12)); clear hI12 hN12 H11) | (go_at_call 18; (with_reducible refine (rsame_any (some ⟨D, 0, none⟩) A12 R.length R.length R.length c12 R R _ H12.out.2.1 H12.out.2.2 rfl rfl (by have := HR.out; omega)).mono ?_); rintro e u13 ⟨rfl, hb13⟩; have H13 := Lib.hid (H12.out.1.kept hb13); clear hb13 H12))
          obtain ⟨-, hfc, -, -⟩ := HT.out
          cases is with
          | true =>
            rw [if_pos rfl] at hfc
            subst hfc
            go_wp2_with (first | (refine load40 H13.out.lq.vx _ (by with_reducible rfl) rfl rfl ?_) | (go_at_call 22; (with_reducible refine (HC.out.2.2.2.2.2.2.2.2.1 _ H13.out).mono ?_); rintro e u14 ⟨rfl, hb14⟩; have H14 := Lib.hid (H13.out.kept hb14); clear hb14 H13) | (refine load40 H14.out.lq.vx _ (by with_reducible rfl) rfl rfl ?_) | (go_at_call 23; (with_reducible refine (HC.out.2.2.2.2.2.2.2.2.2 _ H14.out).mono ?_); rintro e u15 ⟨rfl, hb15⟩; have H15 := Lib.hid (H14.out.kept hb15); clear hb15 H14) | (refine load40 H15.out.lq.vx _ (by with_reducible rfl) rfl rfl ?_) | (go_at_call 19; (with_reducible refine (HC.out.2.2.2.2.1 _ H15.out).mono ?_); rintro e u16 ⟨rfl, hF16, hb16⟩; have H16 := Lib.hid (And.intro (H15.out.kept hb16) hF16); clear hF16 hb16 H15) | (go_at_call 24; (with_reducible refine (HC.out.2.2.2.2.2.2.1 _ H16.out.2).mono ?_); rintro e u17 ⟨rfl, hb17⟩; have H17 := Lib.hid (H16.out.1.kept hb17); clear hb17 H16))
            go_ret
            exact ⟨rfl, by rw [HQ.out]; exact HW.out.trans (H17.out.lq.vx.bel.mono (by rw [HBX.out]; exact hqu))⟩
          | false =>
            rw [if_neg (by simp)] at hfc
            subst hfc
            go_wp2_with (first | (refine load40 H13.out.lq.vx _ (by with_reducible rfl) rfl rfl ?_) | (go_at_call 22; (with_reducible refine (HC.out.2.2.2.2.2.2.2.2.1 _ H13.out).mono ?_); rintro e u14 ⟨rfl, hb14⟩; have H14 := Lib.hid (H13.out.kept hb14); clear hb14 H13) | (refine load40 H14.out.lq.vx _ (by with_reducible rfl) rfl rfl ?_) | (go_at_call 23; (with_reducible refine (HC.out.2.2.2.2.2.2.2.2.2 _ H14.out).mono ?_); rintro e u15 ⟨rfl, hb15⟩; have H15 := Lib.hid (H14.out.kept hb15); clear hb15 H14) | (refine load40 H15.out.lq.vx _ (by with_reducible rfl) rfl rfl ?_) | (go_at_call 19; (with_reducible refine (HC.out.2.2.2.2.1 _ H15.out).mono ?_); rintro e u16 ⟨rfl, hF16, hb16⟩; have H16 := Lib.hid (And.intro (H15.out.kept hb16) hF16); clear hF16 hb16 H15) | (go_at_call 24; (with_reducible refine (HC.out.2.2.2.2.2.2.1 _ H16.out.2).mono ?_); rintro e u17 ⟨rfl, hb17⟩; have H17 := Lib.hid (H16.out.1.kept hb17); clear hb17 H16))
            go_ret
            exact ⟨rfl, by rw [HQ.out]; exact HW.out.trans (H17.out.lq.vx.bel.mono (by rw [HBX.out]; exact hqu))⟩

end Go.Proofs.YtpnjccomngdblaaGreat

/- The contract of below. -/
import Derived.Test.YtdepncdknofocaaXG
import Derived.Test.YtdepncdknofocaaOI
set_option maxRecDepth 100000
namespace Go.Proofs.Ytdepncdknofocaa
open Go.RowKit
open M
attribute [local go_sem ↓] Go.wp_at_zero Go.wp_at_succ

/-- How many places the sample has. -/
def smpN (n : Nat) : Nat := thC n 1 + thC n 2
def colL (l : List Int) (n r : Nat) : List Int := (List.range (smpN n)).map fun i => l.getD (plN n i + r) (-1)
theorem colL_len (l : List Int) (n r : Nat) : (colL l n r).length = smpN n := by simp [colL]
theorem colL_at (l : List Int) (n r i : Nat) (h : i < smpN n) : (colL l n r).getD i 0 = l.getD (plN n i + r) (-1) := by simp [colL, List.getD_eq_getElem?_getD, h]
theorem smpN_le (n : Nat) : smpN n ≤ n := by have := th_sums n; unfold smpN; omega

set_option maxHeartbeats 2000000 in
theorem col_any (bq bp : Nat) (A P : Option Addr) (n c m cP r : Nat) (l : List Int) (w u : World) (hA : KX w bp A n c l u) (hP : KX w bq P m cP (smp n) u) (hm : m = smpN n) (hn : n ≤ 1000000) (hr : r ≤ 2) :
    Calls Try.prog 41 #[.int .i64 (r : Int), .pointer (some ⟨bq, 0, none⟩), .pointer (some ⟨bp, 0, none⟩)] u fun e u' => ∃ D, e = .returned (.slice (some ⟨D, 0, none⟩) m m) ∧ NumsAt .i64 u' (some ⟨D, 0, none⟩) (colL l n r) ∧ Below u.heap.size u u' := by
  have hmn := smpN_le n
  have cP := hP.c0
  have cA := hA.c0
  have HX := Lib.hid (And.intro hA (And.intro hP hm))
  obtain ⟨i0, hi, hz0, hz1, hz2⟩ := info_parts info3
  have hm6 : m ≤ 1000000 := by omega
  clear hA hP hm
  go_enter Try.func41, Try.ntmps41
  go_wp2_with (first | (at_make; refine wpList_make_full _ rfl _ _ 22 rfl u.heap.size 3 i0 (.int .i64 0) 1 Try.underlying22 hi hz0 hz1 _ _ _ _ m rfl rfl rfl rfl ?b2 ?b3 (Nat.le_refl _) ?_))
  case b2 => first | omega | (rw [hz2]; omega)
  case b3 => unfold maxLen; omega
  intro w1 hown hgrow
  have hD := DI.made (Below.refl _ _) hown hgrow
  have hP1 := (HX.out.2.1.kept hD.bel).c0
  have HD := Lib.hid hD
  clear hown hgrow hD hi hz0 hz1 hz2 cP cA
  obtain ⟨D, hDe⟩ : ∃ D, D = u.heap.size := ⟨_, rfl⟩
  rw [← hDe] at HD
  rw [← hDe]
  clear hDe
  go_wp2
  go_loopw [6, 7, 13] (fun _ _ v13 wr => ∃ k : Nat, k ≤ m ∧ v13 = .int .i64 (k : Int) ∧ DI u D m (fun j => if j < k then l.getD (plN n j + r) (-1) else 0) wr) (fun _ _ v13 _ => m - (intOf v13).toNat)
  case atStart => exact ⟨0, Nat.zero_le _, rfl, HD.out.congr fun i _ => by simp⟩
  case round =>
    obtain ⟨k, hk, rfl, hDr⟩ := hrel
    clear HD hP1
    by_cases hlt : k < m
    · have hA := HX.out.1.kept hDr.bel
      have hP := HX.out.2.1.kept hDr.bel
      obtain ⟨bb, off, hPe, -, cpk⟩ := num_at hP.nums (i := k) (by rw [hP.len]; exact hlt)
      rw [smp_at n k (by rw [HX.out.2.2] at hlt; exact hlt)] at cpk
      have hpl := plN_lt n k (by rw [HX.out.2.2] at hlt; exact hlt)
      have cA := hA.c0
      have cell := hDr.cell k hlt
      have frz := hDr.frz k hlt
      have hat := at_any A n c (plN n k + r) l wr hA.nums hA.len
      rw [Int.natCast_add] at hat
      have hset := hDr.set hlt (l.getD (plN n k + r) (-1))
      obtain ⟨y, hy⟩ : ∃ y, l.getD (plN n k + r) (-1) = y := ⟨_, rfl⟩
      rw [hy] at hset hat
      have HS := Lib.hid (And.intro hset (And.intro hat hy))
      subst hPe
      clear hset hat hDr hP hA hy
      obtain ⟨p, hp⟩ : ∃ p, plN n k = p := ⟨_, rfl⟩
      rw [hp] at hpl cpk HS
      have HPE := Lib.hid hp
      clear hp
      have q1 : (k : Int) < (m : Int) := by omega
      have q2 : (0 : Int) ≤ (k : Int) := by omega
      have q3 : IntKind.i64.wrap ((p : Int) + (r : Int)) = (p : Int) + (r : Int) := IntWalk.i64_in _ (by omega)
      go_wp2_with fail
      (with_reducible refine HS.out.2.1.mono ?_)
      rintro e u2 ⟨rfl, rfl⟩
      go_wp2
      go_roundw
      case rel =>
        refine ⟨k + 1, by omega, by go_num, HS.out.1.congr fun j hj => ?_⟩
        by_cases e : j = k
        · rw [if_pos e, if_pos (by omega), ← HS.out.2.2, e, HPE.out]
        · rw [if_neg e]
          by_cases e2 : j < k
          · rw [if_pos e2, if_pos (by omega)]
          · rw [if_neg e2, if_neg (by omega)]
      case measure => simp [intOf]; omega
    · obtain rfl : k = m := by omega
      have HF := Lib.hid hDr
      clear hDr
      have q1 : ¬ (k : Int) < (k : Int) := by omega
      go_wp2
      go_ret
      refine ⟨D, rfl, HF.out.nums (by rw [colL_len]; exact HX.out.2.2.symm) (fun j hj => ?_), HF.out.bel⟩
      rw [if_pos hj, colL_at _ _ _ _ (by rw [← HX.out.2.2]; exact hj)]

theorem pair_lt {a b : List Int} {n : Nat} (hb : b.length = n) (h64 : I64s b) {x y : Nat} (hx : x < n) (hy : y < n) : kyP a b x < kyP a b y ↔ a.getD x 0 < a.getD y 0 ∨ (a.getD x 0 = a.getD y 0 ∧ b.getD x 0 < b.getD y 0) := by
  have h1 := ky_in h64 (x := (x : Int)) (by omega)
  have h2 := ky_in h64 (x := (y : Int)) (by omega)
  unfold kyP
  unfold kyI at h1 h2 ⊢
  rw [Int.toNat_natCast] at h1 h2 ⊢
  rw [Int.toNat_natCast]
  omega
theorem rk_i64 {l : List Int} (h : Rk l) (hn : l.length ≤ 1000000) : I64s l := fun x hx => by have := h.nn x hx; omega
theorem col_i64 {l : List Int} (h : Rk l) (n r : Nat) (hn : l.length ≤ 1000000) : I64s (colL l n r) := by
  intro x hx
  unfold colL at hx
  obtain ⟨i, -, rfl⟩ := List.mem_map.1 hx
  by_cases e : plN n i + r < l.length
  · have := h.nn _ (getD_mem (b := -1) e); omega
  · rw [getD_out (by omega)]; omega

/-- Ranks of three columns are the level below. -/
theorem bel_made {l : List Int} {n : Nat} (h : Rk l) (hl : l.length = n) (hn : n ≤ 1000000) : Bel l (rnkL (kyP (rnkL (kyP (colL l n 0) (colL l n 1)) (smpN n)) (colL l n 2)) (smpN n)) := by
  have hm := smpN_le n
  have c1 := col_i64 h n 1 (by omega)
  have c2 := col_i64 h n 2 (by omega)
  refine ⟨by rw [rnkL_length, hl]; rfl, rnk_rk _ _, fun i j hi hj => ?_, fun i j hi hj => ?_⟩
  all_goals
    rw [rnkL_length] at hi hj
    have r1 := rnk_lt (kyP (rnkL (kyP (colL l n 0) (colL l n 1)) (smpN n)) (colL l n 2)) (smpN n) hi hj
    have r2 := rnk_lt (kyP (colL l n 0) (colL l n 1)) (smpN n) hi hj
    have p1 := pair_lt (a := rnkL (kyP (colL l n 0) (colL l n 1)) (smpN n)) (colL_len l n 2) c2 hi hj
    have p2 := pair_lt (a := colL l n 0) (colL_len l n 1) c1 hi hj
    have e1 := pair_eq (a := rnkL (kyP (colL l n 0) (colL l n 1)) (smpN n)) (colL_len l n 2) c2 hi hj
    have e2 := pair_eq (a := colL l n 0) (colL_len l n 1) c1 hi hj
    rw [colL_at l n 0 i hi, colL_at l n 0 j hj, colL_at l n 1 i hi, colL_at l n 1 j hj] at p2 e2
    rw [colL_at l n 2 i hi, colL_at l n 2 j hj] at p1 e1
    rw [Nat.add_zero, Nat.add_zero] at p2 e2
    rw [hl]
    first | unfold T3 | unfold E3
    generalize rnkL (kyP (rnkL (kyP (colL l n 0) (colL l n 1)) (smpN n)) (colL l n 2)) (smpN n) = t3 at *
    generalize rnkL (kyP (colL l n 0) (colL l n 1)) (smpN n) = t2 at *
    generalize l.getD (plN n i) (-1) = a0 at *
    generalize l.getD (plN n j) (-1) = d0 at *
    generalize l.getD (plN n i + 1) (-1) = a1 at *
    generalize l.getD (plN n j + 1) (-1) = d1 at *
    generalize l.getD (plN n i + 2) (-1) = a2 at *
    generalize l.getD (plN n j + 2) (-1) = d2 at *
    rcases r1 with ⟨r1, r1'⟩
    rcases r2 with ⟨r2, r2'⟩
  · rw [r1, p1, r2, r2', p2, e2]
    constructor
    · rintro ((h | ⟨h, k⟩) | ⟨⟨h, k⟩, q⟩)
      · exact .inl h
      · exact .inr ⟨h, .inl k⟩
      · exact .inr ⟨h, .inr ⟨k, q⟩⟩
    · rintro (h | ⟨h, k | ⟨k, q⟩⟩)
      · exact .inl (.inl h)
      · exact .inl (.inr ⟨h, k⟩)
      · exact .inr ⟨⟨h, k⟩, q⟩
  · rw [r1', e1, r2', e2]
    exact ⟨fun ⟨⟨a, b⟩, c⟩ => ⟨a, b, c⟩, fun ⟨a, b, c⟩ => ⟨⟨a, b⟩, c⟩⟩

theorem KX.of {w w1 u : World} {kb : Nat} {K : Option Addr} {n cK : Nat} {keys : List Int} (h : KX w1 kb K n cK keys u) (hb : Below w.heap.size w w1) : KX w kb K n cK keys u :=
  ⟨h.c0, h.nums, h.len, hb.trans (h.bel.mono hb.size)⟩
/-- A row and the sample's places, each in its box. -/
structure BX (w : World) (bp bq : Nat) (A P : Option Addr) (n c m cP : Nat) (l : List Int) (u : World) : Prop where
  a : KX w bp A n c l u
  p : KX w bq P m cP (smp n) u
theorem BX.kept {w u u' : World} {bp bq : Nat} {A P : Option Addr} {n c m cP : Nat} {l : List Int} (h : BX w bp bq A P n c m cP l u) (hb : Below u.heap.size u u') : BX w bp bq A P n c m cP l u' := ⟨h.a.kept hb, h.p.kept hb⟩

set_option maxHeartbeats 2000000 in
theorem below_any (A : Option Addr) (n c : Nat) (l : List Int) (w : World) (hA : NumsAt .i64 w A l) (hl : l.length = n) (hn : n ≤ 1000000) (hr : Rk l) :
    Calls Try.prog 30 #[.slice A n c] w fun e u => ∃ D three, e = .returned (.slice (some ⟨D, 0, none⟩) (smpN n) (smpN n)) ∧ NumsAt .i64 u (some ⟨D, 0, none⟩) three ∧ Bel l three ∧ Below w.heap.size w u := by
  have hA0 := KX.new w A n c l hA hl
  obtain ⟨bp, hbp⟩ : ∃ bp, bp = w.heap.size := ⟨_, rfl⟩
  obtain ⟨w0, hw0⟩ : ∃ w0, w0 = w.alloc (.cells #[.slice A n c] 22) := ⟨_, rfl⟩
  rw [← hw0, ← hbp] at hA0
  have hsm := sample_any n w0 hn
  have hbm := bel_made hr hl hn
  have c1 := col_i64 hr n 1 (by omega)
  have c0' := col_i64 hr n 0 (by omega)
  have c2 := col_i64 hr n 2 (by omega)
  have HX := Lib.hid (And.intro hA0 (And.intro hsm (And.intro hbm (And.intro c0' (And.intro c1 c2)))))
  have hmn := smpN_le n
  clear hA hl hr hsm hbm c0' c1 c2
  go_enter Try.func30, Try.ntmps30
  go_upto_region 1 with fail
  rw [← hw0, ← hbp]
  clear hw0 hbp
  have c0 := hA0.c0
  clear hA0
  go_wp2_with fail
  (with_reducible refine HX.out.2.1.mono ?_)
  rintro e u1 ⟨v, rfl, hI⟩
  obtain ⟨P, cP, rfl, hP, hPl, -, -, -⟩ := nums_of_own hI.1
  rw [smp_len, show thC n 1 + thC n 2 = smpN n from rfl]
  rw [smp_len, show thC n 1 + thC n 2 = smpN n from rfl] at hPl
  obtain ⟨m, hm⟩ : ∃ m, m = smpN n := ⟨_, rfl⟩
  rw [← hm] at hPl hmn ⊢
  have hA1 := HX.out.1.kept hI.2
  have hP1 := (KX.new u1 P m cP (smp n) hP (by rw [smp_len]; exact hm.symm)).of hA1.bel
  have hA2 := hA1.kept (al u1 (.cells #[.slice P m cP] 22))
  have hB : BX w bp u1.heap.size A P n c m cP l (u1.alloc (.cells #[.slice P m cP] 22)) := ⟨hA2, hP1⟩
  have HB := Lib.hid hB
  have cl : ∀ (r : Nat), r ≤ 2 → ∀ u, BX w bp u1.heap.size A P n c m cP l u → Calls Try.prog 41 #[.int .i64 (r : Int), .pointer (some ⟨u1.heap.size, 0, none⟩), .pointer (some ⟨bp, 0, none⟩)] u fun e u' => ∃ D, e = .returned (.slice (some ⟨D, 0, none⟩) m m) ∧ NumsAt .i64 u' (some ⟨D, 0, none⟩) (colL l n r) ∧ Below u.heap.size u u' := fun r hr u h => col_any _ bp A P n c m cP r l w u h.a h.p hm hn hr
  have cl0 : ∀ u, BX w bp u1.heap.size A P n c m cP l u → Calls Try.prog 41 #[.int .i64 0, .pointer (some ⟨u1.heap.size, 0, none⟩), .pointer (some ⟨bp, 0, none⟩)] u fun e u' => ∃ D, e = .returned (.slice (some ⟨D, 0, none⟩) m m) ∧ NumsAt .i64 u' (some ⟨D, 0, none⟩) (colL l n 0) ∧ Below u.heap.size u u' := cl 0 (by omega)
  have cl1 : ∀ u, BX w bp u1.heap.size A P n c m cP l u → Calls Try.prog 41 #[.int .i64 1, .pointer (some ⟨u1.heap.size, 0, none⟩), .pointer (some ⟨bp, 0, none⟩)] u fun e u' => ∃ D, e = .returned (.slice (some ⟨D, 0, none⟩) m m) ∧ NumsAt .i64 u' (some ⟨D, 0, none⟩) (colL l n 1) ∧ Below u.heap.size u u' := cl 1 (by omega)
  have cl2 : ∀ u, BX w bp u1.heap.size A P n c m cP l u → Calls Try.prog 41 #[.int .i64 2, .pointer (some ⟨u1.heap.size, 0, none⟩), .pointer (some ⟨bp, 0, none⟩)] u fun e u' => ∃ D, e = .returned (.slice (some ⟨D, 0, none⟩) m m) ∧ NumsAt .i64 u' (some ⟨D, 0, none⟩) (colL l n 2) ∧ Below u.heap.size u u' := cl 2 (by omega)
  have HC := Lib.hid (And.intro cl0 (And.intro cl1 cl2))
  have HM := Lib.hid hm
  clear hI hP hPl hA1 hP1 hA2 hB cl cl0 cl1 cl2 hm
  go_upto_region 3 with fail
  clear c0
  obtain ⟨u2, hu2⟩ : ∃ u2, u2 = u1.alloc (.cells #[.slice P m cP] 22) := ⟨_, rfl⟩
  rw [← hu2] at HB ⊢
  clear hu2
  generalize u1.heap.size = bq at *
  go_wp2_with fail
  (with_reducible refine (HC.out.1 _ HB.out).mono ?_)
  rintro e u3 ⟨D0, rfl, h1, h2⟩
  have HB3 := Lib.hid (And.intro (HB.out.kept h2) h1)
  clear h1 h2
  go_wp2_with fail
  (with_reducible refine (HC.out.2.1 _ HB3.out.1).mono ?_)
  rintro e u4 ⟨D1, rfl, h1, h2⟩
  have hp := pairs_any (some ⟨D0, 0, none⟩) (some ⟨D1, 0, none⟩) m m m (colL l n 0) (colL l n 1) u4 (HB3.out.2.kept h2) h1 (by rw [colL_len]; exact HM.out.symm) (by rw [colL_len]; exact HM.out.symm) (by omega) HX.out.2.2.2.1 HX.out.2.2.2.2.1
  have HB4 := Lib.hid (And.intro (HB3.out.1.kept h2) hp)
  clear h1 h2 hp
  go_wp2_with fail
  (with_reducible refine HB4.out.2.mono ?_)
  rintro e u5 ⟨D2, rfl, h1, h2⟩
  have HB5 := Lib.hid (And.intro (HB4.out.1.kept h2) h1)
  clear h1 h2
  go_wp2_with fail
  (with_reducible refine (HC.out.2.2 _ HB5.out.1).mono ?_)
  rintro e u6 ⟨D3, rfl, h1, h2⟩
  have hp := pairs_any (some ⟨D2, 0, none⟩) (some ⟨D3, 0, none⟩) m m m (rnkL (kyP (colL l n 0) (colL l n 1)) m) (colL l n 2) u6 (HB5.out.2.kept h2) h1 (rnkL_length _ _) (by rw [colL_len]; exact HM.out.symm) (by omega) (rk_i64 (rnk_rk _ _) (by rw [rnkL_length]; omega)) HX.out.2.2.2.2.2
  have HB6 := Lib.hid (And.intro (HB5.out.1.kept h2) hp)
  clear h1 h2 hp
  go_wp2_with fail
  (with_reducible refine HB6.out.2.mono ?_)
  rintro e u7 ⟨D4, rfl, h1, h2⟩
  have HB7 := Lib.hid (And.intro (HB6.out.1.kept h2) h1)
  clear h1 h2
  go_wp2
  go_ret
  refine ⟨D4, _, by rw [← HM.out]; rfl, HB7.out.2, ?_, HB7.out.1.a.bel⟩
  have := HX.out.2.2.1
  rw [← HM.out] at this
  exact this

end Go.Proofs.Ytdepncdknofocaa

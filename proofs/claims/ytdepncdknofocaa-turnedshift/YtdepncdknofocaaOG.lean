/- The contracts of ranked, of the closures that it is handed, of Ranks, Pairs and Stable. -/
import Derived.Test.YtdepncdknofocaaOE
import Derived.Test.YtdepncdknofocaaOF
set_option maxRecDepth 100000
namespace Go.Proofs.Ytdepncdknofocaa
open Go.RowKit
open M
attribute [local go_sem ↓] Go.wp_at_zero Go.wp_at_succ

/-- What ranked tells: at each place how many other keys stand ahead. -/
def RankEnd (w : World) (κ : Int → Int) (n : Nat) (e : Ending) (u : World) : Prop :=
  ∃ D, e = .returned (.slice (some ⟨D, 0, none⟩) n n) ∧ NumsAt .i64 u (some ⟨D, 0, none⟩) (rnkL κ n) ∧ Below w.heap.size w u

/-- What is asked of the closure: it tells whether two places have one key, and only reads. -/
def EqC32 (w : World) (cb : Value) (n : Nat) (κ : Int → Int) : Prop :=
  ∀ u, Below w.heap.size w u → ∀ x y : Nat, x < n → y < n → Calls Try.prog 38 #[.int .i64 (x : Int), .int .i64 (y : Int), cb] u fun e u' => e = .returned (.bool (decide (κ x = κ y))) ∧ ∃ q, u' = u.drewN q

set_option maxHeartbeats 4000000 in
theorem ranked32_any (A : Option Addr) (n cA : Nat) (κ : Int → Int) (cb : Value) (w : World) (hx : NumsAt .i64 w A (ordP κ n)) (hn : n ≤ 1000000) (hC : EqC32 w cb n κ) :
    Calls Try.prog 37 #[.slice A n cA, .func (.func 38) #[] #[cb]] w (RankEnd w κ n) := by
  have hl := ordP_length κ n
  have hme : ∀ i, i < n → ∃ p : Nat, (ordP κ n).getD i 0 = (p : Int) ∧ p < n := fun i hi => by
    have hm : (ordP κ n).getD i 0 ∈ ordP κ n := by simp [List.getD_eq_getElem?_getD, hl, hi]
    have := ordP_mem.1 hm
    exact ⟨((ordP κ n).getD i 0).toNat, by omega, by omega⟩
  have hnd : ∀ i j, i < n → j < n → (ordP κ n).getD i 0 = (ordP κ n).getD j 0 → i = j := fun i j hi hj e => by
    simp only [List.getD_eq_getElem?_getD, List.getElem?_eq_getElem (show i < (ordP κ n).length by omega), List.getElem?_eq_getElem (show j < (ordP κ n).length by omega), Option.getD_some] at e
    exact (List.getElem_inj (h₀ := by omega) (h₁ := by omega) (ordP_nodup κ n)).1 e
  have HX := Lib.hid (And.intro hx (And.intro hl (And.intro hme (And.intro hC hnd))))
  clear hx hl hme hC hnd
  obtain ⟨i0, hi, hz0, hz1, hz2⟩ := info_parts info3
  go_enter Try.func37, Try.ntmps37
  go_wp2_with (first | (at_make; refine wpList_make_full _ rfl _ _ 22 rfl w.heap.size 3 i0 (.int .i64 0) 1 Try.underlying22 hi hz0 hz1 _ _ _ _ n rfl rfl rfl rfl ?b2 ?b3 (Nat.le_refl _) ?_))
  case b2 => first | omega | (rw [hz2]; omega)
  case b3 => unfold maxLen; omega
  intro w1 hown hgrow
  have hD := DI.made (Below.refl _ _) hown hgrow
  have HD := Lib.hid hD
  clear hown hgrow hD hi hz0 hz1 hz2
  obtain ⟨D, hDe⟩ : ∃ D, D = w.heap.size := ⟨_, rfl⟩
  rw [← hDe] at HD
  rw [← hDe]
  clear hDe
  go_wp2
  go_loopw [6, 7, 8, 14] (fun v6 _ _ v14 wr => ∃ (i : Nat) (d : Nat → Int), i ≤ n ∧ v14 = .int .i64 (i : Int) ∧ v6 = .int .i64 (rkI κ (ordP κ n) (i - 1) : Nat) ∧ rkI κ (ordP κ n) (i - 1) ≤ i ∧ DI w D n d wr ∧ ∀ j, j < i → d ((ordP κ n).getD j 0).toNat = (rkI κ (ordP κ n) j : Nat)) (fun _ _ _ v14 _ => n - (intOf v14).toNat)
  case atStart => exact ⟨0, _, Nat.zero_le _, rfl, rfl, Nat.zero_le _, HD.out, fun j hj => by omega⟩
  case round =>
    obtain ⟨i, d, hin, rfl, rfl, hrk, hDr, hdd⟩ := hrel
    clear HD
    by_cases hlt : i < n
    · obtain ⟨bb, off, hAe, hbl, hcb⟩ := num_at (HX.out.1.kept hDr.bel) (i := i) (by rw [HX.out.2.1]; exact hlt)
      obtain ⟨p, hp, hpn⟩ := HX.out.2.2.1 i hlt
      rw [hp] at hcb
      have c1 := hDr.cell p hpn
      have z1 := hDr.frz p hpn
      have hinj := fun j (hj : j < i) => show ((ordP κ n).getD j 0).toNat ≠ p from fun e => by
        obtain ⟨p2, h1, h2⟩ := HX.out.2.2.1 j (by omega)
        have := HX.out.2.2.2.2 j i (by omega) hlt (by rw [h1] at e ⊢; rw [hp]; omega)
        omega
      have q1 : (i : Int) < (n : Int) := by omega
      have q2 : (0 : Int) ≤ (i : Int) := by omega
      have q3 : (p : Int) < (n : Int) := by omega
      have q4 : (0 : Int) ≤ (p : Int) := by omega
      by_cases hi0 : i = 0
      · subst hi0
        have hset := hDr.set hpn 0
        have HS := Lib.hid (And.intro hset (And.intro hp hinj))
        subst hAe
        clear hset hDr hp hinj hdd hrk
        have e0 : rkI κ (ordP κ n) (0 - 1) = 0 := rfl
        rw [e0]
        clear e0
        rw [Nat.add_zero] at hcb
        go_wp2
        go_roundw
        case rel =>
          refine ⟨1, _, by omega, rfl, rfl, Nat.zero_le _, HS.out.1, fun j hj => ?_⟩
          obtain rfl : j = 0 := by omega
          rw [HS.out.2.1, Int.toNat_natCast, if_pos rfl]; rfl
        case measure => simp [intOf]; omega
      · obtain ⟨ip, rfl⟩ : ∃ ip, i = ip + 1 := ⟨i - 1, by omega⟩
        obtain ⟨pp, hpp, hppn⟩ := HX.out.2.2.1 ip (by omega)
        obtain ⟨bb2, off2, hAe2, -, hcb2⟩ := num_at (HX.out.1.kept hDr.bel) (i := ip) (by rw [HX.out.2.1]; omega)
        rw [hpp] at hcb2
        subst hAe
        simp only [Option.some.injEq, Addr.mk.injEq, and_true] at hAe2
        obtain ⟨rfl, rfl⟩ := hAe2
        have hcl := HX.out.2.2.2.1 wr hDr.bel pp p hppn hpn
        rw [show ip + 1 - 1 = ip by omega] at hrk ⊢
        have hsu : rkI κ (ordP κ n) (ip + 1) = rkI κ (ordP κ n) ip + if κ pp = κ p then 0 else 1 := by
          show rkI κ (ordP κ n) ip + (if κ ((ordP κ n).getD ip 0) = κ ((ordP κ n).getD (ip + 1) 0) then 0 else 1) = _
          rw [hpp, hp]
        have hset := fun q x => (hDr.drewN q).set hpn x
        have HS := Lib.hid (And.intro hset (And.intro hp (And.intro hinj (And.intro hdd hsu))))
        have HCL := Lib.hid hcl
        clear hset hDr hp hinj hdd hpp hcl hsu
        generalize rkI κ (ordP κ n) ip = r at *
        have q5 : (0 : Int) < (ip : Int) + 1 := by omega
        have q6 : IntKind.i64.wrap (((ip + 1 : Nat) : Int) - 1) = (ip : Int) := by rw [show ((ip + 1 : Nat) : Int) - 1 = (ip : Int) by omega]; exact IntWalk.i64_in _ (by omega)
        have q6b : IntKind.i64.wrap ((ip : Int) + 1 - 1) = (ip : Int) := by rw [Int.add_sub_cancel]; exact IntWalk.i64_in _ (by omega)
        have q7 : (ip : Int) < (n : Int) := by omega
        have q8 : (0 : Int) ≤ (ip : Int) := by omega
        go_wp2_with fail
        (with_reducible refine HCL.out.mono ?_)
        rintro e u1 ⟨rfl, q, rfl⟩
        have c1' : (wr.drewN q).cell? ⟨D, p, none⟩ = some (.int .i64 (d p)) := by simpa using c1
        have z1' : (wr.drewN q).frozen? ⟨D, p, none⟩ = false := by simpa using z1
        have HS2 := Lib.hid (And.intro (HS.out.1 q) HS.out.2)
        clear c1 z1 HCL HS
        generalize wr.drewN q = wq at *
        by_cases hk : κ pp = κ p
        · rw [decide_eq_true hk]
          go_wp2
          go_roundw
          case rel =>
            obtain ⟨h1, h2, h3, h4, h5⟩ := HS2.out
            have h5 : rkI κ (ordP κ n) (ip + 1) = r := by rw [h5, if_pos hk]; omega
            refine ⟨ip + 1 + 1, _, by omega, by go_num, by rw [show ip + 1 + 1 - 1 = ip + 1 by omega, h5], by rw [show ip + 1 + 1 - 1 = ip + 1 by omega, h5]; omega, h1 r, fun j hj => ?_⟩
            by_cases ej : j = ip + 1
            · rw [ej, h2, Int.toNat_natCast, if_pos rfl, h5]
            · rw [if_neg (h3 j (by omega)), h4 j (by omega)]
          case measure => simp [intOf]; omega
        · rw [decide_eq_false hk]
          go_wp2
          go_roundw
          case rel =>
            obtain ⟨h1, h2, h3, h4, h5⟩ := HS2.out
            rw [if_neg hk] at h5
            refine ⟨ip + 1 + 1, _, by omega, by go_num, by rw [show ip + 1 + 1 - 1 = ip + 1 by omega, h5]; go_num, by rw [show ip + 1 + 1 - 1 = ip + 1 by omega, h5]; omega, h1 _, fun j hj => ?_⟩
            by_cases ej : j = ip + 1
            · rw [ej, h2, Int.toNat_natCast, if_pos rfl, h5]; rfl
            · rw [if_neg (h3 j (by omega)), h4 j (by omega)]
          case measure => simp [intOf]; omega
    · obtain rfl : i = n := by omega
      have HF := Lib.hid (And.intro hDr hdd)
      clear hDr hdd
      go_wp2
      go_ret
      exact ⟨D, rfl, HF.out.1.nums (rnkL_length κ i) (rnk_uniq κ i d HF.out.2), HF.out.1.bel⟩

/-- What is asked of the closure: it tells whether two places have one key, and only reads. -/
def EqC33 (w : World) (cb cc : Value) (n : Nat) (κ : Int → Int) : Prop :=
  ∀ u, Below w.heap.size w u → ∀ x y : Nat, x < n → y < n → Calls Try.prog 54 #[.int .i64 (x : Int), .int .i64 (y : Int), cb, cc] u fun e u' => e = .returned (.bool (decide (κ x = κ y))) ∧ ∃ q, u' = u.drewN q

set_option maxHeartbeats 4000000 in
theorem ranked33_any (A : Option Addr) (n cA : Nat) (κ : Int → Int) (cb cc : Value) (w : World) (hx : NumsAt .i64 w A (ordP κ n)) (hn : n ≤ 1000000) (hC : EqC33 w cb cc n κ) :
    Calls Try.prog 37 #[.slice A n cA, .func (.func 54) #[] #[cb, cc]] w (RankEnd w κ n) := by
  have hl := ordP_length κ n
  have hme : ∀ i, i < n → ∃ p : Nat, (ordP κ n).getD i 0 = (p : Int) ∧ p < n := fun i hi => by
    have hm : (ordP κ n).getD i 0 ∈ ordP κ n := by simp [List.getD_eq_getElem?_getD, hl, hi]
    have := ordP_mem.1 hm
    exact ⟨((ordP κ n).getD i 0).toNat, by omega, by omega⟩
  have hnd : ∀ i j, i < n → j < n → (ordP κ n).getD i 0 = (ordP κ n).getD j 0 → i = j := fun i j hi hj e => by
    simp only [List.getD_eq_getElem?_getD, List.getElem?_eq_getElem (show i < (ordP κ n).length by omega), List.getElem?_eq_getElem (show j < (ordP κ n).length by omega), Option.getD_some] at e
    exact (List.getElem_inj (h₀ := by omega) (h₁ := by omega) (ordP_nodup κ n)).1 e
  have HX := Lib.hid (And.intro hx (And.intro hl (And.intro hme (And.intro hC hnd))))
  clear hx hl hme hC hnd
  obtain ⟨i0, hi, hz0, hz1, hz2⟩ := info_parts info3
  go_enter Try.func37, Try.ntmps37
  go_wp2_with (first | (at_make; refine wpList_make_full _ rfl _ _ 22 rfl w.heap.size 3 i0 (.int .i64 0) 1 Try.underlying22 hi hz0 hz1 _ _ _ _ n rfl rfl rfl rfl ?b2 ?b3 (Nat.le_refl _) ?_))
  case b2 => first | omega | (rw [hz2]; omega)
  case b3 => unfold maxLen; omega
  intro w1 hown hgrow
  have hD := DI.made (Below.refl _ _) hown hgrow
  have HD := Lib.hid hD
  clear hown hgrow hD hi hz0 hz1 hz2
  obtain ⟨D, hDe⟩ : ∃ D, D = w.heap.size := ⟨_, rfl⟩
  rw [← hDe] at HD
  rw [← hDe]
  clear hDe
  go_wp2
  go_loopw [6, 7, 8, 14] (fun v6 _ _ v14 wr => ∃ (i : Nat) (d : Nat → Int), i ≤ n ∧ v14 = .int .i64 (i : Int) ∧ v6 = .int .i64 (rkI κ (ordP κ n) (i - 1) : Nat) ∧ rkI κ (ordP κ n) (i - 1) ≤ i ∧ DI w D n d wr ∧ ∀ j, j < i → d ((ordP κ n).getD j 0).toNat = (rkI κ (ordP κ n) j : Nat)) (fun _ _ _ v14 _ => n - (intOf v14).toNat)
  case atStart => exact ⟨0, _, Nat.zero_le _, rfl, rfl, Nat.zero_le _, HD.out, fun j hj => by omega⟩
  case round =>
    obtain ⟨i, d, hin, rfl, rfl, hrk, hDr, hdd⟩ := hrel
    clear HD
    by_cases hlt : i < n
    · obtain ⟨bb, off, hAe, hbl, hcb⟩ := num_at (HX.out.1.kept hDr.bel) (i := i) (by rw [HX.out.2.1]; exact hlt)
      obtain ⟨p, hp, hpn⟩ := HX.out.2.2.1 i hlt
      rw [hp] at hcb
      have c1 := hDr.cell p hpn
      have z1 := hDr.frz p hpn
      have hinj := fun j (hj : j < i) => show ((ordP κ n).getD j 0).toNat ≠ p from fun e => by
        obtain ⟨p2, h1, h2⟩ := HX.out.2.2.1 j (by omega)
        have := HX.out.2.2.2.2 j i (by omega) hlt (by rw [h1] at e ⊢; rw [hp]; omega)
        omega
      have q1 : (i : Int) < (n : Int) := by omega
      have q2 : (0 : Int) ≤ (i : Int) := by omega
      have q3 : (p : Int) < (n : Int) := by omega
      have q4 : (0 : Int) ≤ (p : Int) := by omega
      by_cases hi0 : i = 0
      · subst hi0
        have hset := hDr.set hpn 0
        have HS := Lib.hid (And.intro hset (And.intro hp hinj))
        subst hAe
        clear hset hDr hp hinj hdd hrk
        have e0 : rkI κ (ordP κ n) (0 - 1) = 0 := rfl
        rw [e0]
        clear e0
        rw [Nat.add_zero] at hcb
        go_wp2
        go_roundw
        case rel =>
          refine ⟨1, _, by omega, rfl, rfl, Nat.zero_le _, HS.out.1, fun j hj => ?_⟩
          obtain rfl : j = 0 := by omega
          rw [HS.out.2.1, Int.toNat_natCast, if_pos rfl]; rfl
        case measure => simp [intOf]; omega
      · obtain ⟨ip, rfl⟩ : ∃ ip, i = ip + 1 := ⟨i - 1, by omega⟩
        obtain ⟨pp, hpp, hppn⟩ := HX.out.2.2.1 ip (by omega)
        obtain ⟨bb2, off2, hAe2, -, hcb2⟩ := num_at (HX.out.1.kept hDr.bel) (i := ip) (by rw [HX.out.2.1]; omega)
        rw [hpp] at hcb2
        subst hAe
        simp only [Option.some.injEq, Addr.mk.injEq, and_true] at hAe2
        obtain ⟨rfl, rfl⟩ := hAe2
        have hcl := HX.out.2.2.2.1 wr hDr.bel pp p hppn hpn
        rw [show ip + 1 - 1 = ip by omega] at hrk ⊢
        have hsu : rkI κ (ordP κ n) (ip + 1) = rkI κ (ordP κ n) ip + if κ pp = κ p then 0 else 1 := by
          show rkI κ (ordP κ n) ip + (if κ ((ordP κ n).getD ip 0) = κ ((ordP κ n).getD (ip + 1) 0) then 0 else 1) = _
          rw [hpp, hp]
        have hset := fun q x => (hDr.drewN q).set hpn x
        have HS := Lib.hid (And.intro hset (And.intro hp (And.intro hinj (And.intro hdd hsu))))
        have HCL := Lib.hid hcl
        clear hset hDr hp hinj hdd hpp hcl hsu
        generalize rkI κ (ordP κ n) ip = r at *
        have q5 : (0 : Int) < (ip : Int) + 1 := by omega
        have q6 : IntKind.i64.wrap (((ip + 1 : Nat) : Int) - 1) = (ip : Int) := by rw [show ((ip + 1 : Nat) : Int) - 1 = (ip : Int) by omega]; exact IntWalk.i64_in _ (by omega)
        have q6b : IntKind.i64.wrap ((ip : Int) + 1 - 1) = (ip : Int) := by rw [Int.add_sub_cancel]; exact IntWalk.i64_in _ (by omega)
        have q7 : (ip : Int) < (n : Int) := by omega
        have q8 : (0 : Int) ≤ (ip : Int) := by omega
        go_wp2_with fail
        (with_reducible refine HCL.out.mono ?_)
        rintro e u1 ⟨rfl, q, rfl⟩
        have c1' : (wr.drewN q).cell? ⟨D, p, none⟩ = some (.int .i64 (d p)) := by simpa using c1
        have z1' : (wr.drewN q).frozen? ⟨D, p, none⟩ = false := by simpa using z1
        have HS2 := Lib.hid (And.intro (HS.out.1 q) HS.out.2)
        clear c1 z1 HCL HS
        generalize wr.drewN q = wq at *
        by_cases hk : κ pp = κ p
        · rw [decide_eq_true hk]
          go_wp2
          go_roundw
          case rel =>
            obtain ⟨h1, h2, h3, h4, h5⟩ := HS2.out
            have h5 : rkI κ (ordP κ n) (ip + 1) = r := by rw [h5, if_pos hk]; omega
            refine ⟨ip + 1 + 1, _, by omega, by go_num, by rw [show ip + 1 + 1 - 1 = ip + 1 by omega, h5], by rw [show ip + 1 + 1 - 1 = ip + 1 by omega, h5]; omega, h1 r, fun j hj => ?_⟩
            by_cases ej : j = ip + 1
            · rw [ej, h2, Int.toNat_natCast, if_pos rfl, h5]
            · rw [if_neg (h3 j (by omega)), h4 j (by omega)]
          case measure => simp [intOf]; omega
        · rw [decide_eq_false hk]
          go_wp2
          go_roundw
          case rel =>
            obtain ⟨h1, h2, h3, h4, h5⟩ := HS2.out
            rw [if_neg hk] at h5
            refine ⟨ip + 1 + 1, _, by omega, by go_num, by rw [show ip + 1 + 1 - 1 = ip + 1 by omega, h5]; go_num, by rw [show ip + 1 + 1 - 1 = ip + 1 by omega, h5]; omega, h1 _, fun j hj => ?_⟩
            by_cases ej : j = ip + 1
            · rw [ej, h2, Int.toNat_natCast, if_pos rfl, h5]; rfl
            · rw [if_neg (h3 j (by omega)), h4 j (by omega)]
          case measure => simp [intOf]; omega
    · obtain rfl : i = n := by omega
      have HF := Lib.hid (And.intro hDr hdd)
      clear hDr hdd
      go_wp2
      go_ret
      exact ⟨D, rfl, HF.out.1.nums (rnkL_length κ i) (rnk_uniq κ i d HF.out.2), HF.out.1.bel⟩

end Go.Proofs.Ytdepncdknofocaa

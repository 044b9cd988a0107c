/- The walk of OrderKeeps. -/
import Derived.Test.YtjijkiafjlfeiaaOK
set_option maxRecDepth 100000
namespace Go.Proofs.Ytjijkiafjlfeiaa
open Go.RowKit
open M
attribute [local go_sem ↓] Go.wp_at_zero Go.wp_at_succ

set_option maxHeartbeats 8000000 in
theorem keeps_walk (A : Option Addr) (n0 c0 : Nat) (xs : List Int) (w : World) (hA : NumsAt .i64 w A xs) (hx : xs.length = n0) :
    Calls Try.prog 8 #[.slice A n0 c0] w fun e w' => e = .returned (.bool true) ∧ Below w.heap.size w w' := by
  have HX := Lib.hid (And.intro hA hx)
  clear hA hx
  go_enter Try.func8, Try.ntmps8
  go_wp2_with fail
  refine (awake_any _).mono ?_
  rintro e w1 ⟨rfl, hb1⟩
  have HB := Lib.hid hb1
  clear hb1
  go_wp2
  go_loopw [4, 5] (fun v4 v5 wr => ∃ i : Nat, i ≤ n0 ∧ i ≤ 40 ∧ v5 = .int .i64 (i : Int) ∧ OwnI w1 v4 (msk15 xs i) wr) (fun _ v5 _ => 40 - (intOf v5).toNat)
  case atStart => exact ⟨0, Nat.zero_le _, Nat.zero_le _, rfl, World.ownsRow_nil _ _ _ _, Below.refl _ _⟩
  case round =>
    obtain ⟨i, hin, hi40, rfl, hI⟩ := hrel
    by_cases hlt : i < n0 ∧ i < 40
    · obtain ⟨hl1, hl2⟩ := hlt
      obtain ⟨bb, off, hAe, hbl, hcb⟩ := num_at (HX.out.1.kept (HB.out.trans (hI.2.mono HB.out.size))) (i := i) (by rw [HX.out.2]; exact hl1)
      have hand := and15 (xs.getD i 0)
      have hsu := msk15_succ xs i (by rw [HX.out.2]; exact hl1)
      have hml := msk15_len xs i (by rw [HX.out.2]; exact hin)
      have hsz := hI.2.size
      have HM := Lib.hid (And.intro hI (And.intro hsu hml))
      subst hAe
      clear hI hsu hml
      generalize xs.getD i 0 % 16 = y at *
      generalize xs.getD i 0 = x at *
      have q1 : (i : Int) < (n0 : Int) := by omega
      have q2 : (0 : Int) ≤ (i : Int) := by omega
      have q3 : (i : Int) < 40 := by omega
      go_wp2_with (first
        | (at_builtin
           refine wpList_append_nums rfl (.tmp 20) (.tmp 26) rfl w1.heap.size _ _ _ rfl (HM.out.1.alloc _).1 (some ⟨_, 0, none⟩) 1 1 [y] rfl rfl ?c1 (by simp) ?c2 ?c3 ?_))
      case c1 => exact nums_one _ _
      case c2 => rw [HM.out.2.2]; omega
      case c3 => first | omega | (simp; omega)
      intro v' w5 hown hgrow _
      have hI5 := (HM.out.1.alloc _).app (l' := msk15 xs i ++ [y]) (by simpa using hown) hgrow
      have HX5 := Lib.hid hI5
      clear hown hgrow hI5
      go_wp2
      go_roundw
      case rel => exact ⟨i + 1, by omega, by omega, by go_num, by rw [HM.out.2.1]; exact HX5.out⟩
      case measure => simp [intOf]; omega
    · have hml := msk15_len xs i (by rw [HX.out.2]; exact hin)
      have hms := msk15_in xs i
      obtain ⟨m, hm⟩ : ∃ m, m = msk15 xs i := ⟨_, rfl⟩
      rw [← hm] at hml hms hI
      clear hm
      obtain ⟨ma, mc, rfl, hmn, -, hmc, -⟩ := nums_of_own hI.1
      have hst := stable_any ma i mc m 16 wr hmn hml (by omega) (fun x hx => by have := hms x hx; omega)
      have hb2 := HB.out.trans (hI.2.mono HB.out.size)
      have HM := Lib.hid (And.intro hmn (And.intro hml (And.intro hms hb2)))
      have HST := Lib.hid hst
      rw [hml]
      clear hmn hml hms hb2 hI hst hmc
      obtain ⟨w2, rfl⟩ : ∃ w2, w2 = wr := ⟨_, rfl⟩
      rcases (show (¬ (i : Int) < (n0 : Int)) ∨ ((i : Int) < (n0 : Int) ∧ ¬ (i : Int) < 40) by omega) with q1 | ⟨q1, q2⟩
      all_goals
        go_wp2_with fail
        (with_reducible refine HST.out.mono ?_)
        rintro e u2 ⟨hb3, ⟨-, A1, c1, hc1, rfl, hn1⟩ | ⟨hno, -⟩⟩
        rotate_left
        · exact absurd ⟨by omega, by omega, fun x hx => HM.out.2.2.1 x hx⟩ hno
        have hall := all_any A1 i c1 _ u2 hn1 (ordP_length _ _) (by omega)
        rw [ordP_all] at hall
        have hb4 := HM.out.2.2.2.trans (hb3.mono HM.out.2.2.2.size)
        have HN := Lib.hid (And.intro hn1 (And.intro (HM.out.1.kept hb3) hb4))
        have HALL := Lib.hid hall
        have q5 : ((i : Int) == (i : Int)) = true := by simp
        clear hall hn1 hb3 hb4
        go_wp2_with fail
        (with_reducible refine HALL.out.mono ?_)
        rintro e u3 ⟨rfl, rfl⟩
        obtain ⟨w3, rfl⟩ : ∃ w3, w3 = u3 := ⟨_, rfl⟩
        go_wp2
        go_loopw [8] (fun v8 wr => ∃ k : Nat, 1 ≤ k ∧ (k ≤ i ∨ k = 1) ∧ v8 = .int .i64 (k : Int) ∧ Below w3.heap.size w3 wr) (fun v8 _ => i - (intOf v8).toNat)
        case atStart => exact ⟨1, by omega, by omega, rfl, Below.refl _ _⟩
        case round =>
          obtain ⟨k, hk1, hki, rfl, hbw⟩ := hrel
          by_cases hlt2 : k < i
          · obtain ⟨kp, rfl⟩ : ∃ kp, k = kp + 1 := ⟨k - 1, by omega⟩
            obtain ⟨p, hp, hpn⟩ := ordP_at (kyI m) i (i := kp) (by omega)
            obtain ⟨p', hp', hpn'⟩ := ordP_at (kyI m) i (i := kp + 1) (by omega)
            have hri := ordP_rise (kyI m) i (i := kp) (j := kp + 1) (by omega) (by omega)
            have hnm := HN.out.1.kept hbw
            have hmm := HN.out.2.1.kept hbw
            obtain ⟨ab, aoff, hAe, -, ca⟩ := num_at hnm (i := kp) (by rw [ordP_length]; omega)
            obtain ⟨ab2, aoff2, hAe2, -, ca'⟩ := num_at hnm (i := kp + 1) (by rw [ordP_length]; omega)
            obtain ⟨bb, boff, hBe, -, cm⟩ := num_at hmm (i := p) (by rw [HM.out.2.1]; exact hpn)
            obtain ⟨bb2, boff2, hBe2, -, cm'⟩ := num_at hmm (i := p') (by rw [HM.out.2.1]; exact hpn')
            rw [hAe] at hAe2
            rw [hBe] at hBe2
            simp only [Option.some.injEq, Addr.mk.injEq, and_true] at hAe2 hBe2
            obtain ⟨rfl, rfl⟩ := hAe2
            obtain ⟨rfl, rfl⟩ := hBe2
            subst hAe hBe
            rw [hp, hp'] at hri
            rw [hp] at ca
            rw [hp'] at ca'
            unfold kyI at hri
            rw [Int.toNat_natCast, Int.toNat_natCast] at hri
            clear hp hp' hnm hmm
            generalize m.getD p 0 = x at *
            generalize m.getD p' 0 = y at *
            have HBW := Lib.hid hbw
            have HRI := Lib.hid hri
            clear hbw hri
            have q6 : ((kp : Int) + 1) < (i : Int) := by omega
            have q7 : (kp : Int) < (i : Int) := by omega
            have q8 : (0 : Int) ≤ (kp : Int) + 1 := by omega
            have q9 : (0 : Int) ≤ (kp : Int) := by omega
            have q10 : IntKind.i64.wrap ((kp : Int) + 1 - 1) = (kp : Int) := by rw [Int.add_sub_cancel]; exact IntWalk.i64_in _ (by omega)
            have q11 : ((kp : Int) + 1).toNat = kp + 1 := by omega
            have q12 : (p : Int) < (i : Int) := by omega
            have q13 : (0 : Int) ≤ (p : Int) := by omega
            have q14 : (p' : Int) < (i : Int) := by omega
            have q15 : (0 : Int) ≤ (p' : Int) := by omega
            have hfin : ∀ nq, Below w3.heap.size w3 (wr.drewN nq) := fun nq => HBW.out.trans ((below_drewN wr nq).mono HBW.out.size)
            have HFIN := Lib.hid hfin
            clear hfin
            rcases HRI.out with hxy | ⟨hxy, hpp⟩
            · have d1 : decide (y < x) = false := by simp; omega
              have d2 : (x == y) = false := by simp; omega
              go_wp2
              go_quiet (fail)
              go_wp2
              go_roundw
              case rel => exact ⟨kp + 1 + 1, by omega, by omega, by go_num, HFIN.out _⟩
              case measure => simp [intOf]; omega
            · subst hxy
              have d1 : decide (x < x) = false := by simp
              have d2 : (x == x) = true := by simp
              have d3 : decide ((p' : Int) ≤ (p : Int)) = false := by simp; omega
              go_wp2
              go_quiet (fail)
              go_wp2
              go_roundw
              case rel => exact ⟨kp + 1 + 1, by omega, by omega, by go_num, HFIN.out _⟩
              case measure => simp [intOf]; omega
          · have q6 : ¬ (k : Int) < (i : Int) := by omega
            have HBW := Lib.hid hbw
            clear hbw
            go_wp2
            go_ret
            exact ⟨rfl, HN.out.2.2.trans (HBW.out.mono HN.out.2.2.size)⟩

end Go.Proofs.Ytjijkiafjlfeiaa

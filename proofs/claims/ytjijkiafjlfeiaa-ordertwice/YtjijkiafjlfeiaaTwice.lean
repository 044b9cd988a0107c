/- The walk of OrderTwice. -/
import Derived.Test.YtjijkiafjlfeiaaOL
set_option maxRecDepth 100000
namespace Go.Proofs.Ytjijkiafjlfeiaa
open Go.RowKit
open M
attribute [local go_sem ↓] Go.wp_at_zero Go.wp_at_succ

set_option maxHeartbeats 8000000 in
theorem twice_walk (A : Option Addr) (n0 c0 : Nat) (xs : List Int) (w : World) (hA : NumsAt .i64 w A xs) (hx : xs.length = n0) :
    Calls Try.prog 9 #[.slice A n0 c0] w fun e w' => e = .returned (.bool true) ∧ Below w.heap.size w w' := by
  have HX := Lib.hid (And.intro hA hx)
  clear hA hx
  go_enter Try.func9, Try.ntmps9
  go_wp2_with fail
  refine (awake_any _).mono ?_
  rintro e w1 ⟨rfl, hb1⟩
  have HB := Lib.hid hb1
  clear hb1
  go_wp2
  go_loopw [4, 5] (fun v4 v5 wr => ∃ i : Nat, i ≤ n0 ∧ i ≤ 40 ∧ v5 = .int .i64 (i : Int) ∧ OwnI w1 v4 (msk15 xs i) wr) (fun _ v5 _ => 40 - (intOf v5).toNat)
  case atStart => exact ⟨0, Nat.zero_le _, Nat.zero_le _, rfl, World.ownsRow_nil _ _ _ _, Below.refl _ _⟩
  case round =>
    obtain ⟨i, hin, hi40, rfl, hI⟩ := hrel
    by_cases hlt : i < n0 ∧ i < 40
    · obtain ⟨hl1, hl2⟩ := hlt
      obtain ⟨bb, off, hAe, hbl, hcb⟩ := num_at (HX.out.1.kept (HB.out.trans (hI.2.mono HB.out.size))) (i := i) (by rw [HX.out.2]; exact hl1)
      have hand := and15 (xs.getD i 0)
      have hsu := msk15_succ xs i (by rw [HX.out.2]; exact hl1)
      have hml := msk15_len xs i (by rw [HX.out.2]; exact hin)
      have hsz := hI.2.size
      have HM := Lib.hid (And.intro hI (And.intro hsu hml))
      subst hAe
      clear hI hsu hml
      generalize xs.getD i 0 % 16 = y at *
      generalize xs.getD i 0 = x at *
      have q1 : (i : Int) < (n0 : Int) := by omega
      have q2 : (0 : Int) ≤ (i : Int) := by omega
      have q3 : (i : Int) < 40 := by omega
      go_wp2_with (first
        | (at_builtin
           refine wpList_append_nums rfl (.tmp 26) (.tmp 32) rfl w1.heap.size _ _ _ rfl (HM.out.1.alloc _).1 (some ⟨_, 0, none⟩) 1 1 [y] rfl rfl ?c1 (by simp) ?c2 ?c3 ?_))
      case c1 => exact nums_one _ _
      case c2 => rw [HM.out.2.2]; omega
      case c3 => first | omega | (simp; omega)
      intro v' w5 hown hgrow _
      have hI5 := (HM.out.1.alloc _).app (l' := msk15 xs i ++ [y]) (by simpa using hown) hgrow
      have HX5 := Lib.hid hI5
      clear hown hgrow hI5
      go_wp2
      go_roundw
      case rel => exact ⟨i + 1, by omega, by omega, by go_num, by rw [HM.out.2.1]; exact HX5.out⟩
      case measure => simp [intOf]; omega
    · have hml := msk15_len xs i (by rw [HX.out.2]; exact hin)
      have hms := msk15_in xs i
      obtain ⟨m, hm⟩ : ∃ m, m = msk15 xs i := ⟨_, rfl⟩
      rw [← hm] at hml hms hI
      clear hm
      obtain ⟨ma, mc, rfl, hmn, -, hmc, -⟩ := nums_of_own hI.1
      have hst := stable_any ma i mc m 16 wr hmn hml (by omega) (fun x hx => by have := hms x hx; omega)
      have hb2 := HB.out.trans (hI.2.mono HB.out.size)
      have HM := Lib.hid (And.intro hmn (And.intro hml (And.intro hms hb2)))
      have HST := Lib.hid hst
      rw [hml]
      clear hmn hml hms hb2 hI hst hmc
      obtain ⟨w2, rfl⟩ : ∃ w2, w2 = wr := ⟨_, rfl⟩
      rcases (show (¬ (i : Int) < (n0 : Int)) ∨ ((i : Int) < (n0 : Int) ∧ ¬ (i : Int) < 40) by omega) with q1 | ⟨q1, q2⟩
      all_goals
        go_wp2_with fail
        (with_reducible refine HST.out.mono ?_)
        rintro e u2 ⟨hb3, ⟨-, A1, c1, hc1, rfl, hn1⟩ | ⟨hno, -⟩⟩
        rotate_left
        · exact absurd ⟨by omega, by omega, fun x hx => HM.out.2.2.1 x hx⟩ hno
        have hall := all_any A1 i c1 _ u2 hn1 (ordP_length _ _) (by omega)
        rw [ordP_all] at hall
        have hb4 := HM.out.2.2.2.trans (hb3.mono HM.out.2.2.2.size)
        have HN := Lib.hid (And.intro hn1 (And.intro (HM.out.1.kept hb3) hb4))
        have HALL := Lib.hid hall
        have q5 : ((i : Int) == (i : Int)) = true := by simp
        clear hall hn1 hb3 hb4
        go_wp2_with fail
        (with_reducible refine HALL.out.mono ?_)
        rintro e u3 ⟨rfl, rfl⟩
        obtain ⟨w3, rfl⟩ : ∃ w3, w3 = u3 := ⟨_, rfl⟩
        go_wp2
        go_loopw [8, 9] (fun v8 v9 wr => ∃ k : Nat, k ≤ i ∧ v9 = .int .i64 (k : Int) ∧ OwnI w3 v8 (srtL m k) wr) (fun _ v9 _ => i - (intOf v9).toNat)
        case atStart => exact ⟨0, Nat.zero_le _, rfl, World.ownsRow_nil _ _ _ _, Below.refl _ _⟩
        case round =>
          obtain ⟨k, hki, rfl, hI⟩ := hrel
          by_cases hlt2 : k < i
          · obtain ⟨p, hp, hpn⟩ := ordP_at (kyI m) i (i := k) hlt2
            have hnm := HN.out.1.kept hI.2
            have hmm := HN.out.2.1.kept hI.2
            obtain ⟨ab, aoff, hAe, -, ca⟩ := num_at hnm (i := k) (by rw [ordP_length]; omega)
            obtain ⟨bb, boff, hBe, -, cm⟩ := num_at hmm (i := p) (by rw [HM.out.2.1]; exact hpn)
            have hsu := srtL_succ m k (by rw [HM.out.2.1]; exact hlt2)
            have hsl := srtL_len m k (by rw [HM.out.2.1]; exact hki)
            rw [HM.out.2.1, hp] at hsu
            rw [hp] at ca
            have ek : kyI m (p : Int) = m.getD p 0 := by unfold kyI; rw [Int.toNat_natCast]
            rw [ek] at hsu
            have hsz := hI.2.size
            have HI := Lib.hid (And.intro hI (And.intro hsu hsl))
            subst hAe hBe
            clear hI hsu hsl hp hnm hmm ek
            generalize m.getD p 0 = y at *
            have q6 : (k : Int) < (i : Int) := by omega
            have q7 : (0 : Int) ≤ (k : Int) := by omega
            have q8 : (p : Int) < (i : Int) := by omega
            have q9 : (0 : Int) ≤ (p : Int) := by omega
            go_wp2_with (first
              | (at_builtin
                 refine wpList_append_nums rfl (.tmp 59) (.tmp 67) rfl w3.heap.size _ _ _ rfl (HI.out.1.alloc _).1 (some ⟨_, 0, none⟩) 1 1 [y] rfl rfl ?c1 (by simp) ?c2 ?c3 ?_))
            case c1 => exact nums_one _ _
            case c2 => rw [HI.out.2.2]; omega
            case c3 => first | omega | (simp; omega)
            intro v' w5 hown hgrow _
            have hI5 := (HI.out.1.alloc _).app (l' := srtL m k ++ [y]) (by simpa using hown) hgrow
            have HX5 := Lib.hid hI5
            clear hown hgrow hI5
            go_wp2
            go_roundw
            case rel => exact ⟨k + 1, by omega, by go_num, by rw [HI.out.2.1]; exact HX5.out⟩
            case measure => simp [intOf]; omega
          · obtain rfl : k = i := by omega
            have q6 : ¬ (k : Int) < (k : Int) := by omega
            have hsl := srtL_len m k (by rw [HM.out.2.1]; exact Nat.le_refl _)
            have hso := srtL_ord m
            have hsm := srtL_mem m k
            rw [HM.out.2.1] at hso
            obtain ⟨S, hS⟩ : ∃ S, S = srtL m k := ⟨_, rfl⟩
            rw [← hS] at hsl hso hsm hI
            clear hS
            obtain ⟨sa, sc, rfl, hsn, -, hscc, -⟩ := nums_of_own hI.1
            have hst := stable_any sa k sc S 16 wr hsn hsl (by omega) (fun x hx => by have := HM.out.2.2.1 x (hsm x hx); omega)
            have HS := Lib.hid (And.intro hsm (And.intro hso hI.2))
            have HST := Lib.hid hst
            rw [hsl]
            clear hsl hso hsm hI hst hsn hscc
            go_wp2_with fail
            (with_reducible refine HST.out.mono ?_)
            rintro e u5 ⟨hb5, ⟨-, A2, c2, hc2, rfl, hn2⟩ | ⟨hno, -⟩⟩
            rotate_left
            · exact absurd ⟨by omega, by omega, fun x hx => HM.out.2.2.1 x (HS.out.1 x hx)⟩ hno
            rw [HS.out.2.1] at hn2
            have hb6 := HS.out.2.2.trans (hb5.mono HS.out.2.2.size)
            have hmk := HN.out.2.1.kept hb6
            have hbb := HN.out.2.2.trans (hb6.mono HN.out.2.2.size)
            have HQ := Lib.hid (And.intro hn2 (And.intro hmk hbb))
            clear hn2 hb5 hb6 hmk hbb HST HS
            go_wp2
            go_loopw [12] (fun v12 wq => ∃ j : Nat, j ≤ k ∧ v12 = .int .i64 (j : Int) ∧ wq = u5) (fun v12 _ => k - (intOf v12).toNat)
            case atStart => exact ⟨0, Nat.zero_le _, rfl, rfl⟩
            case round =>
              obtain ⟨j, hjk, rfl, rfl⟩ := hrel
              by_cases hlt3 : j < k
              · obtain ⟨ab, aoff, hAe, -, ca⟩ := num_at HQ.out.1 (i := j) (by rw [plcs_length]; exact hlt3)
                rw [plcs_at k j hlt3] at ca
                subst hAe
                have q7 : (j : Int) < (k : Int) := by omega
                have q8 : (0 : Int) ≤ (j : Int) := by omega
                have q9 : ((j : Int) == (j : Int)) = true := by simp
                go_wp2
                go_roundw
                case rel => exact ⟨j + 1, by omega, by go_num, trivial⟩
                case measure => simp [intOf]; omega
              · obtain rfl : j = k := by omega
                have q7 : ¬ (j : Int) < (j : Int) := by omega
                have hr1 := ranks_any ma j mc m wr HQ.out.2.1 HM.out.2.1 (by omega) (fun x hx => by have := HM.out.2.2.1 x hx; omega)
                have HR1 := Lib.hid hr1
                clear hr1
                go_wp2_with fail
                (with_reducible refine HR1.out.mono ?_)
                rintro e u6 ⟨D6, rfl, hn6, hb6⟩
                have h64 : I64s (rnkL (kyI m) j) := fun x hx => by
                  unfold rnkL at hx
                  obtain ⟨p, -, rfl⟩ := List.mem_map.1 hx
                  have := nless_le (kyI m) j (kyI m p)
                  omega
                have hr2 := ranks_any (some ⟨D6, 0, none⟩) j j (rnkL (kyI m) j) u6 hn6 (rnkL_length _ _) (by omega) h64
                rw [show RankEnd u6 (kyI (rnkL (kyI m) j)) j = fun e u => ∃ D, e = .returned (.slice (some ⟨D, 0, none⟩) j j) ∧ NumsAt .i64 u (some ⟨D, 0, none⟩) (rnkL (kyI m) j) ∧ Below u6.heap.size u6 u from funext fun e => funext fun u => by unfold RankEnd; rw [rnk_twice]] at hr2
                have HR2 := Lib.hid hr2
                have H6 := Lib.hid (And.intro hn6 (HQ.out.2.2.trans (hb6.mono HQ.out.2.2.size)))
                clear hr2 hn6 hb6 h64 HR1
                go_wp2_with fail
                (with_reducible refine HR2.out.mono ?_)
                rintro e u7 ⟨D7, rfl, hn7, hb7⟩
                have hsa := rsame_any (some ⟨D7, 0, none⟩) (some ⟨D6, 0, none⟩) j j j j _ _ u7 hn7 (H6.out.1.kept hb7) (rnkL_length _ _) (rnkL_length _ _) (by omega)
                rw [decide_eq_true rfl] at hsa
                have HSA := Lib.hid hsa
                have H7 := Lib.hid (H6.out.2.trans (hb7.mono H6.out.2.size))
                clear hsa hn7 hb7 HR2
                go_wp2_with fail
                (with_reducible refine HSA.out.mono ?_)
                rintro e u8 ⟨rfl, hb8⟩
                have HF := Lib.hid (H7.out.trans (hb8.mono H7.out.size))
                clear hb8
                have q10 : ((j : Int) == (j : Int)) = true := by simp
                go_wp2
                go_ret
                exact ⟨rfl, HF.out⟩

end Go.Proofs.Ytjijkiafjlfeiaa

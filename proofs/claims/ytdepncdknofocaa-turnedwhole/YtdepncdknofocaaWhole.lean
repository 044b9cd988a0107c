/- The walk of TurnedWhole. -/
import Derived.Test.YtdepncdknofocaaRound
set_option maxRecDepth 100000
namespace Go.Proofs.Ytdepncdknofocaa
open Go.RowKit
open M
attribute [local go_sem ↓] Go.wp_at_zero Go.wp_at_succ

/-- How often a number stands among the first. -/
def cntA (l : List Int) (c : Int) (j : Nat) : Nat := (l.take j).count c
theorem cntA_zero (l : List Int) (c : Int) : cntA l c 0 = 0 := rfl
theorem cntA_succ (l : List Int) (c : Int) (j : Nat) (h : j < l.length) : cntA l c (j + 1) = cntA l c j + if l.getD j 0 = c then 1 else 0 := by
  unfold cntA
  rw [takeI_snoc l j h, List.count_append, List.count_singleton]
  by_cases e : l.getD j 0 = c
  · rw [if_pos e, if_pos (by simpa using e)]
  · rw [if_neg e, if_neg (by simpa using e)]
theorem cntA_le (l : List Int) (c : Int) (j : Nat) : cntA l c j ≤ j := by
  unfold cntA
  exact Nat.le_trans List.count_le_length (List.length_take_le _ _)
theorem cntA_all (l : List Int) (c : Int) : cntA l c l.length = l.count c := by unfold cntA; rw [List.take_of_length_le (Nat.le_refl _)]
/-- The row turned has the row's numbers, and -1. -/
theorem turn_perm (l : List Int) : (turnL l).Perm (-1 :: l) := by
  have h1 : (allA l).Perm (plcs (l.length + 1)) := by
    rw [plcs_succ]
    unfold allA sufA
    exact (((ordP_same (sfK l) l.length).perm.symm).cons _).trans (List.perm_append_singleton _ _).symm
  have h2 := h1.map (ahdI l)
  have h3 : (plcs (l.length + 1)).map (ahdI l) = -1 :: l := by
    apply List.ext_getElem (by simp [plcs_length])
    intro i hi hi'
    rw [List.getElem_map]
    have : (plcs (l.length + 1))[i]'(by rw [plcs_length]; simpa using hi') = (i : Int) := by
      have := plcs_at (l.length + 1) i (by simpa using hi')
      rw [List.getD_eq_getElem?_getD, List.getElem?_eq_getElem (by rw [plcs_length]; simpa using hi'), Option.getD_some] at this
      exact this
    rw [this]
    unfold ahdI
    cases i with
    | zero => rfl
    | succ i =>
      rw [if_neg (by omega), Int.toNat_natCast, Nat.add_sub_cancel, List.getElem_cons_succ]
      have : i < l.length := by simpa using hi'
      simp [List.getD_eq_getElem?_getD, this]
  rw [← h3]
  exact h2
theorem turn_count (l : List Int) (c : Int) (hc : -1 ≤ c) : ((l.count c : Nat) : Int) - (((turnL l).count c : Nat) : Int) = if c < 0 then -1 else 0 := by
  rw [(turn_perm l).count_eq, List.count_cons]
  by_cases e : c < 0
  · rw [if_pos e, if_pos (by simp; omega)]; omega
  · rw [if_neg e, if_neg (by simp; omega)]; omega

set_option maxHeartbeats 8000000 in
theorem twhole_walk (A : Option Addr) (n0 c0 : Nat) (xs : List Int) (q0 : Int) (w : World) (hA : NumsAt .i64 w A xs) (hx : xs.length = n0) :
    Calls Try.prog 5 #[.slice A n0 c0, .int .i64 q0] w fun e w' => e = .returned (.bool true) ∧ Below w.heap.size w w' := by
  obtain ⟨h1, h2, h3⟩ := kind8_in q0
  have hand := and7 q0
  obtain ⟨s, hs⟩ : ∃ s, kind8 q0 = s := ⟨_, rfl⟩
  rw [hs] at h1 h2 h3
  obtain ⟨t, ht⟩ : ∃ t, q0 % 8 = t := ⟨_, rfl⟩
  rw [ht] at hand h3
  have hw : IntKind.i64.wrap (1 + t) = (s : Int) := by rw [← h3]; exact IntWalk.i64_in _ (by omega)
  have HX := Lib.hid (And.intro hA hx)
  obtain ⟨m, hm⟩ : ∃ m, min n0 100 = m := ⟨_, rfl⟩
  have hm1 : m ≤ n0 := by omega
  have hm2 : m ≤ 100 := by omega
  have hm3 : m < n0 → m = 100 := by omega
  have h0 : ((s : Int) == 0) = false := by simp; omega
  have h0' : (s : Int) ≠ 0 := by omega
  clear hA hx hs ht hm h3
  go_enter Try.func5, Try.ntmps5
  go_wp2_with fail
  (with_reducible refine (awake_any _).mono ?_)
  rintro e w1 ⟨rfl, hb1⟩
  have HB := Lib.hid hb1
  clear hb1
  go_wp2
  clear hw hand
  go_loopw [7, 8] (fun v7 v8 wr => ∃ i : Nat, i ≤ m ∧ v8 = .int .i64 (i : Int) ∧ OwnI w1 v7 (cutL s xs i) wr) (fun _ v8 _ => m - (intOf v8).toNat)
  case atStart => exact ⟨0, Nat.zero_le _, rfl, World.ownsRow_nil _ _ _ _, Below.refl _ _⟩
  case round =>
    obtain ⟨i, hin, rfl, hI⟩ := hrel
    by_cases hlt : i < m
    · obtain ⟨bb, off, hAe, hbl, hcb⟩ := num_at (HX.out.1.kept (HB.out.trans (hI.2.mono HB.out.size))) (i := i) (by rw [HX.out.2]; omega)
      have hsu := cutL_succ s xs i (by rw [HX.out.2]; omega)
      have hml := cutL_len s xs i (by rw [HX.out.2]; omega)
      generalize xs.getD i 0 = x at *
      have hsz := hI.2.size
      have HM := Lib.hid (And.intro hI (And.intro hsu hml))
      subst hAe
      clear hI hsu hml
      obtain ⟨y, hy⟩ : ∃ y, x.tmod s = y := ⟨_, rfl⟩
      have t1 := Int.tmod_lt_of_pos x (b := (s : Int)) (by omega)
      have t2 := Int.lt_tmod_of_pos x (b := (s : Int)) (by omega)
      rw [hy] at t1 t2
      obtain ⟨z, hz⟩ : ∃ z, z = cutI s x := ⟨_, rfl⟩
      rw [← hz] at HM
      have hyz : (y + (s : Int)).tmod s = z := by rw [hz]; unfold cutI; rw [hy]
      clear hz
      have qw : IntKind.i64.wrap (y + (s : Int)) = y + (s : Int) := IntWalk.i64_in _ (by omega)
      have q1 : (i : Int) < (n0 : Int) := by omega
      have q2 : (0 : Int) ≤ (i : Int) := by omega
      have q3 : (i : Int) < 100 := by omega
      go_wp2_with (first
        | (at_builtin
           refine wpList_append_nums rfl (.tmp 32) (.tmp 43) rfl w1.heap.size _ _ _ rfl (HM.out.1.alloc _).1 (some ⟨_, 0, none⟩) 1 1 [z] rfl rfl ?c1 (by simp) ?c2 ?c3 ?_))
      case c1 => exact nums_one _ _
      case c2 => rw [HM.out.2.2]; omega
      case c3 => first | omega | (simp; omega)
      intro v' w5 hown hgrow _
      have hI5 := (HM.out.1.alloc _).app (l' := cutL s xs i ++ [z]) (by simpa using hown) hgrow
      have HX5 := Lib.hid hI5
      clear hown hgrow hI5
      go_wp2
      go_roundw
      case rel => exact ⟨i + 1, by omega, by go_num, by rw [HM.out.2.1]; exact HX5.out⟩
      case measure => simp [intOf]; omega
    · obtain rfl : i = m := by omega
      obtain ⟨P, pc, rfl, hPn, -, hpc, -, -⟩ := nums_of_own hI.1
      have hMl := cutL_len s xs i (by rw [HX.out.2]; omega)
      have hMi := cutL_in s xs i (by omega)
      obtain ⟨M, hM⟩ : ∃ M, M = cutL s xs i := ⟨_, rfl⟩
      rw [← hM] at hMl hMi hPn hpc ⊢
      rw [hMl] at hpc ⊢
      have h64 : I64s M := fun x hx => by have := hMi x hx; omega
      have hnn : Nn M := fun x hx => (hMi x hx).1
      have hwb := HB.out.trans (hI.2.mono HB.out.size)
      have htn := turn_any P i pc M wr hPn hMl (by omega) h64 hnn
      obtain ⟨n, rfl⟩ : ∃ n, n = i := ⟨_, rfl⟩
      have HP := Lib.hid (And.intro hPn (And.intro hMl (And.intro hMi (And.intro h64 (And.intro hnn (And.intro hwb htn))))))
      have hcase : ((n : Int) < (n0 : Int) ∧ n = 100) ∨ ¬ (n : Int) < (n0 : Int) := by omega
      obtain ⟨w3, rfl⟩ : ∃ w3, w3 = wr := ⟨_, rfl⟩
      have hTl : (turnL M).length = n + 1 := by rw [turnL_len, hMl]
      clear hI hPn hpc hMl hMi h64 hnn hwb htn hM hlt hm3
      rcases hcase with ⟨z1, z2⟩ | z1
      · have z3 : ¬ (n : Int) < 100 := by omega
        clear z2
        go_wp2_with fail
        (with_reducible refine HP.out.2.2.2.2.2.2.mono ?_)
        rintro e x1 ⟨v, rfl, hI⟩
        obtain ⟨R, rc, rfl, hR, -, -, -, -⟩ := nums_of_own hI.1
        rw [hTl]
        have hwx := HP.out.2.2.2.2.2.1.trans (hI.2.mono HP.out.2.2.2.2.2.1.size)
        have hbk := back_ok R (n + 1) rc M x1 hR (by rw [HP.out.2.1]) (by omega) HP.out.2.2.2.1 HP.out.2.2.2.2.1 (turn_64 HP.out.2.2.2.1)
        have HR := Lib.hid (And.intro hbk (And.intro hwx (And.intro hR (And.intro (HP.out.1.kept hI.2) hTl))))
        clear hI hR hwx hbk hTl
        go_wp2_with fail
        (with_reducible refine HR.out.1.mono ?_)
        rintro e x2 ⟨v, rfl, hI⟩
        obtain ⟨Q, qc, rfl, hQ, -, -, -, -⟩ := nums_of_own hI.1
        rw [HP.out.2.1]
        have hwx := HR.out.2.1.trans (hI.2.mono HR.out.2.1.size)
        have hsm := rsame_any Q P n n qc pc M M x2 hQ (HR.out.2.2.2.1.kept hI.2) HP.out.2.1 HP.out.2.1 (by omega)
        rw [decide_eq_true rfl] at hsm
        have HQ := Lib.hid (And.intro hsm (And.intro hwx (And.intro (HR.out.2.2.1.kept hI.2) (HR.out.2.2.2.1.kept hI.2))))
        clear hI hQ hwx hsm
        go_wp2_with fail
        (with_reducible refine HQ.out.1.mono ?_)
        rintro e x3 ⟨rfl, hb3⟩
        have HD := Lib.hid (And.intro (HQ.out.2.2.1.kept hb3) (And.intro (HQ.out.2.2.2.kept hb3) (And.intro (HQ.out.2.1.trans (hb3.mono HQ.out.2.1.size)) (And.intro HR.out.2.2.2.2 (fun c hc => turn_count M c hc)))))
        clear hb3 HQ HR
        have q4 : IntKind.i64.wrap ((n : Int) + 1) = (n : Int) + 1 := IntWalk.i64_in _ (by omega)
        go_wp2
        clear q4
        go_loopw [14, 15, 16, 17] (fun v14 _ _ _ wr => ∃ c : Int, -1 ≤ c ∧ c ≤ (s : Int) ∧ v14 = .int .i64 c ∧ wr = x3) (fun v14 _ _ _ _ => ((s : Int) - intOf v14).toNat)
        case atStart => exact ⟨-1, by omega, by omega, rfl, rfl⟩
        case round =>
          obtain ⟨c, hc1, hc2, rfl, rfl⟩ := hrel
          by_cases hlt : c < (s : Int)
          · obtain ⟨x3, rfl⟩ : ∃ x3, x3 = wr := ⟨_, rfl⟩
            go_wp2
            go_loopw [15, 16] (fun v15 v16 wr => ∃ j : Nat, j ≤ n ∧ v16 = .int .i64 (j : Int) ∧ v15 = .int .i64 (cntA M c j : Nat) ∧ wr = x3) (fun _ v16 _ => n - (intOf v16).toNat)
            case atStart => exact ⟨0, Nat.zero_le _, rfl, rfl, rfl⟩
            case round =>
              obtain ⟨j, hj, rfl, rfl, rfl⟩ := hrel
              by_cases hjn : j < n
              · obtain ⟨bb, off, hPe, -, ck⟩ := num_at HD.out.2.1 (i := j) (by rw [HP.out.2.1]; exact hjn)
                have hsu := cntA_succ M c j (by rw [HP.out.2.1]; exact hjn)
                have hle := cntA_le M c j
                obtain ⟨x, hx⟩ : ∃ x, M.getD j 0 = x := ⟨_, rfl⟩
                rw [hx] at ck hsu
                obtain ⟨y, hy⟩ : ∃ y, cntA M c j = y := ⟨_, rfl⟩
                rw [hy] at hsu hle
                rw [hy]
                have HPE := Lib.hid hPe
                have q1 : (j : Int) < (n : Int) := by omega
                have q2 : (0 : Int) ≤ (j : Int) := by omega
                have q3 : IntKind.i64.wrap ((y : Int) + 1) = ((y + 1 : Nat) : Int) := by rw [Int.natCast_add]; exact IntWalk.i64_in _ (by omega)
                by_cases e : x = c
                · rw [if_pos e] at hsu
                  have HS := Lib.hid hsu
                  have q8 : (x == c) = true := by simpa using e
                  clear hsu hx hy e hlt hc1 hc2
                  subst hPe
                  go_wp2
                  go_roundw
                  case rel => exact ⟨j + 1, by omega, by go_num, by rw [HS.out]; first | rfl | go_num | (simp), by first | rfl | trivial⟩
                  case measure => simp [intOf]; omega
                · rw [if_neg e] at hsu
                  have HS := Lib.hid hsu
                  have q8 : (x == c) = false := by simpa using e
                  clear hsu hx hy e hlt hc1 hc2
                  subst hPe
                  go_wp2
                  go_roundw
                  case rel => exact ⟨j + 1, by omega, by go_num, by rw [HS.out]; rfl, by first | rfl | trivial⟩
                  case measure => simp [intOf]; omega
              · obtain rfl : j = n := by omega
                obtain ⟨n, rfl⟩ : ∃ n, n = j := ⟨_, rfl⟩
                have hM0 := cntA_all M c
                rw [HP.out.2.1] at hM0
                have hMle := cntA_le M c n
                obtain ⟨u, hu⟩ : ∃ u, cntA M c n = u := ⟨_, rfl⟩
                rw [hu] at hM0 hMle
                rw [hu]
                have HU := Lib.hid hM0
                have q1 : ¬ (n : Int) < (n : Int) := by omega
                clear hM0 hu
                obtain ⟨x3, rfl⟩ : ∃ x3, x3 = wr := ⟨_, rfl⟩
                go_wp2
                go_loopw [15, 17] (fun v15 v17 wr => ∃ j : Nat, j ≤ n + 1 ∧ v17 = .int .i64 (j : Int) ∧ v15 = .int .i64 ((u : Int) - (cntA (turnL M) c j : Nat)) ∧ wr = x3) (fun _ v17 _ => n + 1 - (intOf v17).toNat)
                case atStart => exact ⟨0, Nat.zero_le _, rfl, by rw [cntA_zero]; simp, rfl⟩
                case round =>
                  obtain ⟨j, hj, rfl, rfl, rfl⟩ := hrel
                  by_cases hjn : j < n + 1
                  · obtain ⟨bb, off, hRe, -, ck⟩ := num_at HD.out.1 (i := j) (by rw [HD.out.2.2.2.1]; exact hjn)
                    have hsu := cntA_succ (turnL M) c j (by rw [HD.out.2.2.2.1]; exact hjn)
                    have hle := cntA_le (turnL M) c j
                    obtain ⟨x, hx⟩ : ∃ x, (turnL M).getD j 0 = x := ⟨_, rfl⟩
                    rw [hx] at ck hsu
                    obtain ⟨y, hy⟩ : ∃ y, cntA (turnL M) c j = y := ⟨_, rfl⟩
                    rw [hy] at hsu hle
                    rw [hy]
                    have HRE := Lib.hid hRe
                    have q1 : (j : Int) < (n : Int) + 1 := by omega
                    have q2 : (0 : Int) ≤ (j : Int) := by omega
                    obtain ⟨d, hd⟩ : ∃ d : Int, (u : Int) - (y : Int) = d := ⟨_, rfl⟩
                    rw [hd]
                    have q3 : IntKind.i64.wrap (d - 1) = d - 1 := IntWalk.i64_in _ (by omega)
                    by_cases e : x = c
                    · rw [if_pos e] at hsu
                      have HS := Lib.hid (And.intro hsu hd)
                      have q8 : (x == c) = true := by simpa using e
                      clear hsu hx hy e hlt hc1 hc2 hd
                      subst hRe
                      go_wp2
                      go_roundw
                      case rel => exact ⟨j + 1, by omega, by go_num, by rw [HS.out.1, ← HS.out.2]; congr 1; omega, by first | rfl | trivial⟩
                      case measure => simp [intOf]; omega
                    · rw [if_neg e] at hsu
                      have HS := Lib.hid (And.intro hsu hd)
                      have q8 : (x == c) = false := by simpa using e
                      clear hsu hx hy e hlt hc1 hc2 hd
                      subst hRe
                      go_wp2
                      go_roundw
                      case rel => exact ⟨j + 1, by omega, by go_num, by rw [HS.out.1, ← HS.out.2]; congr 1, by first | rfl | trivial⟩
                      case measure => simp [intOf]; omega
                  · obtain rfl : j = n + 1 := by omega
                    have hT0 := cntA_all (turnL M) c
                    rw [HD.out.2.2.2.1] at hT0
                    have hfin := HD.out.2.2.2.2 c hc1
                    rw [← HU.out, ← hT0] at hfin
                    rw [hfin]
                    have q1 : ¬ ((n + 1 : Nat) : Int) < (n : Int) + 1 := by omega
                    have q1' : ¬ (n : Int) + 1 < (n : Int) + 1 := by omega
                    have q5 : IntKind.i64.wrap (c + 1) = c + 1 := IntWalk.i64_in _ (by omega)
                    clear hT0 hfin
                    by_cases hneg : c < 0
                    · rw [if_pos hneg]
                      have q2 : ¬ c ≥ 0 := by omega
                      have q2' : ¬ 0 ≤ c := by omega
                      have HC := Lib.hid (And.intro hlt hc1)
                      clear hlt hc1 hc2
                      go_wp2
                      go_roundw
                      case rel => exact ⟨c + 1, by have := HC.out.2; omega, by have := HC.out.1; omega, by first | rfl | trivial | go_num, by first | rfl | trivial⟩
                      case measure => have := HC.out.1; simp [intOf]; omega
                    · rw [if_neg hneg]
                      have q2 : c ≥ 0 := by omega
                      have q2' : 0 ≤ c := by omega
                      have HC := Lib.hid (And.intro hlt hc1)
                      clear hlt hc1 hc2
                      go_wp2
                      go_roundw
                      case rel => exact ⟨c + 1, by have := HC.out.2; omega, by have := HC.out.1; omega, by first | rfl | trivial | go_num, by first | rfl | trivial⟩
                      case measure => have := HC.out.1; simp [intOf]; omega
          · have q1 : ¬ c < (s : Int) := hlt
            go_wp2
            go_ret
            exact ⟨rfl, HD.out.2.2.1⟩
      · skip
        go_wp2_with fail
        (with_reducible refine HP.out.2.2.2.2.2.2.mono ?_)
        rintro e x1 ⟨v, rfl, hI⟩
        obtain ⟨R, rc, rfl, hR, -, -, -, -⟩ := nums_of_own hI.1
        rw [hTl]
        have hwx := HP.out.2.2.2.2.2.1.trans (hI.2.mono HP.out.2.2.2.2.2.1.size)
        have hbk := back_ok R (n + 1) rc M x1 hR (by rw [HP.out.2.1]) (by omega) HP.out.2.2.2.1 HP.out.2.2.2.2.1 (turn_64 HP.out.2.2.2.1)
        have HR := Lib.hid (And.intro hbk (And.intro hwx (And.intro hR (And.intro (HP.out.1.kept hI.2) hTl))))
        clear hI hR hwx hbk hTl
        go_wp2_with fail
        (with_reducible refine HR.out.1.mono ?_)
        rintro e x2 ⟨v, rfl, hI⟩
        obtain ⟨Q, qc, rfl, hQ, -, -, -, -⟩ := nums_of_own hI.1
        rw [HP.out.2.1]
        have hwx := HR.out.2.1.trans (hI.2.mono HR.out.2.1.size)
        have hsm := rsame_any Q P n n qc pc M M x2 hQ (HR.out.2.2.2.1.kept hI.2) HP.out.2.1 HP.out.2.1 (by omega)
        rw [decide_eq_true rfl] at hsm
        have HQ := Lib.hid (And.intro hsm (And.intro hwx (And.intro (HR.out.2.2.1.kept hI.2) (HR.out.2.2.2.1.kept hI.2))))
        clear hI hQ hwx hsm
        go_wp2_with fail
        (with_reducible refine HQ.out.1.mono ?_)
        rintro e x3 ⟨rfl, hb3⟩
        have HD := Lib.hid (And.intro (HQ.out.2.2.1.kept hb3) (And.intro (HQ.out.2.2.2.kept hb3) (And.intro (HQ.out.2.1.trans (hb3.mono HQ.out.2.1.size)) (And.intro HR.out.2.2.2.2 (fun c hc => turn_count M c hc)))))
        clear hb3 HQ HR
        have q4 : IntKind.i64.wrap ((n : Int) + 1) = (n : Int) + 1 := IntWalk.i64_in _ (by omega)
        go_wp2
        clear q4
        go_loopw [14, 15, 16, 17] (fun v14 _ _ _ wr => ∃ c : Int, -1 ≤ c ∧ c ≤ (s : Int) ∧ v14 = .int .i64 c ∧ wr = x3) (fun v14 _ _ _ _ => ((s : Int) - intOf v14).toNat)
        case atStart => exact ⟨-1, by omega, by omega, rfl, rfl⟩
        case round =>
          obtain ⟨c, hc1, hc2, rfl, rfl⟩ := hrel
          by_cases hlt : c < (s : Int)
          · obtain ⟨x3, rfl⟩ : ∃ x3, x3 = wr := ⟨_, rfl⟩
            go_wp2
            go_loopw [15, 16] (fun v15 v16 wr => ∃ j : Nat, j ≤ n ∧ v16 = .int .i64 (j : Int) ∧ v15 = .int .i64 (cntA M c j : Nat) ∧ wr = x3) (fun _ v16 _ => n - (intOf v16).toNat)
            case atStart => exact ⟨0, Nat.zero_le _, rfl, rfl, rfl⟩
            case round =>
              obtain ⟨j, hj, rfl, rfl, rfl⟩ := hrel
              by_cases hjn : j < n
              · obtain ⟨bb, off, hPe, -, ck⟩ := num_at HD.out.2.1 (i := j) (by rw [HP.out.2.1]; exact hjn)
                have hsu := cntA_succ M c j (by rw [HP.out.2.1]; exact hjn)
                have hle := cntA_le M c j
                obtain ⟨x, hx⟩ : ∃ x, M.getD j 0 = x := ⟨_, rfl⟩
                rw [hx] at ck hsu
                obtain ⟨y, hy⟩ : ∃ y, cntA M c j = y := ⟨_, rfl⟩
                rw [hy] at hsu hle
                rw [hy]
                have HPE := Lib.hid hPe
                have q1 : (j : Int) < (n : Int) := by omega
                have q2 : (0 : Int) ≤ (j : Int) := by omega
                have q3 : IntKind.i64.wrap ((y : Int) + 1) = ((y + 1 : Nat) : Int) := by rw [Int.natCast_add]; exact IntWalk.i64_in _ (by omega)
                by_cases e : x = c
                · rw [if_pos e] at hsu
                  have HS := Lib.hid hsu
                  have q8 : (x == c) = true := by simpa using e
                  clear hsu hx hy e hlt hc1 hc2
                  subst hPe
                  go_wp2
                  go_roundw
                  case rel => exact ⟨j + 1, by omega, by go_num, by rw [HS.out]; first | rfl | go_num | (simp), by first | rfl | trivial⟩
                  case measure => simp [intOf]; omega
                · rw [if_neg e] at hsu
                  have HS := Lib.hid hsu
                  have q8 : (x == c) = false := by simpa using e
                  clear hsu hx hy e hlt hc1 hc2
                  subst hPe
                  go_wp2
                  go_roundw
                  case rel => exact ⟨j + 1, by omega, by go_num, by rw [HS.out]; rfl, by first | rfl | trivial⟩
                  case measure => simp [intOf]; omega
              · obtain rfl : j = n := by omega
                obtain ⟨n, rfl⟩ : ∃ n, n = j := ⟨_, rfl⟩
                have hM0 := cntA_all M c
                rw [HP.out.2.1] at hM0
                have hMle := cntA_le M c n
                obtain ⟨u, hu⟩ : ∃ u, cntA M c n = u := ⟨_, rfl⟩
                rw [hu] at hM0 hMle
                rw [hu]
                have HU := Lib.hid hM0
                have q1 : ¬ (n : Int) < (n : Int) := by omega
                clear hM0 hu
                obtain ⟨x3, rfl⟩ : ∃ x3, x3 = wr := ⟨_, rfl⟩
                go_wp2
                go_loopw [15, 17] (fun v15 v17 wr => ∃ j : Nat, j ≤ n + 1 ∧ v17 = .int .i64 (j : Int) ∧ v15 = .int .i64 ((u : Int) - (cntA (turnL M) c j : Nat)) ∧ wr = x3) (fun _ v17 _ => n + 1 - (intOf v17).toNat)
                case atStart => exact ⟨0, Nat.zero_le _, rfl, by rw [cntA_zero]; simp, rfl⟩
                case round =>
                  obtain ⟨j, hj, rfl, rfl, rfl⟩ := hrel
                  by_cases hjn : j < n + 1
                  · obtain ⟨bb, off, hRe, -, ck⟩ := num_at HD.out.1 (i := j) (by rw [HD.out.2.2.2.1]; exact hjn)
                    have hsu := cntA_succ (turnL M) c j (by rw [HD.out.2.2.2.1]; exact hjn)
                    have hle := cntA_le (turnL M) c j
                    obtain ⟨x, hx⟩ : ∃ x, (turnL M).getD j 0 = x := ⟨_, rfl⟩
                    rw [hx] at ck hsu
                    obtain ⟨y, hy⟩ : ∃ y, cntA (turnL M) c j = y := ⟨_, rfl⟩
                    rw [hy] at hsu hle
                    rw [hy]
                    have HRE := Lib.hid hRe
                    have q1 : (j : Int) < (n : Int) + 1 := by omega
                    have q2 : (0 : Int) ≤ (j : Int) := by omega
                    obtain ⟨d, hd⟩ : ∃ d : Int, (u : Int) - (y : Int) = d := ⟨_, rfl⟩
                    rw [hd]
                    have q3 : IntKind.i64.wrap (d - 1) = d - 1 := IntWalk.i64_in _ (by omega)
                    by_cases e : x = c
                    · rw [if_pos e] at hsu
                      have HS := Lib.hid (And.intro hsu hd)
                      have q8 : (x == c) = true := by simpa using e
                      clear hsu hx hy e hlt hc1 hc2 hd
                      subst hRe
                      go_wp2
                      go_roundw
                      case rel => exact ⟨j + 1, by omega, by go_num, by rw [HS.out.1, ← HS.out.2]; congr 1; omega, by first | rfl | trivial⟩
                      case measure => simp [intOf]; omega
                    · rw [if_neg e] at hsu
                      have HS := Lib.hid (And.intro hsu hd)
                      have q8 : (x == c) = false := by simpa using e
                      clear hsu hx hy e hlt hc1 hc2 hd
                      subst hRe
                      go_wp2
                      go_roundw
                      case rel => exact ⟨j + 1, by omega, by go_num, by rw [HS.out.1, ← HS.out.2]; congr 1, by first | rfl | trivial⟩
                      case measure => simp [intOf]; omega
                  · obtain rfl : j = n + 1 := by omega
                    have hT0 := cntA_all (turnL M) c
                    rw [HD.out.2.2.2.1] at hT0
                    have hfin := HD.out.2.2.2.2 c hc1
                    rw [← HU.out, ← hT0] at hfin
                    rw [hfin]
                    have q1 : ¬ ((n + 1 : Nat) : Int) < (n : Int) + 1 := by omega
                    have q1' : ¬ (n : Int) + 1 < (n : Int) + 1 := by omega
                    have q5 : IntKind.i64.wrap (c + 1) = c + 1 := IntWalk.i64_in _ (by omega)
                    clear hT0 hfin
                    by_cases hneg : c < 0
                    · rw [if_pos hneg]
                      have q2 : ¬ c ≥ 0 := by omega
                      have q2' : ¬ 0 ≤ c := by omega
                      have HC := Lib.hid (And.intro hlt hc1)
                      clear hlt hc1 hc2
                      go_wp2
                      go_roundw
                      case rel => exact ⟨c + 1, by have := HC.out.2; omega, by have := HC.out.1; omega, by first | rfl | trivial | go_num, by first | rfl | trivial⟩
                      case measure => have := HC.out.1; simp [intOf]; omega
                    · rw [if_neg hneg]
                      have q2 : c ≥ 0 := by omega
                      have q2' : 0 ≤ c := by omega
                      have HC := Lib.hid (And.intro hlt hc1)
                      clear hlt hc1 hc2
                      go_wp2
                      go_roundw
                      case rel => exact ⟨c + 1, by have := HC.out.2; omega, by have := HC.out.1; omega, by first | rfl | trivial | go_num, by first | rfl | trivial⟩
                      case measure => have := HC.out.1; simp [intOf]; omega
          · have q1 : ¬ c < (s : Int) := hlt
            go_wp2
            go_ret
            exact ⟨rfl, HD.out.2.2.1⟩

end Go.Proofs.Ytdepncdknofocaa

/- The walk of SuffixOrders. -/
import Derived.Test.YtjepgdfcjbgahaaXU
set_option maxRecDepth 100000
namespace Go.Proofs.Ytjepgdfcjbgahaa
open Go.RowKit
open M
attribute [local go_sem ↓] Go.wp_at_zero Go.wp_at_succ

theorem I64s.take {l : List Int} (h : I64s l) (n : Nat) : I64s (l.take n) := fun x hx => h x (List.mem_of_mem_take hx)
set_option maxHeartbeats 8000000 in
theorem orders_walk (A : Option Addr) (n0 c0 : Nat) (xs : List Int) (q0 : Int) (w : World) (hA : NumsAt .i64 w A xs) (hx : xs.length = n0) (hc : n0 ≤ c0) (h64 : I64s xs) :
    Calls Try.prog 3 #[.slice A n0 c0, .int .i64 q0] w fun e w' => e = .returned (.bool true) ∧ Below w.heap.size w w' := by
  have hfw := fun u => few_any A n0 c0 u hc
  have hal := fun u (hu : NumsAt .i64 u A xs) => alike_any A n0 c0 xs q0 u hu hx
  have hml : (xs.take (min n0 40)).length = min n0 40 := by rw [List.length_take]; omega
  have hm64 := h64.take (min n0 40)
  have hcl := cutL_len (kindN q0) xs (min n0 40) (by rw [hx]; omega)
  have hci := cutL_in (kindN q0) xs (min n0 40) (by have := kindN_in q0; omega)
  obtain ⟨n, hn⟩ : ∃ n, n = min n0 40 := ⟨_, rfl⟩
  rw [← hn] at hml hm64 hcl hci
  simp only [← hn] at hfw hal
  have hn40 : n ≤ 40 := by omega
  have hnc : n ≤ c0 := by omega
  have HX := Lib.hid (And.intro hA (And.intro hfw (And.intro hal (And.intro hml (And.intro hm64 (And.intro hcl hci))))))
  clear hA hx hc h64 hfw hal hml hm64 hcl hci hn
  go_enter Try.func3, Try.ntmps3
  go_wp2_with fail
  (with_reducible refine (awake_any _).mono ?_)
  rintro e w1 ⟨rfl, hb1⟩
  have HB := Lib.hid hb1
  clear hb1
  go_wp2
  go_loopw [6, 7, 8, 9, 10, 11, 12] (fun v6 _ _ _ _ _ _ wr => ∃ t : Nat, t ≤ 2 ∧ v6 = .int .i64 (t : Int) ∧ Below w.heap.size w wr) (fun v6 _ _ _ _ _ _ _ => 2 - (intOf v6).toNat)
  case atStart => exact ⟨0, by omega, rfl, HB.out⟩
  case round =>
    obtain ⟨t, ht, rfl, hb⟩ := hrel
    obtain ⟨w2, rfl⟩ : ∃ w2, w2 = wr := ⟨_, rfl⟩
    by_cases ht2 : t < 2
    · have HW := Lib.hid hb
      have z1 : (t : Int) < 2 := by omega
      clear hb
      by_cases ht1 : t = 1
      · have HT := Lib.hid ht1
        have z2 : ((t : Int) == 1) = true := by simp; omega
        clear ht1
        go_wp2_with fail
        (with_reducible refine (HX.out.2.1 _).mono ?_)
        rintro e u0 ⟨rfl, rfl⟩
        go_wp2_with fail
        (with_reducible refine (HX.out.2.2.1 _ (HX.out.1.kept HW.out)).mono ?_)
        rintro e u ⟨v, rfl, hI⟩
        obtain ⟨P, pc, rfl, hPn, -, hpc, -, -⟩ := nums_of_own hI.1
        obtain ⟨M, hM⟩ : ∃ M, M = cutL (kindN q0) xs n := ⟨_, rfl⟩
        rw [← hM] at hPn hpc ⊢
        have HP := Lib.hid (And.intro hPn (And.intro (show M.length ≤ 40 by rw [hM, HX.out.2.2.2.2.2.1]; exact hn40) (And.intro hpc (And.intro (show I64s M from fun x hx => by
          rw [hM] at hx
          have := HX.out.2.2.2.2.2.2 x hx
          have := kindN_in q0
          omega) (HW.out.trans (hI.2.mono HW.out.size))))))
        clear hI hPn hpc hM
        obtain ⟨k, hk⟩ : ∃ k, M.length = k := ⟨_, rfl⟩
        rw [hk] at HP ⊢
        have HK := Lib.hid hk
        have hk40 : k ≤ 40 := HP.out.2.1
        clear hk
        have har := array_any P k pc M u HP.out.1 HK.out (by omega) HP.out.2.2.2.1
        have HA := Lib.hid har
        clear har
        go_wp2_with fail
        (with_reducible refine HA.out.mono ?_)
        rintro e u1 ⟨A1, c1, rfl, h1, -, hb1⟩
        have hM1 := HP.out.1.kept hb1
        have hbw := HP.out.2.2.2.2.trans (hb1.mono HP.out.2.2.2.2.size)
        have hda := darray_any P k pc M u1 hM1 HK.out HP.out.2.2.1 (by omega) HP.out.2.2.2.1
        have H1 := Lib.hid (And.intro h1 (And.intro hM1 (And.intro hbw hda)))
        clear h1 hM1 hbw hda hb1
        go_wp2_with fail
        (with_reducible refine H1.out.2.2.2.mono ?_)
        rintro e u2 ⟨v, rfl, hI⟩
        obtain ⟨W1, wc, rfl, hW, hWl, -, -, -⟩ := nums_of_own hI.1
        have hsl : (sufA M).length = k := by rw [sufA_len, HK.out]
        rw [hsl]
        have hbw := H1.out.2.2.1.trans (hI.2.mono H1.out.2.2.1.size)
        have hsa := rsame_any A1 W1 k k c1 wc (sufA M) (sufA M) u2 (H1.out.1.kept hI.2) hW hsl hsl (by omega)
        rw [decide_eq_true rfl] at hsa
        have H2 := Lib.hid (And.intro hW (And.intro (H1.out.2.1.kept hI.2) (And.intro hbw (And.intro hsa hsl))))
        clear hI hW hWl hbw hsa hsl
        go_wp2_with fail
        (with_reducible refine H2.out.2.2.2.1.mono ?_)
        rintro e u3 ⟨rfl, hb3⟩
        have hM3 := H2.out.2.1.kept hb3
        have hbw := H2.out.2.2.1.trans (hb3.mono H2.out.2.2.1.size)
        have hrk := sranks_any P k pc M u3 hM3 HK.out (by omega) HP.out.2.2.2.1
        have H3 := Lib.hid (And.intro (H2.out.1.kept hb3) (And.intro hbw hrk))
        clear hM3 hbw hrk hb3
        go_wp2_with fail
        (with_reducible refine H3.out.2.2.mono ?_)
        rintro e u4 ⟨D, L, hL, rfl, hLn, hLq, hb4⟩
        have H4 := Lib.hid (And.intro (H3.out.1.kept hb4) (And.intro hL (And.intro hLn (And.intro hLq (H3.out.2.1.trans (hb4.mono H3.out.2.1.size))))))
        have qe : ((k : Int) != (k : Int)) = false := by simp
        clear hL hLn hLq hb4
        go_wp2
        go_loopw [12] (fun v12 wq => ∃ i : Nat, i ≤ k ∧ v12 = .int .i64 (i : Int) ∧ wq = u4) (fun v12 _ => k - (intOf v12).toNat)
        case atStart => exact ⟨0, Nat.zero_le _, rfl, rfl⟩
        case round =>
          obtain ⟨i, hin, rfl, rfl⟩ := hrel
          by_cases hlt : i < k
          · obtain ⟨wb, wo, hWe, -, cw⟩ := num_at H4.out.1 (i := i) (by rw [H2.out.2.2.2.2]; exact hlt)
            obtain ⟨q, hq, hqk, hLi⟩ := H4.out.2.2.2.1 i hlt
            obtain ⟨lb, lo, hLe, -, cl⟩ := num_at H4.out.2.2.1 (i := q) (by rw [H4.out.2.1]; exact hqk)
            simp only [Option.some.injEq, Addr.mk.injEq, and_true] at hLe
            obtain ⟨rfl, rfl⟩ := hLe
            rw [hq] at cw
            rw [hLi, Nat.zero_add] at cl
            subst hWe
            clear hq hLi
            have q1 : (i : Int) < (k : Int) := by omega
            have q2 : (0 : Int) ≤ (i : Int) := by omega
            have q3 : (q : Int) < (k : Int) := by omega
            have q4 : (0 : Int) ≤ (q : Int) := by omega
            have q5 : ((i : Int) != (i : Int)) = false := by simp
            go_wp2
            go_roundw
            case rel => exact ⟨i + 1, by omega, by go_num, trivial⟩
            case measure => simp [intOf]; omega
          · obtain rfl : i = k := by omega
            have q1 : ¬ (i : Int) < (i : Int) := by omega
            go_wp2
            go_roundw
            case rel => exact ⟨t + 1, by omega, by first | go_num | (rw [← HT.out]; go_num), H4.out.2.2.2.2⟩
            case measure => simp [intOf]; try omega
      · have HT := Lib.hid (show True from trivial)
        have z2 : ((t : Int) == 1) = false := by simp; omega
        clear ht1
        go_wp2_with fail
        (with_reducible refine (HX.out.2.1 _).mono ?_)
        rintro e u ⟨rfl, hu⟩
        subst hu
        obtain ⟨M, hM⟩ : ∃ M, M = xs.take n := ⟨_, rfl⟩
        have hMl : M.length = n := by rw [hM]; exact HX.out.2.2.2.1
        have HP := Lib.hid (And.intro (show NumsAt .i64 u A M by rw [hM]; exact (HX.out.1.kept HW.out).take n) (And.intro (show M.length ≤ 40 by rw [hMl]; exact hn40) (And.intro (show M.length ≤ c0 by rw [hMl]; exact hnc) (And.intro (show I64s M by rw [hM]; exact HX.out.2.2.2.2.1) HW.out))))
        rw [← hMl]
        clear hM hMl
        obtain ⟨k, hk⟩ : ∃ k, M.length = k := ⟨_, rfl⟩
        rw [hk] at HP ⊢
        have HK := Lib.hid hk
        have hk40 : k ≤ 40 := HP.out.2.1
        clear hk
        have har := array_any A k c0 M u HP.out.1 HK.out (by omega) HP.out.2.2.2.1
        have HA := Lib.hid har
        clear har
        go_wp2_with fail
        (with_reducible refine HA.out.mono ?_)
        rintro e u1 ⟨A1, c1, rfl, h1, -, hb1⟩
        have hM1 := HP.out.1.kept hb1
        have hbw := HP.out.2.2.2.2.trans (hb1.mono HP.out.2.2.2.2.size)
        have hda := darray_any A k c0 M u1 hM1 HK.out HP.out.2.2.1 (by omega) HP.out.2.2.2.1
        have H1 := Lib.hid (And.intro h1 (And.intro hM1 (And.intro hbw hda)))
        clear h1 hM1 hbw hda hb1
        go_wp2_with fail
        (with_reducible refine H1.out.2.2.2.mono ?_)
        rintro e u2 ⟨v, rfl, hI⟩
        obtain ⟨W1, wc, rfl, hW, hWl, -, -, -⟩ := nums_of_own hI.1
        have hsl : (sufA M).length = k := by rw [sufA_len, HK.out]
        rw [hsl]
        have hbw := H1.out.2.2.1.trans (hI.2.mono H1.out.2.2.1.size)
        have hsa := rsame_any A1 W1 k k c1 wc (sufA M) (sufA M) u2 (H1.out.1.kept hI.2) hW hsl hsl (by omega)
        rw [decide_eq_true rfl] at hsa
        have H2 := Lib.hid (And.intro hW (And.intro (H1.out.2.1.kept hI.2) (And.intro hbw (And.intro hsa hsl))))
        clear hI hW hWl hbw hsa hsl
        go_wp2_with fail
        (with_reducible refine H2.out.2.2.2.1.mono ?_)
        rintro e u3 ⟨rfl, hb3⟩
        have hM3 := H2.out.2.1.kept hb3
        have hbw := H2.out.2.2.1.trans (hb3.mono H2.out.2.2.1.size)
        have hrk := sranks_any A k c0 M u3 hM3 HK.out (by omega) HP.out.2.2.2.1
        have H3 := Lib.hid (And.intro (H2.out.1.kept hb3) (And.intro hbw hrk))
        clear hM3 hbw hrk hb3
        go_wp2_with fail
        (with_reducible refine H3.out.2.2.mono ?_)
        rintro e u4 ⟨D, L, hL, rfl, hLn, hLq, hb4⟩
        have H4 := Lib.hid (And.intro (H3.out.1.kept hb4) (And.intro hL (And.intro hLn (And.intro hLq (H3.out.2.1.trans (hb4.mono H3.out.2.1.size))))))
        have qe : ((k : Int) != (k : Int)) = false := by simp
        clear hL hLn hLq hb4
        go_wp2
        go_loopw [12] (fun v12 wq => ∃ i : Nat, i ≤ k ∧ v12 = .int .i64 (i : Int) ∧ wq = u4) (fun v12 _ => k - (intOf v12).toNat)
        case atStart => exact ⟨0, Nat.zero_le _, rfl, rfl⟩
        case round =>
          obtain ⟨i, hin, rfl, rfl⟩ := hrel
          by_cases hlt : i < k
          · obtain ⟨wb, wo, hWe, -, cw⟩ := num_at H4.out.1 (i := i) (by rw [H2.out.2.2.2.2]; exact hlt)
            obtain ⟨q, hq, hqk, hLi⟩ := H4.out.2.2.2.1 i hlt
            obtain ⟨lb, lo, hLe, -, cl⟩ := num_at H4.out.2.2.1 (i := q) (by rw [H4.out.2.1]; exact hqk)
            simp only [Option.some.injEq, Addr.mk.injEq, and_true] at hLe
            obtain ⟨rfl, rfl⟩ := hLe
            rw [hq] at cw
            rw [hLi, Nat.zero_add] at cl
            subst hWe
            clear hq hLi
            have q1 : (i : Int) < (k : Int) := by omega
            have q2 : (0 : Int) ≤ (i : Int) := by omega
            have q3 : (q : Int) < (k : Int) := by omega
            have q4 : (0 : Int) ≤ (q : Int) := by omega
            have q5 : ((i : Int) != (i : Int)) = false := by simp
            go_wp2
            go_roundw
            case rel => exact ⟨i + 1, by omega, by go_num, trivial⟩
            case measure => simp [intOf]; omega
          · obtain rfl : i = k := by omega
            have q1 : ¬ (i : Int) < (i : Int) := by omega
            go_wp2
            go_roundw
            case rel => exact ⟨t + 1, by omega, by first | go_num | (rw [← HT.out]; go_num), H4.out.2.2.2.2⟩
            case measure => simp [intOf]; try omega
    · obtain rfl : t = 2 := by omega
      have HF := Lib.hid hb
      clear hb
      go_wp2
      go_ret
      exact ⟨rfl, HF.out⟩

end Go.Proofs.Ytjepgdfcjbgahaa

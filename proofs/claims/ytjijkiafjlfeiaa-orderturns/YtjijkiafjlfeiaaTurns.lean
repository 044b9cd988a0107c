/- The walk of OrderTurns. -/
import Derived.Test.YtjijkiafjlfeiaaOM
import Derived.Test.YtjijkiafjlfeiaaOQ
import Derived.Test.YtjijkiafjlfeiaaLess
set_option maxRecDepth 100000
namespace Go.Proofs.Ytjijkiafjlfeiaa
open Go.RowKit
open M
attribute [local go_sem ↓] Go.wp_at_zero Go.wp_at_succ

theorem inv_inv {p L R : List Int} {n : Nat} (hp : p.length = n) (hR : R.length = n) (h1 : ∀ i, i < n → ∃ q : Nat, p.getD i 0 = (q : Int) ∧ q < n ∧ L.getD q 0 = (i : Int)) (h2 : ∀ i, i < n → ∃ q : Nat, L.getD i 0 = (q : Int) ∧ q < n ∧ R.getD q 0 = (i : Int)) : R = p := by
  apply List.ext_getElem (by omega)
  intro k hk1 hk2
  obtain ⟨q, e1, e2, e3⟩ := h1 k (by omega)
  obtain ⟨q', e4, e5, e6⟩ := h2 q e2
  obtain rfl : q' = k := by omega
  simp only [List.getD_eq_getElem?_getD, List.getElem?_eq_getElem hk1, List.getElem?_eq_getElem hk2, Option.getD_some] at e1 e6
  omega
theorem inv_all {p L : List Int} {n : Nat} (hL : L.length = n) (h1 : ∀ i, i < n → ∃ q : Nat, p.getD i 0 = (q : Int) ∧ q < n ∧ L.getD q 0 = (i : Int)) : allB L = true := by
  rw [allB_iff, hL]
  intro x hx
  have hx' := plcs_mem.1 hx
  obtain ⟨q, -, e2, e3⟩ := h1 x.toNat (by omega)
  have := memI L q (by omega)
  rw [e3, show ((x.toNat : Nat) : Int) = x by omega] at this
  exact this

set_option maxHeartbeats 8000000 in
theorem turns_walk (A : Option Addr) (n0 c0 : Nat) (xs : List Int) (made : Bool) (w : World) (hA : NumsAt .i64 w A xs) (hx : xs.length = n0) (hc : n0 ≤ c0) :
    Calls Try.prog 5 #[.slice A n0 c0, .bool made] w fun e w' => e = .returned (.bool true) ∧ Below w.heap.size w w' := by
  obtain ⟨n, hn⟩ : ∃ n, n = min n0 40 := ⟨_, rfl⟩
  have hn40 : n ≤ 40 := by omega
  have hmn := hA.take n
  have hml : (xs.take n).length = n := by rw [List.length_take]; omega
  have hfw := fun u => few_any A n0 c0 u hc
  rw [← hn] at hfw
  clear hn hA hx hc
  generalize xs.take n = m at *
  have HX := Lib.hid (And.intro hmn hml)
  have HFW := Lib.hid hfw
  clear hmn hml hfw
  go_enter Try.func5, Try.ntmps5
  go_wp2_with fail
  refine (awake_any _).mono ?_
  rintro e w1 ⟨rfl, hb1⟩
  have HB := Lib.hid hb1
  clear hb1
  go_wp2_with fail
  (with_reducible refine (HFW.out _).mono ?_)
  rintro e w2 ⟨rfl, rfl⟩
  rcases made with _ | _
  · obtain ⟨pa, hpa⟩ : ∃ pa, pa = A := ⟨_, rfl⟩
    obtain ⟨pc, hpc⟩ : ∃ pc, pc = c0 := ⟨_, rfl⟩
    have HP := Lib.hid (And.intro (HX.out.1.kept HB.out) (And.intro HX.out.2 HB.out))
    rw [← hpa] at HP
    rw [← hpa, ← hpc]
    obtain ⟨P, hP⟩ : ∃ P, P = m := ⟨_, rfl⟩
    rw [← hP] at HP
    clear hpa hpc hP HX HFW HB
    obtain ⟨u, hu⟩ : ∃ u, u = w2 := ⟨_, rfl⟩
    rw [← hu] at HP
    rw [← hu]
    clear hu
    have hin := inverse_any pa n pc P u HP.out.1 HP.out.2.1 (by omega)
    have HIN := Lib.hid hin
    clear hin
    go_wp2_with fail
    (with_reducible refine HIN.out.mono ?_)
    rintro e u2 ⟨hb2, ⟨hall, D, L, hLl, rfl, hL, hq⟩ | ⟨hno, rfl⟩⟩
    · have hal := all_any pa n pc P u2 (HP.out.1.kept hb2) HP.out.2.1 (by omega)
      rw [hall] at hal
      have HAL := Lib.hid hal
      have H2 := Lib.hid (And.intro hb2 (And.intro hLl (And.intro hL hq)))
      clear hal hb2 hLl hL hq hall
      go_wp2_with fail
      (with_reducible refine HAL.out.mono ?_)
      rintro e u3 ⟨rfl, rfl⟩
      have q5 : ((n : Int) == (n : Int)) = true := by simp
      go_wp2
      go_loopw [9] (fun v9 wr => ∃ i : Nat, i ≤ n ∧ v9 = .int .i64 (i : Int) ∧ wr = u3) (fun v9 _ => n - (intOf v9).toNat)
      case atStart => exact ⟨0, Nat.zero_le _, rfl, rfl⟩
      case round =>
        obtain ⟨i, hin, rfl, rfl⟩ := hrel
        by_cases hlt : i < n
        · obtain ⟨bb, off, hAe, -, ci⟩ := num_at (HP.out.1.kept H2.out.1) (i := i) (by rw [HP.out.2.1]; exact hlt)
          obtain ⟨q, e1, e2, e3⟩ := H2.out.2.2.2 i hlt
          obtain ⟨db, doff, hDe, -, cq⟩ := num_at H2.out.2.2.1 (i := q) (by rw [H2.out.2.1]; exact e2)
          simp only [Option.some.injEq, Addr.mk.injEq, and_true] at hDe
          obtain ⟨rfl, rfl⟩ := hDe
          rw [Nat.zero_add, e3] at cq
          rw [e1] at ci
          subst hAe
          clear e1 e3
          have q6 : (i : Int) < (n : Int) := by omega
          have q7 : (0 : Int) ≤ (i : Int) := by omega
          have q8 : (q : Int) < (n : Int) := by omega
          have q9 : (0 : Int) ≤ (q : Int) := by omega
          have q10 : ((i : Int) == (i : Int)) = true := by simp
          go_wp2
          go_roundw
          case rel => exact ⟨i + 1, by omega, by go_num, trivial⟩
          case measure => simp [intOf]; omega
        · obtain rfl : i = n := by omega
          have q6 : ¬ (i : Int) < (i : Int) := by omega
          have hiv := inverse_any (some ⟨D, 0, none⟩) i i L wr H2.out.2.2.1 H2.out.2.1 (by omega)
          have HIV := Lib.hid hiv
          clear hiv
          go_wp2_with fail
          (with_reducible refine HIV.out.mono ?_)
          rintro e u4 ⟨hb4, ⟨-, D4, R, hRl, rfl, hR, hq4⟩ | ⟨hno, -⟩⟩
          rotate_left
          · rw [inv_all H2.out.2.1 H2.out.2.2.2] at hno; cases hno
          have heq := inv_inv HP.out.2.1 hRl H2.out.2.2.2 hq4
          have hb5 := H2.out.1.trans (hb4.mono H2.out.1.size)
          have hsa := rsame_any (some ⟨D4, 0, none⟩) pa i i i pc R P u4 hR (HP.out.1.kept hb5) hRl HP.out.2.1 (by omega)
          rw [decide_eq_true heq] at hsa
          have HSA := Lib.hid hsa
          have H5 := Lib.hid (HP.out.2.2.trans (hb5.mono HP.out.2.2.size))
          clear hsa heq hb4 hb5 hR hq4 hRl
          go_wp2_with fail
          (with_reducible refine HSA.out.mono ?_)
          rintro e u5 ⟨rfl, hb6⟩
          have HF := Lib.hid (H5.out.trans (hb6.mono H5.out.size))
          clear hb6
          go_wp2
          go_ret
          exact ⟨rfl, HF.out⟩
    · have hal := all_any pa n pc P u2 (HP.out.1.kept hb2) HP.out.2.1 (by omega)
      rw [hno] at hal
      have HAL := Lib.hid hal
      have H2 := Lib.hid (HP.out.2.2.trans (hb2.mono HP.out.2.2.size))
      clear hal hb2 hno
      go_wp2_with fail
      (with_reducible refine HAL.out.mono ?_)
      rintro e u3 ⟨rfl, rfl⟩
      go_wp2
      go_ret
      exact ⟨rfl, H2.out⟩
  · have hrs := rstable_any A n c0 m w2 (HX.out.1.kept HB.out) HX.out.2 (by omega)
    have HRS := Lib.hid hrs
    clear hrs
    go_wp2_with fail
    (with_reducible refine HRS.out.mono ?_)
    rintro e u ⟨v, rfl, hI⟩
    obtain ⟨pa, pc, rfl, hmn, -, hmc, -⟩ := nums_of_own hI.1
    have HP := Lib.hid (And.intro hmn (And.intro (ordP_length (kyI m) n) (HB.out.trans (hI.2.mono HB.out.size))))
    rw [ordP_length]
    generalize ordP (kyI m) n = P at *
    clear hmn hI hmc HX HFW HB HRS
    have hin := inverse_any pa n pc P u HP.out.1 HP.out.2.1 (by omega)
    have HIN := Lib.hid hin
    clear hin
    go_wp2_with fail
    (with_reducible refine HIN.out.mono ?_)
    rintro e u2 ⟨hb2, ⟨hall, D, L, hLl, rfl, hL, hq⟩ | ⟨hno, rfl⟩⟩
    · have hal := all_any pa n pc P u2 (HP.out.1.kept hb2) HP.out.2.1 (by omega)
      rw [hall] at hal
      have HAL := Lib.hid hal
      have H2 := Lib.hid (And.intro hb2 (And.intro hLl (And.intro hL hq)))
      clear hal hb2 hLl hL hq hall
      go_wp2_with fail
      (with_reducible refine HAL.out.mono ?_)
      rintro e u3 ⟨rfl, rfl⟩
      have q5 : ((n : Int) == (n : Int)) = true := by simp
      go_wp2
      go_loopw [9] (fun v9 wr => ∃ i : Nat, i ≤ n ∧ v9 = .int .i64 (i : Int) ∧ wr = u3) (fun v9 _ => n - (intOf v9).toNat)
      case atStart => exact ⟨0, Nat.zero_le _, rfl, rfl⟩
      case round =>
        obtain ⟨i, hin, rfl, rfl⟩ := hrel
        by_cases hlt : i < n
        · obtain ⟨bb, off, hAe, -, ci⟩ := num_at (HP.out.1.kept H2.out.1) (i := i) (by rw [HP.out.2.1]; exact hlt)
          obtain ⟨q, e1, e2, e3⟩ := H2.out.2.2.2 i hlt
          obtain ⟨db, doff, hDe, -, cq⟩ := num_at H2.out.2.2.1 (i := q) (by rw [H2.out.2.1]; exact e2)
          simp only [Option.some.injEq, Addr.mk.injEq, and_true] at hDe
          obtain ⟨rfl, rfl⟩ := hDe
          rw [Nat.zero_add, e3] at cq
          rw [e1] at ci
          subst hAe
          clear e1 e3
          have q6 : (i : Int) < (n : Int) := by omega
          have q7 : (0 : Int) ≤ (i : Int) := by omega
          have q8 : (q : Int) < (n : Int) := by omega
          have q9 : (0 : Int) ≤ (q : Int) := by omega
          have q10 : ((i : Int) == (i : Int)) = true := by simp
          go_wp2
          go_roundw
          case rel => exact ⟨i + 1, by omega, by go_num, trivial⟩
          case measure => simp [intOf]; omega
        · obtain rfl : i = n := by omega
          have q6 : ¬ (i : Int) < (i : Int) := by omega
          have hiv := inverse_any (some ⟨D, 0, none⟩) i i L wr H2.out.2.2.1 H2.out.2.1 (by omega)
          have HIV := Lib.hid hiv
          clear hiv
          go_wp2_with fail
          (with_reducible refine HIV.out.mono ?_)
          rintro e u4 ⟨hb4, ⟨-, D4, R, hRl, rfl, hR, hq4⟩ | ⟨hno, -⟩⟩
          rotate_left
          · rw [inv_all H2.out.2.1 H2.out.2.2.2] at hno; cases hno
          have heq := inv_inv HP.out.2.1 hRl H2.out.2.2.2 hq4
          have hb5 := H2.out.1.trans (hb4.mono H2.out.1.size)
          have hsa := rsame_any (some ⟨D4, 0, none⟩) pa i i i pc R P u4 hR (HP.out.1.kept hb5) hRl HP.out.2.1 (by omega)
          rw [decide_eq_true heq] at hsa
          have HSA := Lib.hid hsa
          have H5 := Lib.hid (HP.out.2.2.trans (hb5.mono HP.out.2.2.size))
          clear hsa heq hb4 hb5 hR hq4 hRl
          go_wp2_with fail
          (with_reducible refine HSA.out.mono ?_)
          rintro e u5 ⟨rfl, hb6⟩
          have HF := Lib.hid (H5.out.trans (hb6.mono H5.out.size))
          clear hb6
          go_wp2
          go_ret
          exact ⟨rfl, HF.out⟩
    · have hal := all_any pa n pc P u2 (HP.out.1.kept hb2) HP.out.2.1 (by omega)
      rw [hno] at hal
      have HAL := Lib.hid hal
      have H2 := Lib.hid (HP.out.2.2.trans (hb2.mono HP.out.2.2.size))
      clear hal hb2 hno
      go_wp2_with fail
      (with_reducible refine HAL.out.mono ?_)
      rintro e u3 ⟨rfl, rfl⟩
      go_wp2
      go_ret
      exact ⟨rfl, H2.out⟩

end Go.Proofs.Ytjijkiafjlfeiaa

/- The walk of OrderLess. -/
import Derived.Test.YtjijkiafjlfeiaaOL
set_option maxRecDepth 100000
namespace Go.Proofs.Ytjijkiafjlfeiaa
open Go.RowKit
open M
attribute [local go_sem ↓] Go.wp_at_zero Go.wp_at_succ

theorem I64s.take {xs : List Int} (h : I64s xs) (n : Nat) : I64s (xs.take n) := fun x hx => h x (List.mem_of_mem_take hx)

set_option maxHeartbeats 8000000 in
theorem less_walk (A : Option Addr) (n0 c0 : Nat) (xs : List Int) (w : World) (hA : NumsAt .i64 w A xs) (hx : xs.length = n0) (hc : n0 ≤ c0) (h64 : I64s xs) :
    Calls Try.prog 7 #[.slice A n0 c0] w fun e w' => e = .returned (.bool true) ∧ Below w.heap.size w w' := by
  obtain ⟨n, hn⟩ : ∃ n, n = min n0 40 := ⟨_, rfl⟩
  have hn40 : n ≤ 40 := by omega
  have hmn := hA.take n
  have hml : (xs.take n).length = n := by rw [List.length_take]; omega
  have hm64 := h64.take n
  have hfw := fun u => few_any A n0 c0 u hc
  rw [← hn] at hfw
  clear hn hA hx hc h64
  generalize xs.take n = m at *
  have HX := Lib.hid (And.intro hmn (And.intro hml hm64))
  have HFW := Lib.hid hfw
  clear hmn hml hm64 hfw
  go_enter Try.func7, Try.ntmps7
  go_wp2_with fail
  refine (awake_any _).mono ?_
  rintro e w1 ⟨rfl, hb1⟩
  have HB := Lib.hid hb1
  clear hb1
  go_wp2_with fail
  (with_reducible refine (HFW.out _).mono ?_)
  rintro e w2 ⟨rfl, rfl⟩
  have hr := ranks_any A n c0 m w2 (HX.out.1.kept HB.out) HX.out.2.1 (by omega) HX.out.2.2
  have HR := Lib.hid hr
  clear hr
  go_wp2_with fail
  (with_reducible refine HR.out.mono ?_)
  rintro e w3 ⟨D, rfl, hn3, hb3⟩
  have hb4 := HB.out.trans (hb3.mono HB.out.size)
  have HN := Lib.hid (And.intro hn3 (And.intro (HX.out.1.kept hb4) hb4))
  clear hn3 hb3 hb4 HR HFW HB
  have q5 : ((n : Int) == (n : Int)) = true := by simp
  go_wp2
  go_loopw [6, 7, 8] (fun v6 v7 _ wr => ∃ (i : Nat) (t : Int), i ≤ n ∧ v7 = .int .i64 (i : Int) ∧ v6 = .int .i64 t ∧ (t = -1 ∨ ∃ p : Nat, p < n ∧ t = ((nless (kyI m) n (kyI m p) : Nat) : Int)) ∧ Below w3.heap.size w3 wr) (fun _ v7 _ _ => n - (intOf v7).toNat)
  case atStart => exact ⟨0, -1, Nat.zero_le _, rfl, rfl, .inl rfl, Below.refl _ _⟩
  case round =>
    obtain ⟨i, t, hin, rfl, rfl, ht, hbw⟩ := hrel
    by_cases hlt : i < n
    · have HT := Lib.hid ht
      have HBW := Lib.hid hbw
      clear ht hbw
      obtain ⟨w4, rfl⟩ : ∃ w4, w4 = wr := ⟨_, rfl⟩
      have q1 : (i : Int) < (n : Int) := by omega
      have q2 : (0 : Int) ≤ (i : Int) := by omega
      go_wp2
      go_loopw [8] (fun v8 wq => ∃ k : Nat, k ≤ n ∧ v8 = .int .i64 (k : Int) ∧ Below w4.heap.size w4 wq) (fun v8 _ => n - (intOf v8).toNat)
      case atStart => exact ⟨0, Nat.zero_le _, rfl, Below.refl _ _⟩
      case round =>
        obtain ⟨k, hkn, rfl, hbk⟩ := hrel
        have hbq := HBW.out.trans (hbk.mono HBW.out.size)
        have hnr := HN.out.1.kept hbq
        have hnm := HN.out.2.1.kept hbq
        obtain ⟨ab, aoff, hAe, -, ci⟩ := num_at hnm (i := i) (by rw [HX.out.2.1]; exact hlt)
        obtain ⟨rb, roff, hRe, -, ri⟩ := num_at hnr (i := i) (by rw [rnkL_length]; exact hlt)
        rw [rnkL_at _ _ _ hlt] at ri
        simp only [Option.some.injEq, Addr.mk.injEq, and_true] at hRe
        obtain ⟨rfl, rfl⟩ := hRe
        rw [Nat.zero_add] at ri
        by_cases hlt2 : k < n
        · obtain ⟨ab2, aoff2, hAe2, -, ck⟩ := num_at hnm (i := k) (by rw [HX.out.2.1]; exact hlt2)
          obtain ⟨rb2, roff2, hRe2, -, rk⟩ := num_at hnr (i := k) (by rw [rnkL_length]; exact hlt2)
          rw [rnkL_at _ _ _ hlt2] at rk
          simp only [Option.some.injEq, Addr.mk.injEq, and_true] at hRe2
          obtain ⟨rfl, rfl⟩ := hRe2
          rw [Nat.zero_add] at rk
          rw [hAe] at hAe2
          simp only [Option.some.injEq, Addr.mk.injEq, and_true] at hAe2
          obtain ⟨rfl, rfl⟩ := hAe2
          have hif := nless_iff (kyI m) n hlt hlt2
          have e1 : kyI m (i : Int) = m.getD i 0 := by unfold kyI; rw [Int.toNat_natCast]
          have e2 : kyI m (k : Int) = m.getD k 0 := by unfold kyI; rw [Int.toNat_natCast]
          rw [e1, e2] at hif
          rw [e1] at ri
          rw [e2] at rk
          subst hAe
          have HBK := Lib.hid hbk
          clear e1 e2 hnr hnm hbq hbk
          generalize nless (kyI m) n (m.getD i 0) = x at *
          generalize nless (kyI m) n (m.getD k 0) = y at *
          generalize m.getD i 0 = a at *
          generalize m.getD k 0 = b at *
          have HIF := Lib.hid hif
          clear hif
          have hfin : ∀ nq, Below w4.heap.size w4 (wr.drewN nq) := fun nq => HBK.out.trans ((below_drewN wr nq).mono HBK.out.size)
          have HFIN := Lib.hid hfin
          clear hfin
          have q3 : (k : Int) < (n : Int) := by omega
          have q4 : (0 : Int) ≤ (k : Int) := by omega
          rcases Int.lt_trichotomy a b with h | h | h
          · have hxy : x < y := HIF.out.1.2 h
            have d1 : decide (a < b) = true := decide_eq_true h
            have d2 : decide ((x : Int) < (y : Int)) = true := decide_eq_true (by omega)
            have d3 : (a == b) = false := by simp; omega
            have d4 : ((x : Int) == (y : Int)) = false := by simp; omega
            go_wp2
            go_quiet (fail)
            go_wp2
            go_roundw
            case rel => exact ⟨k + 1, by omega, by go_num, HFIN.out _⟩
            case measure => simp [intOf]; omega
          · obtain rfl : x = y := HIF.out.2.2 h
            subst h
            have d1 : decide (a < a) = false := by simp
            have d2 : decide ((x : Int) < (x : Int)) = false := by simp
            have d3 : (a == a) = true := by simp
            have d4 : ((x : Int) == (x : Int)) = true := by simp
            go_wp2
            go_quiet (fail)
            go_wp2
            go_roundw
            case rel => exact ⟨k + 1, by omega, by go_num, HFIN.out _⟩
            case measure => simp [intOf]; omega
          · have hxy : y < x := by
              have h1 := HIF.out.1
              have h2 := HIF.out.2
              omega
            have d1 : decide (a < b) = false := decide_eq_false (by omega)
            have d2 : decide ((x : Int) < (y : Int)) = false := decide_eq_false (by omega)
            have d5 : decide (x < y) = false := decide_eq_false (by omega)
            have d6 : (x == y) = false := by simp; omega
            have d3 : (a == b) = false := by simp; omega
            have d4 : ((x : Int) == (y : Int)) = false := by simp; omega
            go_wp2
            go_quiet (fail)
            go_wp2
            go_roundw
            case rel => exact ⟨k + 1, by omega, by go_num, HFIN.out _⟩
            case measure => simp [intOf]; omega
        · obtain rfl : k = n := by omega
          have q3 : ¬ (k : Int) < (k : Int) := by omega
          have HBQ := Lib.hid hbq
          clear hnr hnm hbq hbk
          obtain ⟨x, hx⟩ : ∃ x, x = nless (kyI m) k (kyI m i) := ⟨_, rfl⟩
          rw [← hx] at ri
          have HXX := Lib.hid hx
          clear hx
          by_cases hgt : t < (x : Int)
          · go_wp2
            go_roundw
            case rel => exact ⟨i + 1, x, by omega, by go_num, rfl, .inr ⟨i, hlt, by rw [HXX.out]⟩, HBQ.out⟩
            case measure => simp [intOf]; omega
          · go_wp2
            go_roundw
            case rel => exact ⟨i + 1, t, by omega, by go_num, rfl, HT.out, HBQ.out⟩
            case measure => simp [intOf]; omega
    · obtain rfl : i = n := by omega
      have q1 : ¬ (i : Int) < (i : Int) := by omega
      have htb : t ≤ 40 := by
        rcases ht with rfl | ⟨p, hp, rfl⟩
        · omega
        · have := nless_le (kyI m) i (kyI m p); omega
      have HT := Lib.hid ht
      have HBW := Lib.hid hbw
      clear ht hbw
      obtain ⟨w4, rfl⟩ : ∃ w4, w4 = wr := ⟨_, rfl⟩
      go_wp2
      go_loopw [9] (fun v9 wq => ∃ k : Nat, (k : Int) ≤ 41 ∧ v9 = .int .i64 (k : Int) ∧ wq = w4) (fun v9 _ => 41 - (intOf v9).toNat)
      case atStart => exact ⟨0, by omega, rfl, rfl⟩
      case round =>
        obtain ⟨k, hk41, rfl, rfl⟩ := hrel
        by_cases hle : (k : Int) ≤ t
        · have hmem : (k : Int) ∈ rnkL (kyI m) i := by
            rcases HT.out with h | ⟨p, hp, h⟩
            · omega
            · obtain ⟨q, hq, e⟩ := rnk_dense (kyI m) i (p := p) (v := k) hp (by omega)
              unfold rnkL
              exact List.mem_map.2 ⟨q, List.mem_range.2 hq, by rw [e]⟩
          have hse := select_any (some ⟨D, 0, none⟩) i i (rnkL (kyI m) i) (k : Int) wr (HN.out.1.kept HBW.out) (rnkL_length _ _) (by omega) hmem
          have HSE := Lib.hid hse
          clear hse hmem
          go_wp2_with fail
          (with_reducible refine HSE.out.mono ?_)
          rintro e u5 ⟨⟨p, rfl⟩, rfl⟩
          have q8 : ¬ (p : Int) < 0 := by omega
          go_wp2
          go_roundw
          case rel => exact ⟨k + 1, by omega, by go_num, trivial⟩
          case measure => simp [intOf]; omega
        · go_wp2
          go_ret
          exact ⟨rfl, HN.out.2.2.trans (HBW.out.mono HN.out.2.2.size)⟩

end Go.Proofs.Ytjijkiafjlfeiaa

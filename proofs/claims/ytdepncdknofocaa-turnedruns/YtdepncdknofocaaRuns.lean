/- The walk of TurnedRuns. -/
import Derived.Test.YtdepncdknofocaaYJ
set_option maxRecDepth 100000
namespace Go.Proofs.Ytdepncdknofocaa
open Go.RowKit
open M
attribute [local go_sem ↓] Go.wp_at_zero Go.wp_at_succ

set_option maxHeartbeats 8000000 in
theorem runs_walk (A : Option Addr) (n0 c0 : Nat) (xs : List Int) (w : World) (hA : NumsAt .i64 w A xs) (hx : xs.length = n0) (hc : n0 ≤ c0) :
    Calls Try.prog 7 #[.slice A n0 c0] w fun e w' => e = .returned (.bool true) ∧ Below w.heap.size w w' := by
  have hfw := fun u => few_any A n0 c0 u hc
  have hml : (xs.take (min n0 30)).length = min n0 30 := by rw [List.length_take]; omega
  have hAn := hA.take (min n0 30)
  obtain ⟨n, hn⟩ : ∃ n, n = min n0 30 := ⟨_, rfl⟩
  rw [← hn] at hml hAn
  simp only [← hn] at hfw
  have hn30 : n ≤ 30 := by omega
  obtain ⟨b, hb⟩ : ∃ b, b = xs.take n := ⟨_, rfl⟩
  rw [← hb] at hml hAn
  have HX := Lib.hid (And.intro hAn (And.intro hml hfw))
  clear hA hx hc hfw hml hn hAn hb
  go_enter Try.func7, Try.ntmps7
  go_wp2_with fail
  (with_reducible refine (awake_any _).mono ?_)
  rintro e w1 ⟨rfl, hb1⟩
  have HB := Lib.hid (And.intro hb1 (HX.out.1.kept hb1))
  clear hb1
  go_wp2_with fail
  (with_reducible refine (HX.out.2.2 _).mono ?_)
  rintro e u0 ⟨rfl, rfl⟩
  go_wp2
  go_loopw [5, 6] (fun v5 v6 wr => ∃ i : Nat, i ≤ n ∧ v6 = .int .i64 (i : Int) ∧ v5 = .int .i64 (runsN b i : Nat) ∧ ∃ q, wr = u0.drewN q) (fun _ v6 _ => n - (intOf v6).toNat)
  case atStart => exact ⟨0, Nat.zero_le _, rfl, rfl, 0, rfl⟩
  case round =>
    obtain ⟨i, hin, rfl, rfl, q, hq⟩ := hrel
    have hbel : Below u0.heap.size u0 wr := by rw [hq]; exact below_drewN u0 q
    have hA := HB.out.2.kept hbel
    by_cases hlt : i < n
    · obtain ⟨bb, off, hAe, -, ck⟩ := num_at hA (i := i) (by rw [HX.out.2.1]; exact hlt)
      have hrl := runsN_le b i
      obtain ⟨y, hy⟩ : ∃ y, b.getD i 0 = y := ⟨_, rfl⟩
      rw [hy] at ck
      have hyes := runsN_yes (b := b) (i := i)
      have hno := runsN_no (b := b) (i := i)
      rw [hy] at hyes hno
      have q1 : (i : Int) < (n : Int) := by omega
      have q2 : (0 : Int) ≤ (i : Int) := by omega
      by_cases h0 : i = 0
      · have h1 := hyes (.inl h0)
        have H1 := Lib.hid h1
        obtain ⟨t, ht⟩ : ∃ t, runsN b i = t := ⟨_, rfl⟩
        rw [ht] at hrl H1
        rw [ht]
        have HQ := Lib.hid hq
        have q3 : ((i : Int) == 0) = true := by simp; omega
        have q4 : IntKind.i64.wrap ((t : Int) + 1) = ((t + 1 : Nat) : Int) := by rw [Int.natCast_add]; exact IntWalk.i64_in _ (by omega)
        have HAE := Lib.hid hAe
        clear hyes hno h1 hy ht h0 hq hbel hA
        subst hAe
        go_wp2
        go_quiet (fail)
        go_wp2
        go_roundw
        case rel => exact ⟨i + 1, by omega, by go_num, by rw [H1.out]; first | rfl | go_num | (simp), q + nq, by rw [HQ.out, World.drewN_drewN]⟩
        case measure => simp [intOf]; omega
      · obtain ⟨k, rfl⟩ : ∃ k, i = k + 1 := ⟨i - 1, by omega⟩
        obtain ⟨b2, o2, hAe2, -, ck2⟩ := num_at hA (i := k) (by rw [HX.out.2.1]; omega)
        rw [hAe] at hAe2
        simp only [Option.some.injEq, Addr.mk.injEq, and_true] at hAe2
        obtain ⟨rfl, rfl⟩ := hAe2
        rw [Nat.add_sub_cancel] at hyes hno
        obtain ⟨x, hx⟩ : ∃ x, b.getD k 0 = x := ⟨_, rfl⟩
        rw [hx] at ck2 hyes hno
        have q3 : (((k + 1 : Nat) : Int) == 0) = false := by simp; omega
        have q4 : IntKind.i64.wrap (((k + 1 : Nat) : Int) - 1) = (k : Int) := by
          rw [show (((k + 1 : Nat) : Int) - 1) = (k : Int) by omega]
          exact IntWalk.i64_in _ (by omega)
        have q5 : (0 : Int) ≤ (k : Int) := by omega
        have q6 : (k : Int) < (n : Int) := by omega
        obtain ⟨t, ht⟩ : ∃ t, runsN b (k + 1) = t := ⟨_, rfl⟩
        rw [ht] at hrl hyes hno
        rw [ht]
        obtain ⟨s, hs⟩ : ∃ s, k + 1 = s := ⟨_, rfl⟩
        rw [hs] at q1 q2 q3 q4 ck hyes hno hrl hlt hin
        rw [hs]
        have q7 : IntKind.i64.wrap ((t : Int) + 1) = ((t + 1 : Nat) : Int) := by rw [Int.natCast_add]; exact IntWalk.i64_in _ (by omega)
        have HAE := Lib.hid hAe
        have HQ := Lib.hid hq
        by_cases e : x = y
        · have h1 := hno (by rintro (h | h); · omega
                             · exact h e)
          have H1 := Lib.hid h1
          have q8 : (y == x) = true := by simpa using e.symm
          clear hyes hno h1 hy ht hs hx hq hbel hA e
          subst hAe
          go_wp2
          go_quiet (fail)
          go_wp2
          go_roundw
          case rel => exact ⟨s + 1, by omega, by go_num, by rw [H1.out], q + nq, by rw [HQ.out, World.drewN_drewN]⟩
          case measure => simp [intOf]; omega
        · have h1 := hyes (.inr e)
          have H1 := Lib.hid h1
          have q8 : (y == x) = false := by simpa using fun h => e h.symm
          clear hyes hno h1 hy ht hs hx hq hbel hA e
          subst hAe
          go_wp2
          go_quiet (fail)
          go_wp2
          go_roundw
          case rel => exact ⟨s + 1, by omega, by go_num, by rw [H1.out]; first | rfl | go_num | (simp), q + nq, by rw [HQ.out, World.drewN_drewN]⟩
          case measure => simp [intOf]; omega
    · obtain rfl : i = n := by omega
      have htr := truns_any A i c0 b wr hA HX.out.2.1 (by omega)
      have hw := HB.out.1.trans (hbel.mono HB.out.1.size)
      have HT := Lib.hid (And.intro htr hw)
      have q1 : ¬ (i : Int) < (i : Int) := by omega
      obtain ⟨t, ht⟩ : ∃ t, runsN b i = t := ⟨_, rfl⟩
      rw [ht] at HT ⊢
      have q2 : ((t : Int) == (t : Int)) = true := by simp
      clear htr hw hA hbel hq ht
      go_wp2_with fail
      (with_reducible refine HT.out.1.mono ?_)
      rintro e u5 ⟨rfl, rfl⟩
      go_wp2
      go_ret
      exact ⟨rfl, HT.out.2⟩

end Go.Proofs.Ytdepncdknofocaa

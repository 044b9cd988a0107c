/- The contract of Runs; awake answers true. -/
import Derived.Test.YtdepncdknofocaaYI
set_option maxRecDepth 100000
namespace Go.Proofs.Ytdepncdknofocaa
open Go.RowKit
open M
attribute [local go_sem ↓] Go.wp_at_zero Go.wp_at_succ

/-- How many of the first i differ from the one ahead, and the first one. -/
def runsN (b : List Int) : Nat → Nat
  | 0 => 0
  | i + 1 => runsN b i + if i = 0 ∨ b.getD (i - 1) 0 ≠ b.getD i 0 then 1 else 0
theorem runsN_le (b : List Int) : ∀ i, runsN b i ≤ i := by
  intro i
  induction i with
  | zero => exact Nat.le_refl _
  | succ i ih => rw [runsN]; split <;> omega
theorem runsN_yes {b : List Int} {i : Nat} (h : i = 0 ∨ b.getD (i - 1) 0 ≠ b.getD i 0) : runsN b (i + 1) = runsN b i + 1 := by rw [runsN, if_pos h]
theorem runsN_no {b : List Int} {i : Nat} (h : ¬ (i = 0 ∨ b.getD (i - 1) 0 ≠ b.getD i 0)) : runsN b (i + 1) = runsN b i := by rw [runsN, if_neg h]; rfl

set_option maxHeartbeats 2000000 in
theorem truns_any (A : Option Addr) (n c : Nat) (b : List Int) (w : World) (hA : NumsAt .i64 w A b) (hl : b.length = n) (hn : n ≤ 1000000) :
    Calls Try.prog 20 #[.slice A n c] w fun e w' => e = .returned (.int .i64 (runsN b n : Nat)) ∧ w' = w := by
  have HX := Lib.hid (And.intro hA hl)
  clear hA hl
  go_enter Try.func20, Try.ntmps20
  go_wp2
  go_loopw [3, 4, 5, 8] (fun v3 _ _ v8 wr => ∃ i : Nat, i ≤ n ∧ v8 = .int .i64 (i : Int) ∧ v3 = .int .i64 (runsN b i : Nat) ∧ wr = w) (fun _ _ _ v8 _ => n - (intOf v8).toNat)
  case atStart => exact ⟨0, Nat.zero_le _, rfl, rfl, rfl⟩
  case round =>
    obtain ⟨i, hin, rfl, rfl, rfl⟩ := hrel
    by_cases hlt : i < n
    · obtain ⟨bb, off, hAe, -, ck⟩ := num_at HX.out.1 (i := i) (by rw [HX.out.2]; exact hlt)
      have hrl := runsN_le b i
      obtain ⟨y, hy⟩ : ∃ y, b.getD i 0 = y := ⟨_, rfl⟩
      rw [hy] at ck
      have hyes := runsN_yes (b := b) (i := i)
      have hno := runsN_no (b := b) (i := i)
      rw [hy] at hyes hno
      have q1 : (i : Int) < (n : Int) := by omega
      have q2 : (0 : Int) ≤ (i : Int) := by omega
      by_cases h0 : i = 0
      · have h1 := hyes (.inl h0)
        have H1 := Lib.hid h1
        obtain ⟨t, ht⟩ : ∃ t, runsN b i = t := ⟨_, rfl⟩
        rw [ht] at hrl H1
        rw [ht]
        have q3 : ((i : Int) == 0) = true := by simp; omega
        have q4 : IntKind.i64.wrap ((t : Int) + 1) = ((t + 1 : Nat) : Int) := by rw [Int.natCast_add]; exact IntWalk.i64_in _ (by omega)
        have HAE := Lib.hid hAe
        clear hyes hno h1 hy ht h0
        subst hAe
        go_wp2
        go_roundw
        case rel => exact ⟨i + 1, by omega, by go_num, by rw [H1.out]; first | rfl | go_num | (simp), by first | rfl | trivial⟩
        case measure => simp [intOf]; omega
      · obtain ⟨k, rfl⟩ : ∃ k, i = k + 1 := ⟨i - 1, by omega⟩
        obtain ⟨b2, o2, hAe2, -, ck2⟩ := num_at HX.out.1 (i := k) (by rw [HX.out.2]; omega)
        rw [hAe] at hAe2
        simp only [Option.some.injEq, Addr.mk.injEq, and_true] at hAe2
        obtain ⟨rfl, rfl⟩ := hAe2
        rw [Nat.add_sub_cancel] at hyes hno
        obtain ⟨x, hx⟩ : ∃ x, b.getD k 0 = x := ⟨_, rfl⟩
        rw [hx] at ck2 hyes hno
        have q3 : (((k + 1 : Nat) : Int) == 0) = false := by simp; omega
        have q4 : IntKind.i64.wrap (((k + 1 : Nat) : Int) - 1) = (k : Int) := by
          rw [show (((k + 1 : Nat) : Int) - 1) = (k : Int) by omega]
          exact IntWalk.i64_in _ (by omega)
        have q5 : (0 : Int) ≤ (k : Int) := by omega
        have q6 : (k : Int) < (n : Int) := by omega
        obtain ⟨t, ht⟩ : ∃ t, runsN b (k + 1) = t := ⟨_, rfl⟩
        rw [ht] at hrl hyes hno
        rw [ht]
        obtain ⟨s, hs⟩ : ∃ s, k + 1 = s := ⟨_, rfl⟩
        rw [hs] at q1 q2 q3 q4 ck hyes hno hrl hlt hin
        rw [hs]
        have q7 : IntKind.i64.wrap ((t : Int) + 1) = ((t + 1 : Nat) : Int) := by rw [Int.natCast_add]; exact IntWalk.i64_in _ (by omega)
        have HAE := Lib.hid hAe
        by_cases e : x = y
        · have h1 := hno (by rintro (h | h); · omega
                             · exact h e)
          have H1 := Lib.hid h1
          have q8 : (x == y) = true := by simpa using e
          clear hyes hno h1 hy ht hs hx
          subst e
          subst hAe
          go_wp2
          go_roundw
          case rel => exact ⟨s + 1, by omega, by go_num, by rw [H1.out], by first | rfl | trivial⟩
          case measure => simp [intOf]; omega
        · have h1 := hyes (.inr e)
          have H1 := Lib.hid h1
          have q8 : (x == y) = false := by simpa using e
          clear hyes hno h1 hy ht hs hx
          subst hAe
          go_wp2
          go_roundw
          case rel => exact ⟨s + 1, by omega, by go_num, by rw [H1.out]; first | rfl | go_num | (simp), by first | rfl | trivial⟩
          case measure => simp [intOf]; omega
    · obtain rfl : i = n := by omega
      have q1 : ¬ (i : Int) < (i : Int) := by omega
      go_wp2
      go_ret
      exact ⟨rfl, by first | rfl | trivial⟩

/-! ## The chapter's examples -/
def X6 : List Int := [2, 1, 3, 1, 3, 1]
theorem x6_64 : I64s X6 := by intro x hx; simp [X6] at hx; omega
theorem x6_nn : Nn X6 := by intro x hx; simp [X6] at hx; omega
theorem x6_turn : turnL X6 = [1, 3, 3, 2, -1, 1, 1] := by decide +kernel
theorem x6_t64 : I64s (turnL X6) := by rw [x6_turn]; intro x hx; simp at hx; omega
theorem one2_64 : I64s [1, 1] := by intro x hx; simp at hx; omega
theorem one2_no : ¬ Tb [1, 1] := by
  rw [tb_iff one2_64]
  rintro ⟨⟨k, hk, h, -⟩, -⟩
  have hk : k < 2 := hk
  rcases (show k = 0 ∨ k = 1 by omega) with rfl | rfl
  · simp at h
  · simp at h

set_option maxHeartbeats 4000000 in
theorem awake_any (w : World) : Calls Try.prog 9 #[] w fun e w' => e = .returned (.bool true) ∧ Below w.heap.size w w' := by
  obtain ⟨b, hb⟩ : ∃ b, b = w.heap.size := ⟨_, rfl⟩
  obtain ⟨w1, hw1⟩ : ∃ w1, w1 = w.alloc (.cells ((X6.map (Value.int .i64)).toArray) 3) := ⟨_, rfl⟩
  have h1 : NumsAt .i64 w1 (some ⟨b, 0, none⟩) X6 := by rw [hw1, hb]; exact nums_block w X6
  have hb1 : Below w.heap.size w w1 := by rw [hw1]; exact al w _
  have ha := turn_any (some ⟨b, 0, none⟩) 6 6 X6 w1 h1 rfl (by omega) x6_64 x6_nn
  have HX := Lib.hid (And.intro h1 (And.intro hb1 ha))
  clear h1 hb1 ha
  have hw1' : w1 = w.alloc (.cells #[.int .i64 2, .int .i64 1, .int .i64 3, .int .i64 1, .int .i64 3, .int .i64 1] 3) := hw1
  clear hw1
  go_enter Try.func9, Try.ntmps9
  go_upto_region 2 with fail
  rw [← hw1', ← hb]
  clear hw1' hb
  go_wp2_with fail
  (with_reducible refine HX.out.2.2.mono ?_)
  rintro e u1 ⟨v, rfl, hI⟩
  obtain ⟨P, pc, rfl, hP, -, -, -, -⟩ := nums_of_own hI.1
  have hpl : (turnL X6).length = 7 := by rw [x6_turn]; rfl
  have hbk := back_ok P 7 pc X6 u1 hP rfl (by omega) x6_64 x6_nn x6_t64
  have H1 := Lib.hid (And.intro (HX.out.1.kept hI.2) (And.intro hP (And.intro (HX.out.2.1.trans (hI.2.mono HX.out.2.1.size)) hbk)))
  rw [hpl]
  clear hI hP hbk
  go_wp2_with fail
  (with_reducible refine H1.out.2.2.2.mono ?_)
  rintro e u2 ⟨v, rfl, hI⟩
  obtain ⟨Q, qc, rfl, hQ, -, -, -, -⟩ := nums_of_own hI.1
  have hb4 := al u2 (.cells #[.int .i64 1, .int .i64 1] 3)
  have hp : NumsAt .i64 (u2.alloc (.cells #[.int .i64 1, .int .i64 1] 3)) (some ⟨u2.heap.size, 0, none⟩) [1, 1] := nums_block u2 [1, 1]
  have hbn := back_no (some ⟨u2.heap.size, 0, none⟩) 2 2 [1, 1] _ hp rfl (by omega) one2_64 one2_no
  have hw2 := H1.out.2.2.1.trans (hI.2.mono H1.out.2.2.1.size)
  have H2 := Lib.hid (And.intro ((H1.out.1.kept hI.2).kept hb4) (And.intro ((H1.out.2.1.kept hI.2).kept hb4) (And.intro (hQ.kept hb4) (And.intro (hw2.trans (hb4.mono hw2.size)) hbn))))
  clear hI hQ hb4 hp hbn hw2
  go_wp2_with fail
  (with_reducible refine H2.out.2.2.2.2.mono ?_)
  rintro e u3 ⟨rfl, hb5⟩
  have hw3 := H2.out.2.2.2.1.trans (hb5.mono H2.out.2.2.2.1.size)
  have hb6 := al u3 (.cells #[.int .i64 1, .int .i64 3, .int .i64 3, .int .i64 2, .int .i64 (-1), .int .i64 1, .int .i64 1] 3)
  have hs1 := rsame_any P (some ⟨u3.heap.size, 0, none⟩) 7 7 pc 7 (turnL X6) [1, 3, 3, 2, -1, 1, 1] _ ((H2.out.2.1.kept hb5).kept hb6) (nums_block u3 [1, 3, 3, 2, -1, 1, 1]) hpl rfl (by omega)
  rw [decide_eq_true x6_turn] at hs1
  have H3 := Lib.hid (And.intro ((H2.out.1.kept hb5).kept hb6) (And.intro ((H2.out.2.2.1.kept hb5).kept hb6) (And.intro (hw3.trans (hb6.mono hw3.size)) hs1)))
  clear hb5 hw3 hb6 hs1 hpl
  go_wp2_with fail
  (with_reducible refine H3.out.2.2.2.mono ?_)
  rintro e u4 ⟨rfl, hb7⟩
  have hs2 := rsame_any Q (some ⟨b, 0, none⟩) 6 6 qc 6 X6 X6 u4 (H3.out.2.1.kept hb7) (H3.out.1.kept hb7) rfl rfl (by omega)
  rw [decide_eq_true rfl] at hs2
  have H4 := Lib.hid (And.intro (H3.out.2.2.1.trans (hb7.mono H3.out.2.2.1.size)) hs2)
  clear hb7 hs2
  have hx6 : X6.length = 6 := rfl
  try rw [hx6]
  clear hx6
  go_wp2_with fail
  (with_reducible refine H4.out.2.mono ?_)
  rintro e u5 ⟨rfl, hb9⟩
  have H5 := Lib.hid (H4.out.1.trans (hb9.mono H4.out.1.size))
  clear hb9
  go_wp2
  go_ret
  exact ⟨rfl, H5.out⟩

end Go.Proofs.Ytdepncdknofocaa

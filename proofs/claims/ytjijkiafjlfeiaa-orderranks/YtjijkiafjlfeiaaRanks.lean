/- The walk of OrderRanks. -/
import Derived.Test.YtjijkiafjlfeiaaOS
import Derived.Test.YtjijkiafjlfeiaaLess
set_option maxRecDepth 100000
namespace Go.Proofs.Ytjijkiafjlfeiaa
open Go.RowKit
open M
attribute [local go_sem ↓] Go.wp_at_zero Go.wp_at_succ

set_option maxHeartbeats 8000000 in
theorem ranks_walk (A : Option Addr) (n0 c0 : Nat) (xs : List Int) (B : Option Addr) (m0 d0 : Nat) (ys : List Int) (even : Bool) (w : World) (hA : NumsAt .i64 w A xs) (hx : xs.length = n0) (hc : n0 ≤ c0) (h64 : I64s xs) (hB : NumsAt .i64 w B ys) (hy : ys.length = m0) (hd : m0 ≤ d0) (h64b : I64s ys) :
    Calls Try.prog 4 #[.slice A n0 c0, .slice B m0 d0, .bool even] w fun e w' => e = .returned (.bool true) ∧ Below w.heap.size w w' := by
  obtain ⟨n1, hn1⟩ : ∃ n, n = min n0 40 := ⟨_, rfl⟩
  obtain ⟨m1, hm1⟩ : ∃ n, n = min m0 40 := ⟨_, rfl⟩
  have hn40 : n1 ≤ 40 := by omega
  have hm40 : m1 ≤ 40 := by omega
  have hnc : n1 ≤ c0 := by omega
  have hmd : m1 ≤ d0 := by omega
  have hfw := fun u => few_any A n0 c0 u hc
  have hfw2 := fun u => few_any B m0 d0 u hd
  rw [← hn1] at hfw
  rw [← hm1] at hfw2
  have HX := Lib.hid (fun k => And.intro (hA.take k) (h64.take k))
  have HY := Lib.hid (fun k => And.intro (hB.take k) (h64b.take k))
  have HXL := Lib.hid (fun k (hk : k ≤ n1) => show (xs.take k).length = k by rw [List.length_take]; omega)
  have HYL := Lib.hid (fun k (hk : k ≤ m1) => show (ys.take k).length = k by rw [List.length_take]; omega)
  have HFW := Lib.hid hfw
  have HFW2 := Lib.hid hfw2
  clear hfw hfw2 hA hB hx hy h64 h64b hn1 hm1 hc hd
  go_enter Try.func4, Try.ntmps4
  go_wp2_with fail
  refine (awake_any _).mono ?_
  rintro e w1 ⟨rfl, hb1⟩
  have HB := Lib.hid hb1
  clear hb1
  go_wp2_with fail
  (with_reducible refine (HFW.out _).mono ?_)
  rintro e w2 ⟨rfl, rfl⟩
  go_wp2_with fail
  (with_reducible refine (HFW2.out _).mono ?_)
  rintro e w3 ⟨rfl, rfl⟩
  clear HFW HFW2
  rcases even with _ | _
  · by_cases hne : n1 = m1
    · subst hne
      have hr1 := ranks_any A n1 c0 (xs.take n1) w3 ((HX.out n1).1.kept HB.out) (HXL.out n1 (by omega)) (by omega) (HX.out n1).2
      have HR1 := Lib.hid hr1
      clear hr1
      go_wp2_with fail
      (with_reducible refine HR1.out.mono ?_)
      rintro e u1 ⟨D1, rfl, hn1, hb1⟩
      have hbb1 := HB.out.trans (hb1.mono HB.out.size)
      have hr2 := rranks_any A n1 c0 (xs.take n1) u1 ((HX.out n1).1.kept hbb1) (HXL.out n1 (by omega)) (by omega)
      have HR2 := Lib.hid hr2
      have H1 := Lib.hid (And.intro hn1 hbb1)
      clear hr2 hn1 hb1 hbb1 HR1
      go_wp2_with fail
      (with_reducible refine HR2.out.mono ?_)
      rintro e u2 ⟨v2, rfl, hI2⟩
      obtain ⟨ra, rc, rfl, hrn, -, -, -⟩ := nums_of_own hI2.1
      have hsa := rsame_any (some ⟨D1, 0, none⟩) ra n1 n1 n1 rc _ _ u2 (H1.out.1.kept hI2.2) hrn (rnkL_length _ _) (rnkL_length _ _) (by omega)
      rw [decide_eq_true rfl] at hsa
      have HSA := Lib.hid hsa
      have H2 := Lib.hid (H1.out.2.trans (hI2.2.mono H1.out.2.size))
      rw [rnkL_length]
      clear hsa hrn hI2 HR2 H1
      go_wp2_with fail
      (with_reducible refine HSA.out.mono ?_)
      rintro e u3 ⟨rfl, hb3⟩
      have H3 := Lib.hid (H2.out.trans (hb3.mono H2.out.size))
      clear hb3 HSA H2
      have hp := pairs_any A B n1 c0 d0 (xs.take n1) (ys.take n1) u3 ((HX.out n1).1.kept H3.out) ((HY.out n1).1.kept H3.out) (HXL.out n1 (by omega)) (HYL.out n1 (by omega)) (by omega) (HX.out n1).2 (HY.out n1).2
      have HP := Lib.hid hp
      clear hp
      go_wp2_with fail
      (with_reducible refine HP.out.mono ?_)
      rintro e u4 ⟨D4, rfl, hn4, hb4⟩
      have hbb4 := H3.out.trans (hb4.mono H3.out.size)
      have hr4 := rpairs_any A B n1 c0 d0 (xs.take n1) (ys.take n1) u4 ((HX.out n1).1.kept hbb4) ((HY.out n1).1.kept hbb4) (HXL.out n1 (by omega)) (HYL.out n1 (by omega)) (by omega) (HY.out n1).2
      have HR4 := Lib.hid hr4
      have H4 := Lib.hid (And.intro hn4 hbb4)
      have q5 : ((n1 : Int) == (n1 : Int)) = true := by simp
      clear hr4 hn4 hb4 hbb4 HP
      go_wp2_with fail
      (with_reducible refine HR4.out.mono ?_)
      rintro e u5 ⟨v5, rfl, hI5⟩
      obtain ⟨sa, sc, rfl, hsn, -, -, -⟩ := nums_of_own hI5.1
      have hsb := rsame_any (some ⟨D4, 0, none⟩) sa n1 n1 n1 sc _ _ u5 (H4.out.1.kept hI5.2) hsn (rnkL_length _ _) (rnkL_length _ _) (by omega)
      rw [decide_eq_true rfl] at hsb
      have HSB := Lib.hid hsb
      have H5 := Lib.hid (H4.out.2.trans (hI5.2.mono H4.out.2.size))
      rw [rnkL_length]
      clear hsb hsn hI5 HR4 H4
      go_wp2_with fail
      (with_reducible refine HSB.out.mono ?_)
      rintro e u6 ⟨rfl, hb6⟩
      have HF := Lib.hid (H5.out.trans (hb6.mono H5.out.size))
      clear hb6 HSB H5
      go_wp2
      go_ret
      exact ⟨rfl, HF.out⟩
    · have hr1 := ranks_any A n1 c0 (xs.take n1) w3 ((HX.out n1).1.kept HB.out) (HXL.out n1 (by omega)) (by omega) (HX.out n1).2
      have HR1 := Lib.hid hr1
      clear hr1
      go_wp2_with fail
      (with_reducible refine HR1.out.mono ?_)
      rintro e u1 ⟨D1, rfl, hn1, hb1⟩
      have hbb1 := HB.out.trans (hb1.mono HB.out.size)
      have hr2 := rranks_any A n1 c0 (xs.take n1) u1 ((HX.out n1).1.kept hbb1) (HXL.out n1 (by omega)) (by omega)
      have HR2 := Lib.hid hr2
      have H1 := Lib.hid (And.intro hn1 hbb1)
      clear hr2 hn1 hb1 hbb1 HR1
      go_wp2_with fail
      (with_reducible refine HR2.out.mono ?_)
      rintro e u2 ⟨v2, rfl, hI2⟩
      obtain ⟨ra, rc, rfl, hrn, -, -, -⟩ := nums_of_own hI2.1
      have hsa := rsame_any (some ⟨D1, 0, none⟩) ra n1 n1 n1 rc _ _ u2 (H1.out.1.kept hI2.2) hrn (rnkL_length _ _) (rnkL_length _ _) (by omega)
      rw [decide_eq_true rfl] at hsa
      have HSA := Lib.hid hsa
      have H2 := Lib.hid (H1.out.2.trans (hI2.2.mono H1.out.2.size))
      rw [rnkL_length]
      clear hsa hrn hI2 HR2 H1
      go_wp2_with fail
      (with_reducible refine HSA.out.mono ?_)
      rintro e u3 ⟨rfl, hb3⟩
      have H3 := Lib.hid (H2.out.trans (hb3.mono H2.out.size))
      clear hb3 HSA H2
      have hp := pairs_no A B n1 m1 c0 d0 u3 hne
      have HP := Lib.hid hp
      have q5 : ((n1 : Int) == (m1 : Int)) = false := by simp; omega
      have q5b : (n1 : Int) ≠ (m1 : Int) := by omega
      clear hp
      go_wp2_with fail
      (with_reducible refine HP.out.mono ?_)
      rintro e u4 ⟨rfl, hb4⟩
      have HF := Lib.hid (H3.out.trans (hb4.mono H3.out.size))
      clear hb4 HP
      go_wp2
      go_ret
      exact ⟨rfl, HF.out⟩
  · by_cases hlt : m1 < n1
    · have q1 : (m1 : Int) < (n1 : Int) := by omega
      have q2 : (m1 : Int) ≤ (c0 : Int) := by omega
      have q3 : (m1 : Int) ≤ (d0 : Int) := by omega
      have q4 : (0 : Int) ≤ (m1 : Int) := by omega
      have hr1 := ranks_any A m1 c0 (xs.take m1) w3 ((HX.out m1).1.kept HB.out) (HXL.out m1 (by omega)) (by omega) (HX.out m1).2
      have HR1 := Lib.hid hr1
      clear hr1
      go_wp2_with fail
      (with_reducible refine HR1.out.mono ?_)
      rintro e u1 ⟨D1, rfl, hn1, hb1⟩
      have hbb1 := HB.out.trans (hb1.mono HB.out.size)
      have hr2 := rranks_any A m1 c0 (xs.take m1) u1 ((HX.out m1).1.kept hbb1) (HXL.out m1 (by omega)) (by omega)
      have HR2 := Lib.hid hr2
      have H1 := Lib.hid (And.intro hn1 hbb1)
      clear hr2 hn1 hb1 hbb1 HR1
      go_wp2_with fail
      (with_reducible refine HR2.out.mono ?_)
      rintro e u2 ⟨v2, rfl, hI2⟩
      obtain ⟨ra, rc, rfl, hrn, -, -, -⟩ := nums_of_own hI2.1
      have hsa := rsame_any (some ⟨D1, 0, none⟩) ra m1 m1 m1 rc _ _ u2 (H1.out.1.kept hI2.2) hrn (rnkL_length _ _) (rnkL_length _ _) (by omega)
      rw [decide_eq_true rfl] at hsa
      have HSA := Lib.hid hsa
      have H2 := Lib.hid (H1.out.2.trans (hI2.2.mono H1.out.2.size))
      rw [rnkL_length]
      clear hsa hrn hI2 HR2 H1
      go_wp2_with fail
      (with_reducible refine HSA.out.mono ?_)
      rintro e u3 ⟨rfl, hb3⟩
      have H3 := Lib.hid (H2.out.trans (hb3.mono H2.out.size))
      clear hb3 HSA H2
      have hp := pairs_any A B m1 c0 d0 (xs.take m1) (ys.take m1) u3 ((HX.out m1).1.kept H3.out) ((HY.out m1).1.kept H3.out) (HXL.out m1 (by omega)) (HYL.out m1 (by omega)) (by omega) (HX.out m1).2 (HY.out m1).2
      have HP := Lib.hid hp
      clear hp
      go_wp2_with fail
      (with_reducible refine HP.out.mono ?_)
      rintro e u4 ⟨D4, rfl, hn4, hb4⟩
      have hbb4 := H3.out.trans (hb4.mono H3.out.size)
      have hr4 := rpairs_any A B m1 c0 d0 (xs.take m1) (ys.take m1) u4 ((HX.out m1).1.kept hbb4) ((HY.out m1).1.kept hbb4) (HXL.out m1 (by omega)) (HYL.out m1 (by omega)) (by omega) (HY.out m1).2
      have HR4 := Lib.hid hr4
      have H4 := Lib.hid (And.intro hn4 hbb4)
      have q5 : ((m1 : Int) == (m1 : Int)) = true := by simp
      clear hr4 hn4 hb4 hbb4 HP
      go_wp2_with fail
      (with_reducible refine HR4.out.mono ?_)
      rintro e u5 ⟨v5, rfl, hI5⟩
      obtain ⟨sa, sc, rfl, hsn, -, -, -⟩ := nums_of_own hI5.1
      have hsb := rsame_any (some ⟨D4, 0, none⟩) sa m1 m1 m1 sc _ _ u5 (H4.out.1.kept hI5.2) hsn (rnkL_length _ _) (rnkL_length _ _) (by omega)
      rw [decide_eq_true rfl] at hsb
      have HSB := Lib.hid hsb
      have H5 := Lib.hid (H4.out.2.trans (hI5.2.mono H4.out.2.size))
      rw [rnkL_length]
      clear hsb hsn hI5 HR4 H4
      go_wp2_with fail
      (with_reducible refine HSB.out.mono ?_)
      rintro e u6 ⟨rfl, hb6⟩
      have HF := Lib.hid (H5.out.trans (hb6.mono H5.out.size))
      clear hb6 HSB H5
      go_wp2
      go_ret
      exact ⟨rfl, HF.out⟩
    · have q1 : ¬ (m1 : Int) < (n1 : Int) := by omega
      have q2 : (n1 : Int) ≤ (c0 : Int) := by omega
      have q3 : (n1 : Int) ≤ (d0 : Int) := by omega
      have q4 : (0 : Int) ≤ (n1 : Int) := by omega
      have hr1 := ranks_any A n1 c0 (xs.take n1) w3 ((HX.out n1).1.kept HB.out) (HXL.out n1 (by omega)) (by omega) (HX.out n1).2
      have HR1 := Lib.hid hr1
      clear hr1
      go_wp2_with fail
      (with_reducible refine HR1.out.mono ?_)
      rintro e u1 ⟨D1, rfl, hn1, hb1⟩
      have hbb1 := HB.out.trans (hb1.mono HB.out.size)
      have hr2 := rranks_any A n1 c0 (xs.take n1) u1 ((HX.out n1).1.kept hbb1) (HXL.out n1 (by omega)) (by omega)
      have HR2 := Lib.hid hr2
      have H1 := Lib.hid (And.intro hn1 hbb1)
      clear hr2 hn1 hb1 hbb1 HR1
      go_wp2_with fail
      (with_reducible refine HR2.out.mono ?_)
      rintro e u2 ⟨v2, rfl, hI2⟩
      obtain ⟨ra, rc, rfl, hrn, -, -, -⟩ := nums_of_own hI2.1
      have hsa := rsame_any (some ⟨D1, 0, none⟩) ra n1 n1 n1 rc _ _ u2 (H1.out.1.kept hI2.2) hrn (rnkL_length _ _) (rnkL_length _ _) (by omega)
      rw [decide_eq_true rfl] at hsa
      have HSA := Lib.hid hsa
      have H2 := Lib.hid (H1.out.2.trans (hI2.2.mono H1.out.2.size))
      rw [rnkL_length]
      clear hsa hrn hI2 HR2 H1
      go_wp2_with fail
      (with_reducible refine HSA.out.mono ?_)
      rintro e u3 ⟨rfl, hb3⟩
      have H3 := Lib.hid (H2.out.trans (hb3.mono H2.out.size))
      clear hb3 HSA H2
      have hp := pairs_any A B n1 c0 d0 (xs.take n1) (ys.take n1) u3 ((HX.out n1).1.kept H3.out) ((HY.out n1).1.kept H3.out) (HXL.out n1 (by omega)) (HYL.out n1 (by omega)) (by omega) (HX.out n1).2 (HY.out n1).2
      have HP := Lib.hid hp
      clear hp
      go_wp2_with fail
      (with_reducible refine HP.out.mono ?_)
      rintro e u4 ⟨D4, rfl, hn4, hb4⟩
      have hbb4 := H3.out.trans (hb4.mono H3.out.size)
      have hr4 := rpairs_any A B n1 c0 d0 (xs.take n1) (ys.take n1) u4 ((HX.out n1).1.kept hbb4) ((HY.out n1).1.kept hbb4) (HXL.out n1 (by omega)) (HYL.out n1 (by omega)) (by omega) (HY.out n1).2
      have HR4 := Lib.hid hr4
      have H4 := Lib.hid (And.intro hn4 hbb4)
      have q5 : ((n1 : Int) == (n1 : Int)) = true := by simp
      clear hr4 hn4 hb4 hbb4 HP
      go_wp2_with fail
      (with_reducible refine HR4.out.mono ?_)
      rintro e u5 ⟨v5, rfl, hI5⟩
      obtain ⟨sa, sc, rfl, hsn, -, -, -⟩ := nums_of_own hI5.1
      have hsb := rsame_any (some ⟨D4, 0, none⟩) sa n1 n1 n1 sc _ _ u5 (H4.out.1.kept hI5.2) hsn (rnkL_length _ _) (rnkL_length _ _) (by omega)
      rw [decide_eq_true rfl] at hsb
      have HSB := Lib.hid hsb
      have H5 := Lib.hid (H4.out.2.trans (hI5.2.mono H4.out.2.size))
      rw [rnkL_length]
      clear hsb hsn hI5 HR4 H4
      go_wp2_with fail
      (with_reducible refine HSB.out.mono ?_)
      rintro e u6 ⟨rfl, hb6⟩
      have HF := Lib.hid (H5.out.trans (hb6.mono H5.out.size))
      clear hb6 HSB H5
      go_wp2
      go_ret
      exact ⟨rfl, HF.out⟩

end Go.Proofs.Ytjijkiafjlfeiaa

/- The chapter's examples: awake; the contracts of few and of the document's Has and All. -/
import Derived.Test.YtjijkiafjlfeiaaOI
set_option maxRecDepth 100000
namespace Go.Proofs.Ytjijkiafjlfeiaa
open Go.RowKit
open M
attribute [local go_sem ↓] Go.wp_at_zero Go.wp_at_succ

theorem nums_block (w : World) (cs : List Int) : NumsAt .i64 (w.alloc (.cells ((cs.map (Value.int .i64)).toArray) 3)) (some ⟨w.heap.size, 0, none⟩) cs := by
  refine .inr ⟨w.heap.size, 0, rfl, by simp, fun j hj => ?_⟩
  rw [cell_new _ _ _ _ _ rfl]
  simp [List.getD_eq_getElem?_getD, hj]
theorem al (w : World) (o : Obj) : Below w.heap.size w (w.alloc o) := (Below.refl _ _).alloc (Nat.le_refl _) _

theorem ex_stable : ordP (kyI [2, 0, 2, 1]) 4 = [1, 3, 0, 2] := by decide
theorem ex_ranks : rnkL (kyI [7, 5, 7, 9]) 4 = [1, 0, 1, 2] := by decide
theorem ex_pairs : rnkL (kyP [1, 0, 1] [4, 9, 3]) 3 = [2, 0, 1] := by decide

set_option maxHeartbeats 2000000 in
theorem awake_any (w : World) : Calls Try.prog 10 #[] w fun e w' => e = .returned (.bool true) ∧ Below w.heap.size w w' := by
  have h1 := stable_any (some ⟨w.heap.size, 0, none⟩) 4 4 [2, 0, 2, 1] 3 (w.alloc (.cells #[.int .i64 2, .int .i64 0, .int .i64 2, .int .i64 1] 3)) (nums_block w [2, 0, 2, 1]) rfl (by omega) (by intro x hx; simp at hx; omega)
  have H1 := Lib.hid h1
  clear h1
  go_enter Try.func10, Try.ntmps10
  go_wp2_with fail
  (with_reducible refine H1.out.mono ?_)
  rintro e u1 ⟨hb1, ⟨-, A1, c1, hc1, rfl, hn1⟩ | ⟨hno, -⟩⟩
  rotate_left
  · exact absurd ⟨by omega, by omega, fun x hx => by simp at hx; omega⟩ hno
  rw [ex_stable] at hn1
  have hB1 := (al w (.cells #[.int .i64 2, .int .i64 0, .int .i64 2, .int .i64 1] 3)).trans (hb1.mono (by simp))
  have h2 := ranks_any (some ⟨u1.heap.size, 0, none⟩) 4 4 [7, 5, 7, 9] (u1.alloc (.cells #[.int .i64 7, .int .i64 5, .int .i64 7, .int .i64 9] 3)) (nums_block u1 [7, 5, 7, 9]) rfl (by omega) (by intro x hx; simp at hx; omega)
  have HN1 := Lib.hid (And.intro hn1 hB1)
  have H2 := Lib.hid h2
  clear h2 hn1 hb1 hB1 H1
  go_wp2_with fail
  (with_reducible refine H2.out.mono ?_)
  rintro e u2 ⟨D2, rfl, hn2, hb2⟩
  rw [ex_ranks] at hn2
  have hB2 := (al u1 (.cells #[.int .i64 7, .int .i64 5, .int .i64 7, .int .i64 9] 3)).trans (hb2.mono (by simp))
  have hk1 := HN1.out.1.kept hB2
  have hBB2 := HN1.out.2.trans (hB2.mono HN1.out.2.size)
  have hal := al u2 (.cells #[.int .i64 1, .int .i64 0, .int .i64 1] 3)
  have h3 := pairs_any (some ⟨u2.heap.size, 0, none⟩) (some ⟨u2.heap.size + 1, 0, none⟩) 3 3 3 [1, 0, 1] [4, 9, 3] ((u2.alloc (.cells #[.int .i64 1, .int .i64 0, .int .i64 1] 3)).alloc (.cells #[.int .i64 4, .int .i64 9, .int .i64 3] 3)) ((nums_block u2 [1, 0, 1]).kept (al _ _)) (by have := nums_block (u2.alloc (.cells #[.int .i64 1, .int .i64 0, .int .i64 1] 3)) [4, 9, 3]; simpa using this) rfl rfl (by omega) (by intro x hx; simp at hx; omega) (by intro x hx; simp at hx; omega)
  have HN2 := Lib.hid (And.intro hn2 (And.intro hk1 hBB2))
  have H3 := Lib.hid h3
  clear h3 hn2 hb2 hB2 hk1 hBB2 HN1 H2 hal
  go_wp2_with fail
  (with_reducible refine H3.out.mono ?_)
  rintro e u3 ⟨D3, rfl, hn3, hb3⟩
  rw [ex_pairs] at hn3
  have hB3 := (boxed2 u2 (.cells #[.int .i64 1, .int .i64 0, .int .i64 1] 3) (.cells #[.int .i64 4, .int .i64 9, .int .i64 3] 3)).trans (hb3.mono (by simp; omega))
  have hk1 := HN2.out.2.1.kept hB3
  have hk2 := HN2.out.1.kept hB3
  have hBB3 := HN2.out.2.2.trans (hB3.mono HN2.out.2.2.size)
  have hal3 := al u3 (.cells #[.int .i64 1, .int .i64 3, .int .i64 0, .int .i64 2] 3)
  have h4 := rsame_any A1 (some ⟨u3.heap.size, 0, none⟩) 4 4 c1 4 [1, 3, 0, 2] [1, 3, 0, 2] (u3.alloc (.cells #[.int .i64 1, .int .i64 3, .int .i64 0, .int .i64 2] 3)) (hk1.kept hal3) (nums_block u3 _) rfl rfl (by omega)
  have HN3 := Lib.hid (And.intro hn3 (And.intro hk2 (And.intro hBB3 hal3)))
  have H4 := Lib.hid h4
  clear h4 hn3 hb3 hB3 hk1 hk2 hBB3 HN2 H3 hal3
  go_wp2_with fail
  (with_reducible refine H4.out.mono ?_)
  rintro e u4 ⟨rfl, hb4⟩
  have hB4 := HN3.out.2.2.2.trans (hb4.mono (by simp))
  have hk2 := HN3.out.2.1.kept hB4
  have hk3 := HN3.out.1.kept hB4
  have hBB4 := HN3.out.2.2.1.trans (hB4.mono HN3.out.2.2.1.size)
  have hal4 := al u4 (.cells #[.int .i64 1, .int .i64 0, .int .i64 1, .int .i64 2] 3)
  have h5 := rsame_any (some ⟨D2, 0, none⟩) (some ⟨u4.heap.size, 0, none⟩) 4 4 4 4 [1, 0, 1, 2] [1, 0, 1, 2] (u4.alloc (.cells #[.int .i64 1, .int .i64 0, .int .i64 1, .int .i64 2] 3)) (hk2.kept hal4) (nums_block u4 _) rfl rfl (by omega)
  have HN4 := Lib.hid (And.intro hk3 (And.intro hBB4 hal4))
  have H5 := Lib.hid h5
  clear h5 hb4 hB4 hk2 hk3 hBB4 HN3 H4 hal4
  go_wp2_with fail
  (with_reducible refine H5.out.mono ?_)
  rintro e u5 ⟨rfl, hb5⟩
  have hB5 := HN4.out.2.2.trans (hb5.mono (by simp))
  have hk3 := HN4.out.1.kept hB5
  have hBB5 := HN4.out.2.1.trans (hB5.mono HN4.out.2.1.size)
  have hal5 := al u5 (.cells #[.int .i64 2, .int .i64 0, .int .i64 1] 3)
  have h6 := rsame_any (some ⟨D3, 0, none⟩) (some ⟨u5.heap.size, 0, none⟩) 3 3 3 3 [2, 0, 1] [2, 0, 1] (u5.alloc (.cells #[.int .i64 2, .int .i64 0, .int .i64 1] 3)) (hk3.kept hal5) (nums_block u5 _) rfl rfl (by omega)
  have HN5 := Lib.hid (And.intro hBB5 hal5)
  have H6 := Lib.hid h6
  clear h6 hb5 hB5 hk3 hBB5 HN4 H5 hal5
  go_wp2_with fail
  (with_reducible refine H6.out.mono ?_)
  rintro e u6 ⟨rfl, hb6⟩
  have hB6 := HN5.out.1.trans ((HN5.out.2.trans (hb6.mono (by simp))).mono HN5.out.1.size)
  have HF := Lib.hid hB6
  clear hB6 hb6 HN5 H6
  have t1 : decide ([(1 : Int), 3, 0, 2] = [1, 3, 0, 2]) = true := by decide
  have t2 : decide ([(1 : Int), 0, 1, 2] = [1, 0, 1, 2]) = true := by decide
  have t3 : decide ([(2 : Int), 0, 1] = [2, 0, 1]) = true := by decide
  go_wp2
  go_ret
  exact ⟨rfl, HF.out⟩

/-- At most 40 numbers. -/
theorem few_any (A : Option Addr) (n c : Nat) (w : World) (hn : n ≤ c) : Calls Try.prog 11 #[.slice A n c] w fun e w' => e = .returned (.slice A (min n 40) c) ∧ w' = w := by
  by_cases h : 40 < n
  · have q : (40 : Int) < (n : Int) := by omega
    have e : min n 40 = 40 := by omega
    rw [e]
    go_enter Try.func11, Try.ntmps11
    go_wp2
    go_ret
    exact ⟨rfl, rfl⟩
  · have q : ¬ (40 : Int) < (n : Int) := by omega
    have e : min n 40 = n := by omega
    rw [e]
    go_enter Try.func11, Try.ntmps11
    go_wp2
    go_ret
    exact ⟨rfl, rfl⟩

theorem has_any (A : Option Addr) (n c : Nat) (l : List Int) (x : Int) (w : World) (h : NumsAt .i64 w A l) (hl : l.length = n) (hn : n ≤ 1000000) : Calls Try.prog 22 #[.slice A n c, .int .i64 x] w fun e w' => e = .returned (.bool (decide (x ∈ l))) ∧ w' = w := by
  have HX := Lib.hid (And.intro h hl)
  clear h hl
  go_enter Try.func22, Try.ntmps22
  go_wp2
  go_loopw [5] (fun v5 wr => ∃ i : Nat, i ≤ n ∧ v5 = .int .i64 (i : Int) ∧ wr = w ∧ ∀ j, j < i → l.getD j 0 ≠ x) (fun v5 _ => n - (intOf v5).toNat)
  case atStart => exact ⟨0, Nat.zero_le _, rfl, rfl, fun j hj => by omega⟩
  case round =>
    obtain ⟨i, hin, rfl, rfl, hno⟩ := hrel
    by_cases hlt : i < n
    · obtain ⟨bb, off, hAe, hbl, hcb⟩ := num_at HX.out.1 (i := i) (by rw [HX.out.2]; exact hlt)
      have hxm : l.getD i 0 ∈ l := memI l i (by rw [HX.out.2]; exact hlt)
      obtain ⟨y, hy⟩ : ∃ y, y = l.getD i 0 := ⟨_, rfl⟩
      rw [← hy] at hcb
      have HM := Lib.hid (And.intro hxm (And.intro hno hy))
      subst hAe
      clear hxm hno hy
      have q1 : (i : Int) < (n : Int) := by omega
      have q2 : (0 : Int) ≤ (i : Int) := by omega
      by_cases e : y = x
      · have q3 : (y == x) = true := by simpa using e
        go_wp2
        go_ret
        refine ⟨?_, rfl⟩
        rw [decide_eq_true (by rw [← e, HM.out.2.2]; exact HM.out.1)]; rfl
      · have q3 : (y == x) = false := by simpa using e
        go_wp2
        go_roundw
        case rel =>
          refine ⟨i + 1, by omega, by go_num, trivial, fun j hj => ?_⟩
          by_cases ej : j = i
          · rw [ej, ← HM.out.2.2]; exact e
          · exact HM.out.2.1 j (by omega)
        case measure => simp [intOf]; omega
    · obtain rfl : i = n := by omega
      have hf : decide (x ∈ l) = false := by
        apply decide_eq_false
        intro hm
        obtain ⟨j, hj, e⟩ := List.getElem_of_mem hm
        exact hno j (by have := HX.out.2; omega) (by simp [List.getD_eq_getElem?_getD, hj, e])
      have HF := Lib.hid hf
      clear hno hf
      have q1 : ¬ (i : Int) < (i : Int) := by omega
      go_wp2
      go_ret
      exact ⟨by rw [HF.out]; rfl, rfl⟩

/-- Has it each number below its length? -/
def allB (l : List Int) : Bool := (plcs l.length).all fun x => decide (x ∈ l)
theorem all_any (A : Option Addr) (n c : Nat) (l : List Int) (w : World) (h : NumsAt .i64 w A l) (hl : l.length = n) (hn : n ≤ 1000000) : Calls Try.prog 20 #[.slice A n c] w fun e w' => e = .returned (.bool (allB l)) ∧ w' = w := by
  have hh := fun x => has_any A n c l x w h hl hn
  have HX := Lib.hid (And.intro hl hh)
  clear h hl hh
  go_enter Try.func20, Try.ntmps20
  go_wp2
  go_loopw [3, 4] (fun v3 _ wr => ∃ i : Nat, i ≤ n ∧ v3 = .int .i64 (i : Int) ∧ wr = w ∧ ∀ j : Nat, j < i → (j : Int) ∈ l) (fun v3 _ _ => n - (intOf v3).toNat)
  case atStart => exact ⟨0, Nat.zero_le _, rfl, rfl, fun j hj => by omega⟩
  case round =>
    obtain ⟨i, hin, rfl, rfl, hok⟩ := hrel
    by_cases hlt : i < n
    · have HM := Lib.hid hok
      clear hok
      have q1 : (i : Int) < (n : Int) := by omega
      go_wp2_with fail
      (with_reducible refine (HX.out.2 _).mono ?_)
      rintro e u1 ⟨rfl, rfl⟩
      by_cases hm : (i : Int) ∈ l
      · rw [decide_eq_true hm]
        go_wp2
        go_roundw
        case rel =>
          refine ⟨i + 1, by omega, by go_num, trivial, fun j hj => ?_⟩
          by_cases ej : j = i
          · rw [ej]; exact hm
          · exact HM.out j (by omega)
        case measure => simp [intOf]; omega
      · rw [decide_eq_false hm]
        have hf : allB l = false := by
          unfold allB
          rw [List.all_eq_false]
          exact ⟨(i : Int), plcs_mem.2 (by rw [HX.out.1]; omega), by simpa using hm⟩
        have HF := Lib.hid hf
        clear hf
        go_wp2
        go_ret
        exact ⟨by rw [HF.out]; rfl, rfl⟩
    · obtain rfl : i = n := by omega
      have hf : allB l = true := by
        unfold allB
        rw [List.all_eq_true]
        intro x hx
        rw [HX.out.1] at hx
        have := plcs_mem.1 hx
        have := hok x.toNat (by omega)
        rw [show ((x.toNat : Nat) : Int) = x by omega] at this
        exact decide_eq_true this
      have HF := Lib.hid hf
      clear hok hf
      have q1 : ¬ (i : Int) < (i : Int) := by omega
      go_wp2
      go_ret
      exact ⟨by rw [HF.out]; rfl, rfl⟩

end Go.Proofs.Ytjijkiafjlfeiaa

/- The chapter's examples: awake; the contracts of few and of the document's Has and All. -/
import Derived.Test.YtjepgdfcjbgahaaOI
set_option maxRecDepth 100000
namespace Go.Proofs.Ytjepgdfcjbgahaa
open Go.RowKit
open M
attribute [local go_sem ↓] Go.wp_at_zero Go.wp_at_succ

theorem nums_block (w : World) (cs : List Int) : NumsAt .i64 (w.alloc (.cells ((cs.map (Value.int .i64)).toArray) 3)) (some ⟨w.heap.size, 0, none⟩) cs := by
  refine .inr ⟨w.heap.size, 0, rfl, by simp, fun j hj => ?_⟩
  rw [cell_new _ _ _ _ _ rfl]
  simp [List.getD_eq_getElem?_getD, hj]
theorem al (w : World) (o : Obj) : Below w.heap.size w (w.alloc o) := (Below.refl _ _).alloc (Nat.le_refl _) _

theorem ex_stable : ordP (kyI [2, 0, 2, 1]) 4 = [1, 3, 0, 2] := by decide
theorem ex_ranks : rnkL (kyI [7, 5, 7, 9]) 4 = [1, 0, 1, 2] := by decide
theorem ex_pairs : rnkL (kyP [1, 0, 1] [4, 9, 3]) 3 = [2, 0, 1] := by decide

theorem has_any (A : Option Addr) (n c : Nat) (l : List Int) (x : Int) (w : World) (h : NumsAt .i64 w A l) (hl : l.length = n) (hn : n ≤ 1000000) : Calls Try.prog 22 #[.slice A n c, .int .i64 x] w fun e w' => e = .returned (.bool (decide (x ∈ l))) ∧ w' = w := by
  have HX := Lib.hid (And.intro h hl)
  clear h hl
  go_enter Try.func22, Try.ntmps22
  go_wp2
  go_loopw [5] (fun v5 wr => ∃ i : Nat, i ≤ n ∧ v5 = .int .i64 (i : Int) ∧ wr = w ∧ ∀ j, j < i → l.getD j 0 ≠ x) (fun v5 _ => n - (intOf v5).toNat)
  case atStart => exact ⟨0, Nat.zero_le _, rfl, rfl, fun j hj => by omega⟩
  case round =>
    obtain ⟨i, hin, rfl, rfl, hno⟩ := hrel
    by_cases hlt : i < n
    · obtain ⟨bb, off, hAe, hbl, hcb⟩ := num_at HX.out.1 (i := i) (by rw [HX.out.2]; exact hlt)
      have hxm : l.getD i 0 ∈ l := memI l i (by rw [HX.out.2]; exact hlt)
      obtain ⟨y, hy⟩ : ∃ y, y = l.getD i 0 := ⟨_, rfl⟩
      rw [← hy] at hcb
      have HM := Lib.hid (And.intro hxm (And.intro hno hy))
      subst hAe
      clear hxm hno hy
      have q1 : (i : Int) < (n : Int) := by omega
      have q2 : (0 : Int) ≤ (i : Int) := by omega
      by_cases e : y = x
      · have q3 : (y == x) = true := by simpa using e
        go_wp2
        go_ret
        refine ⟨?_, rfl⟩
        rw [decide_eq_true (by rw [← e, HM.out.2.2]; exact HM.out.1)]; rfl
      · have q3 : (y == x) = false := by simpa using e
        go_wp2
        go_roundw
        case rel =>
          refine ⟨i + 1, by omega, by go_num, trivial, fun j hj => ?_⟩
          by_cases ej : j = i
          · rw [ej, ← HM.out.2.2]; exact e
          · exact HM.out.2.1 j (by omega)
        case measure => simp [intOf]; omega
    · obtain rfl : i = n := by omega
      have hf : decide (x ∈ l) = false := by
        apply decide_eq_false
        intro hm
        obtain ⟨j, hj, e⟩ := List.getElem_of_mem hm
        exact hno j (by have := HX.out.2; omega) (by simp [List.getD_eq_getElem?_getD, hj, e])
      have HF := Lib.hid hf
      clear hno hf
      have q1 : ¬ (i : Int) < (i : Int) := by omega
      go_wp2
      go_ret
      exact ⟨by rw [HF.out]; rfl, rfl⟩

/-- Has it each number below its length? -/
def allB (l : List Int) : Bool := (plcs l.length).all fun x => decide (x ∈ l)
end Go.Proofs.Ytjepgdfcjbgahaa

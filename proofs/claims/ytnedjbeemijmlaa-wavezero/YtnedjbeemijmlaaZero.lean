/- A zero row of symbols: the walk of WaveZero. -/
import Derived.Test.YtnedjbeemijmlaaWY
set_option maxRecDepth 100000
namespace Go.Proofs.Ytnedjbeemijmlaa
open Go.RowKit
open M
attribute [local go_sem ↓] Go.wp_at_zero Go.wp_at_succ

/-- A boxed zero row. -/
abbrev ZA (w : World) (bx : Nat) (u : World) : Prop := WL w bx 0 [] 0 none 0 0 u
theorem ZA.new (w : World) : ZA w w.heap.size (w.alloc (.cells #[.int .i64 0, .int .i64 0, .slice none 0 0] 27)) :=
  ⟨⟨by simp, by simp, by simp⟩, ⟨⟨rfl, fun j hj => absurd hj (by omega)⟩, fun x hx => absurd hx (by simp), by simp, by omega⟩, rfl, by decide, fun x hx => absurd hx (by simp), (Below.refl _ _).alloc (Nat.le_refl _) _⟩
variable {w u : World} {bx : Nat}
theorem cntN_nil (c f t : Int) : cntN [] 0 c f t = 0 := by
  unfold cntN hasB
  rw [if_neg (by rw [decide_eq_true_eq]; omega)]
theorem belN_nil (c i : Int) : belN [] 0 c i = 0 := by
  unfold belN
  split
  · rfl
  · rw [if_pos (by omega)]; unfold lo; simp; omega
theorem dis_nil (f t : Nat) : disL (rng [] f t) 0 0 = [] := by unfold rng disL; simp
theorem z_aw (h : ZA w bx u) : Calls Try.prog 10 #[] u fun e u' => e = .returned (.bool true) ∧ ZA w bx u' := (awake_any u).mono fun _ _ hh => ⟨hh.1, h.kept hh.2⟩
theorem z_len (h : ZA w bx u) : Calls Try.prog 14 #[.agg #[.int .i64 0, .int .i64 0, .slice none 0 0]] u fun e u' => e = .returned (.int .i64 0) ∧ ZA w bx u' := (wlen_any 0 0 (.slice none 0 0) u).mono fun _ _ hh => ⟨hh.1, h.kept hh.2⟩
theorem z_size (h : ZA w bx u) : Calls Try.prog 15 #[.agg #[.int .i64 0, .int .i64 0, .slice none 0 0]] u fun e u' => e = .returned (.int .i64 0) ∧ ZA w bx u' := (wsize_any 0 0 (.slice none 0 0) u).mono fun _ _ hh => ⟨hh.1, h.kept hh.2⟩
theorem z_rank (c i : Int) (h : ZA w bx u) : Calls Try.prog 28 #[.agg #[.int .i64 0, .int .i64 0, .slice none 0 0], .int .i64 c, .int .i64 i] u fun e u' => e = .returned (.int .i64 0) ∧ ZA w bx u' := (rk_wl c i h).mono fun _ _ hh => ⟨by rw [hh.1, cntN_nil]; rfl, hh.2.1⟩
theorem z_count (c f t : Int) (h : ZA w bx u) : Calls Try.prog 31 #[.agg #[.int .i64 0, .int .i64 0, .slice none 0 0], .int .i64 c, .int .i64 f, .int .i64 t] u fun e u' => e = .returned (.int .i64 0) ∧ ZA w bx u' := (cnt_wl c f t h).mono fun _ _ hh => ⟨by rw [hh.1, cntN_nil]; rfl, hh.2.1⟩
theorem z_below (c i : Int) (h : ZA w bx u) : Calls Try.prog 32 #[.agg #[.int .i64 0, .int .i64 0, .slice none 0 0], .int .i64 c, .int .i64 i] u fun e u' => e = .returned (.int .i64 0) ∧ ZA w bx u' := (bel_wl c i h).mono fun _ _ hh => ⟨by rw [hh.1, belN_nil]; rfl, hh.2.1⟩
theorem z_list (h : ZA w bx u) : Calls Try.prog 21 #[.agg #[.int .i64 0, .int .i64 0, .slice none 0 0]] u fun e u' => ∃ v, e = .returned (.slice v 0 0) ∧ ZA w bx u' := (wlist_any [] 0 none 0 0 u h.wx).mono fun _ _ ⟨v, h1, _, h3⟩ => ⟨v, h1, h.kept h3⟩
theorem z_rows (h : ZA w bx u) : Calls Try.prog 16 #[.agg #[.int .i64 0, .int .i64 0, .slice none 0 0]] u fun e u' => ∃ v c, e = .returned (.slice v 0 c) ∧ ZA w bx u' := (wrows0_any 0 0 none 0 0 [] u ⟨rfl, fun j hj => absurd hj (by omega)⟩ (by omega)).mono fun _ _ ⟨v, c, h1, _, h3⟩ => ⟨v, c, h1, h.kept h3⟩
theorem z_dist (f t : Int) (h : ZA w bx u) : Calls Try.prog 25 #[.agg #[.int .i64 0, .int .i64 0, .slice none 0 0], .int .i64 f, .int .i64 t] u fun e u' => ∃ v c, e = .returned (.slice v 0 c) ∧ ZA w bx u' := (dis_wl f t h).mono fun _ _ ⟨v, h1, h2, h3⟩ => by
  rw [dis_nil] at h2
  obtain ⟨va, vc, rfl, -⟩ := nums_of_own h2.1
  exact ⟨va, vc, h1, h3⟩
theorem z_at (i : Int) (h : ZA w bx u) : Calls Try.prog 27 #[.agg #[.int .i64 0, .int .i64 0, .slice none 0 0], .int .i64 i] u fun e u' => e = .returned (.int .i64 (-1)) ∧ ZA w bx u' := (at_wl i h).mono fun _ _ hh => ⟨by rw [hh.1]; unfold wAt; rw [if_neg (by simp)], hh.2.1⟩
theorem z_sel (c k : Int) (h : ZA w bx u) : Calls Try.prog 29 #[.agg #[.int .i64 0, .int .i64 0, .slice none 0 0], .int .i64 c, .int .i64 k] u fun e u' => e = .returned (.int .i64 (-1)) ∧ ZA w bx u' := (sel_wl c k h).mono fun _ _ hh => ⟨by rw [hh.1, sel_no [] c k (fun x hx => absurd hx (by simp))], hh.2.1⟩

set_option linter.unusedSimpArgs false in
set_option maxHeartbeats 8000000 in
theorem zero_walk (i : Int) (w : World) : Calls Try.prog 8 #[.int .i64 i] w fun e w' => e = .returned (.bool true) ∧ Below w.heap.size w w' := by
  have hA := ZA.new w
  have HB0 : Hid (∀ u, ZA w w.heap.size u → Below w.heap.size w u) := Lib.hid (fun u h => h.bel)
  go_enter Try.func8, Try.ntmps8
  go_wp2
  generalize w.alloc (.cells #[.int .i64 0, .int .i64 0, .slice none 0 0] 27) = u at *
  generalize hbx : w.heap.size = bx at *
  obtain ⟨x0, x1, x2⟩ := hA.box
  go_region_held3 (fun w' => w'.cell? ⟨bx, 0, none⟩ = some (.int .i64 0) ∧ w'.cell? ⟨bx, 1, none⟩ = some (.int .i64 0) ∧ w'.cell? ⟨bx, 2, none⟩ = some (.slice none 0 0))
    (first
      | go_keep
      | exact ⟨hA.box.c0, hA.box.c1, hA.box.c2⟩)
    (first
      | (go_at_call 10; (with_reducible refine (z_aw hA).mono ?_); rintro e u ⟨rfl, hA⟩)
      | (go_at_call 10; (with_reducible refine (z_aw hA.drew).mono ?_); rintro e u ⟨rfl, hA⟩)
      | (go_at_call 14; (with_reducible refine (z_len hA).mono ?_); rintro e u ⟨rfl, hA⟩)
      | (go_at_call 15; (with_reducible refine (z_size hA).mono ?_); rintro e u ⟨rfl, hA⟩)
      | (go_at_call 28; (with_reducible refine (z_rank _ _ hA).mono ?_); rintro e u ⟨rfl, hA⟩)
      | (go_at_call 31; (with_reducible refine (z_count _ _ _ hA).mono ?_); rintro e u ⟨rfl, hA⟩)
      | (go_at_call 32; (with_reducible refine (z_below _ _ hA).mono ?_); rintro e u ⟨rfl, hA⟩)
      | (go_at_call 21; (with_reducible refine (z_list hA).mono ?_); rintro e u ⟨lv, rfl, hA⟩)
      | (go_at_call 16; (with_reducible refine (z_rows hA).mono ?_); rintro e u ⟨rv, rc, rfl, hA⟩)
      | (go_at_call 25; (with_reducible refine (z_dist _ _ hA).mono ?_); rintro e u ⟨dv, dc, rfl, hA⟩)
      | (go_at_call 27; (with_reducible refine (z_at _ hA).mono ?_); rintro e u ⟨rfl, hA⟩)
      | (go_at_call 29; (with_reducible refine (z_sel _ _ hA).mono ?_); rintro e u ⟨rfl, hA⟩))
  all_goals
    have HB := Lib.hid (HB0.out _ hA)
    clear hA
    go_wp2
    go_ret
    exact ⟨rfl, by rw [hbx]; exact HB.out⟩

end Go.Proofs.Ytnedjbeemijmlaa

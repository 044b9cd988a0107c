/- A zero rank has no bits: the walk of RankZero. -/
import Derived.Test.YtfhlcclbjagdmaaKJ
namespace Go.Proofs.Ytfhlcclbjagdmaa
open Go.RowKit
open M
attribute [local go_sem ↓] Go.wp_at_zero Go.wp_at_succ

/-- The zero rank. -/
def R0 : RP := ⟨0, none, 0, 0, 0, 0, 0, none, 0, 0⟩
theorem rk_zero (w : World) : RK w R0 [] := ⟨Row_nil w, rfl, by decide, .inl ⟨rfl, rfl⟩⟩
theorem ra_zero (w : World) : RA w w.heap.size R0 [] (w.alloc (.cells #[.int .i64 0, .slice none 0 0, .int .i64 0, .int .i64 0, .int .i64 0, .slice none 0 0] 35)) := RA.new (rk_zero w)

variable {w u : World} {b : Nat}
theorem z_aw (h : RA w b R0 [] u) : Calls Try.prog 9 #[] u fun e u' => e = .returned (.bool true) ∧ RA w b R0 [] u' := (awake_any u).mono fun _ _ hh => ⟨hh.1, h.kept hh.2⟩
theorem z_len (h : RA w b R0 [] u) : Calls Try.prog 13 #[.agg #[.int .i64 0, .slice none 0 0, .int .i64 0, .int .i64 0, .int .i64 0, .slice none 0 0]] u fun e u' => e = .returned (.int .i64 0) ∧ RA w b R0 [] u' := rlen_ra h
theorem z_ones (h : RA w b R0 [] u) : Calls Try.prog 14 #[.agg #[.int .i64 0, .slice none 0 0, .int .i64 0, .int .i64 0, .int .i64 0, .slice none 0 0]] u fun e u' => e = .returned (.int .i64 0) ∧ RA w b R0 [] u' := rones_ra h
theorem sel_nil (t : Bool) (k : Int) : selN t [] k = -1 := selN_none t [] k (by simp [rkN]; omega)
theorem one_nil (i : Int) : oneI [] i = 0 := by simp [oneI, getB]
theorem rk1_nil (i : Int) : (rk1 [] i : Int) = 0 := by simp [rk1, rkN]
theorem rk0_nil (i : Int) : (rk0 [] i : Int) = 0 := by simp [rk0, rkN]
theorem z_one (i : Int) (h : RA w b R0 [] u) : Calls Try.prog 18 #[.agg #[.int .i64 0, .slice none 0 0, .int .i64 0, .int .i64 0, .int .i64 0, .slice none 0 0], .int .i64 i] u fun e u' => e = .returned (.int .i64 0) ∧ RA w b R0 [] u' := (rone_ra i h).mono fun _ _ hh => ⟨hh.1.trans (ret_int (one_nil i)), hh.2⟩
theorem z_r1 (i : Int) (h : RA w b R0 [] u) : Calls Try.prog 16 #[.agg #[.int .i64 0, .slice none 0 0, .int .i64 0, .int .i64 0, .int .i64 0, .slice none 0 0], .int .i64 i] u fun e u' => e = .returned (.int .i64 0) ∧ RA w b R0 [] u' := (rank1_ra i h).mono fun _ _ hh => ⟨hh.1.trans (ret_int (rk1_nil i)), hh.2⟩
theorem z_r0 (i : Int) (h : RA w b R0 [] u) : Calls Try.prog 17 #[.agg #[.int .i64 0, .slice none 0 0, .int .i64 0, .int .i64 0, .int .i64 0, .slice none 0 0], .int .i64 i] u fun e u' => e = .returned (.int .i64 0) ∧ RA w b R0 [] u' := (rank0_ra i h).mono fun _ _ hh => ⟨hh.1.trans (ret_int (rk0_nil i)), hh.2⟩
theorem z_s1 (i : Int) (h : RA w b R0 [] u) : Calls Try.prog 22 #[.agg #[.int .i64 0, .slice none 0 0, .int .i64 0, .int .i64 0, .int .i64 0, .slice none 0 0], .int .i64 i] u fun e u' => e = .returned (.int .i64 (-1)) ∧ RA w b R0 [] u' := (sel1_ra i h).mono fun _ _ hh => ⟨hh.1.trans (ret_int (sel_nil _ _)), hh.2⟩
theorem z_s0 (i : Int) (h : RA w b R0 [] u) : Calls Try.prog 23 #[.agg #[.int .i64 0, .slice none 0 0, .int .i64 0, .int .i64 0, .int .i64 0, .slice none 0 0], .int .i64 i] u fun e u' => e = .returned (.int .i64 (-1)) ∧ RA w b R0 [] u' := (sel0_ra i h).mono fun _ _ hh => ⟨hh.1.trans (ret_int (sel_nil _ _)), hh.2⟩
theorem z_nx (i : Int) (h : RA w b R0 [] u) : Calls Try.prog 24 #[.agg #[.int .i64 0, .slice none 0 0, .int .i64 0, .int .i64 0, .int .i64 0, .slice none 0 0], .int .i64 i] u fun e u' => e = .returned (.int .i64 (-1)) ∧ RA w b R0 [] u' := (next_ra i h).mono fun _ _ hh => ⟨hh.1.trans (ret_int (sel_nil _ _)), hh.2⟩
theorem z_pv (i : Int) (hi : -9223372036854775808 ≤ i) (h : RA w b R0 [] u) : Calls Try.prog 26 #[.agg #[.int .i64 0, .slice none 0 0, .int .i64 0, .int .i64 0, .int .i64 0, .slice none 0 0], .int .i64 i] u fun e u' => e = .returned (.int .i64 (-1)) ∧ RA w b R0 [] u' := (prev_ra i hi h).mono fun _ _ hh => ⟨hh.1.trans (ret_int (sel_nil _ _)), hh.2⟩

set_option maxRecDepth 100000 in
set_option maxHeartbeats 4000000 in
theorem zero_walk (i : Int) (w : World) (hi : -9223372036854775808 ≤ i) : Calls Try.prog 7 #[.int .i64 i] w fun e w' => e = .returned (.bool true) ∧ Below w.heap.size w w' := by
  have hA := ra_zero w
  have hund : undef = Value.tuple #[] := rfl
  go_enter Try.func7, Try.ntmps7
  go_wp2
  obtain ⟨l0, l1, l2, l3, l4, l5⟩ := hA.box
  generalize w.alloc (.cells #[.int .i64 0, .slice none 0 0, .int .i64 0, .int .i64 0, .int .i64 0, .slice none 0 0] 35) = u at *
  generalize hbx : w.heap.size = bx at *
  simp only [R0, Int.cast_ofNat_Int] at l0 l1 l2 l3 l4 l5
  go_region_held3 (fun w' => w'.cell? ⟨bx, 0, none⟩ = some (.int .i64 0) ∧ w'.cell? ⟨bx, 1, none⟩ = some (.slice none 0 0) ∧ w'.cell? ⟨bx, 2, none⟩ = some (.int .i64 0) ∧ w'.cell? ⟨bx, 3, none⟩ = some (.int .i64 0) ∧ w'.cell? ⟨bx, 4, none⟩ = some (.int .i64 0) ∧ w'.cell? ⟨bx, 5, none⟩ = some (.slice none 0 0))
    (first
      | go_keep
      | exact ⟨hA.box.c0, hA.box.c1, hA.box.c2, hA.box.c3, hA.box.c4, hA.box.c5⟩)
    (first
      | (go_at_call 9; (with_reducible refine (z_aw hA).mono ?_); rintro e u ⟨rfl, hA⟩)
      | (go_at_call 9; (with_reducible refine (z_aw hA.drew).mono ?_); rintro e u ⟨rfl, hA⟩)
      | (go_at_call 13; (with_reducible refine (z_len hA).mono ?_); rintro e u ⟨rfl, hA⟩)
      | (go_at_call 14; (with_reducible refine (z_ones hA).mono ?_); rintro e u ⟨rfl, hA⟩)
      | (go_at_call 18; (with_reducible refine (z_one _ hA).mono ?_); rintro e u ⟨rfl, hA⟩)
      | (go_at_call 16; (with_reducible refine (z_r1 _ hA).mono ?_); rintro e u ⟨rfl, hA⟩)
      | (go_at_call 17; (with_reducible refine (z_r0 _ hA).mono ?_); rintro e u ⟨rfl, hA⟩)
      | (go_at_call 22; (with_reducible refine (z_s1 _ hA).mono ?_); rintro e u ⟨rfl, hA⟩)
      | (go_at_call 23; (with_reducible refine (z_s0 _ hA).mono ?_); rintro e u ⟨rfl, hA⟩)
      | (go_at_call 24; (with_reducible refine (z_nx _ hA).mono ?_); rintro e u ⟨rfl, hA⟩)
      | (go_at_call 26; (with_reducible refine (z_pv _ hi hA).mono ?_); rintro e u ⟨rfl, hA⟩))
  all_goals
    have HB := Lib.hid hA.bel
    subst hbx
    clear hA
    go_wp2
    go_ret
    exact ⟨rfl, HB.out⟩

end Go.Proofs.Ytfhlcclbjagdmaa

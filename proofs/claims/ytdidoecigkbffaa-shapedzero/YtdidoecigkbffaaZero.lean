/- A zero row has no symbols: the walk of ShapedZero. -/
import Derived.Test.YtdidoecigkbffaaND
set_option maxRecDepth 100000
namespace Go.Proofs.Ytdidoecigkbffaa
open Go.RowKit
open S J M
attribute [local go_sem ↓] Go.wp_at_zero Go.wp_at_succ

/-- The zero row, in its box. -/
structure ZB (w : World) (b : Nat) (u : World) : Prop where
  c : u.cell? ⟨b, 0, none⟩ = some (.int .i64 0) ∧ u.cell? ⟨b, 1, none⟩ = some (.slice none 0 0) ∧ u.cell? ⟨b, 2, none⟩ = some (.map none) ∧ u.cell? ⟨b, 3, none⟩ = some (.map none)
  bel : Below w.heap.size w u
variable {w u u' : World} {b : Nat}
theorem ZB.kept (h : ZB w b u) (hb : Below u.heap.size u u') : ZB w b u' := by
  have hl := World.block_lt_of_cell? u _ h.1.1
  exact ⟨⟨by rw [hb.cell (p := ⟨b, 0, none⟩) hl]; exact h.1.1, by rw [hb.cell (p := ⟨b, 1, none⟩) hl]; exact h.1.2.1, by rw [hb.cell (p := ⟨b, 2, none⟩) hl]; exact h.1.2.2.1, by rw [hb.cell (p := ⟨b, 3, none⟩) hl]; exact h.1.2.2.2⟩, h.2.trans (hb.mono h.2.size)⟩
theorem ZB.drew (h : ZB w b u) : ZB w b u.drew := h.kept ((Below.refl _ _).drew)
theorem ZB.new (w : World) : ZB w w.heap.size (w.alloc (.cells #[.int .i64 0, .slice none 0 0, .map none, .map none] 34)) :=
  ⟨⟨by rw [cell_new _ _ _ _ _ rfl]; rfl, by rw [cell_new _ _ _ _ _ rfl]; rfl, by rw [cell_new _ _ _ _ _ rfl]; rfl, by rw [cell_new _ _ _ _ _ rfl]; rfl⟩, (Below.refl _ _).alloc (Nat.le_refl _) _⟩
theorem bz (w : World) : Below w.heap.size w (w.alloc (.cells #[.int .i64 0, .slice none 0 0, .map none, .map none] 34)) := (Below.refl _ _).alloc (Nat.le_refl _) _

theorem zlen_any (w : World) : Calls Try.prog 15 #[.agg #[.int .i64 0, .slice none 0 0, .map none, .map none]] w fun e w' => e = .returned (.int .i64 0) ∧ Below w.heap.size w w' := by
  have H := Lib.hid (bz w)
  go_enter Try.func15, Try.ntmps15
  go_wp2
  go_ret
  exact ⟨rfl, H.out⟩
theorem zsize_any (w : World) : Calls Try.prog 16 #[.agg #[.int .i64 0, .slice none 0 0, .map none, .map none]] w fun e w' => e = .returned (.int .i64 0) ∧ Below w.heap.size w w' := by
  have H := Lib.hid (bz w)
  go_enter Try.func16, Try.ntmps16
  go_wp2
  go_ret
  exact ⟨rfl, H.out⟩
theorem zcode_any (i : Int) (w : World) : Calls Try.prog 19 #[.agg #[.int .i64 0, .slice none 0 0, .map none, .map none], .int .i64 i] w fun e w' => e = .returned (.string ⟨#[]⟩) ∧ Below w.heap.size w w' := by
  have H := Lib.hid (bz w)
  by_cases hi : i < 0
  · go_enter Try.func19, Try.ntmps19
    go_wp2
    go_ret
    exact ⟨rfl, H.out⟩
  · have q : (0 : Int) ≤ i := by omega
    go_enter Try.func19, Try.ntmps19
    go_wp2
    go_ret
    exact ⟨rfl, H.out⟩
theorem zat_any (i : Int) (w : World) : Calls Try.prog 14 #[.agg #[.int .i64 0, .slice none 0 0, .map none, .map none], .int .i64 i] w fun e w' => e = .returned (.int .i64 (-1)) ∧ Below w.heap.size w w' := by
  have H := Lib.hid (bz w)
  by_cases hi : i < 0
  · go_enter Try.func14, Try.ntmps14
    go_wp2
    go_ret
    exact ⟨rfl, H.out⟩
  · have q : (0 : Int) ≤ i := by omega
    go_enter Try.func14, Try.ntmps14
    go_wp2
    go_ret
    exact ⟨rfl, H.out⟩
theorem zlisted_any (w : World) : Calls Try.prog 33 #[.agg #[.int .i64 0, .slice none 0 0, .map none, .map none], .string ⟨#[]⟩, .int .i64 0] w fun e w' => e = .returned (.slice none 0 0) ∧ Below w.heap.size w w' := by
  have H := Lib.hid (bz w)
  go_enter Try.func33, Try.ntmps33
  go_wp2
  go_ret
  exact ⟨rfl, H.out⟩
theorem zlist_any (w : World) : Calls Try.prog 18 #[.agg #[.int .i64 0, .slice none 0 0, .map none, .map none]] w fun e w' => e = .returned (.slice none 0 0) ∧ Below w.heap.size w w' := by
  have HL := Lib.hid (fun u => zlisted_any u)
  have H := Lib.hid (bz w)
  go_enter Try.func18, Try.ntmps18
  go_wp2_with fail
  (with_reducible refine (HL.out _).mono ?_)
  rintro e u ⟨rfl, hb⟩
  have HB := Lib.hid (H.out.trans (hb.mono H.out.size))
  clear hb
  go_wp2
  go_ret
  exact ⟨rfl, HB.out⟩
theorem zcost_any (w : World) : Calls Try.prog 17 #[.agg #[.int .i64 0, .slice none 0 0, .map none, .map none]] w fun e w' => e = .returned (.int .i64 0) ∧ Below w.heap.size w w' := by
  have H := Lib.hid ((bz w).alloc (Nat.le_of_lt (by simp)) (.mapIter none 0 #[] 0))
  have hr := fun w => run_range_nilMap (P := Try.prog) w 32 9 56 Try.underlying32
  have hn := fun (w : World) ty a b s => run_next_nilMap (P := Try.prog) w ty a b s
  have hn2 := hn (w.alloc (.cells #[.int .i64 0, .slice none 0 0, .map none, .map none] 34))
  simp only [World.size_alloc] at hn2
  go_enter Try.func17, Try.ntmps17
  go_wp2
  go_loopw [3, 5] (fun v3 _ wr => v3 = .int .i64 0 ∧ wr = (w.alloc (.cells #[.int .i64 0, .slice none 0 0, .map none, .map none] 34)).alloc (.mapIter none 0 #[] 0)) (fun _ _ _ => 0)
  case atStart => exact ⟨rfl, rfl⟩
  case round =>
    obtain ⟨rfl, rfl⟩ := hrel
    go_wp2
    go_ret
    exact ⟨rfl, H.out⟩
theorem zero3 (w : World) : (zeroValue 3).run Try.prog w = .ok (.int .i64 0) w := by kernel_rfl
theorem zstands_any (i : Int) (w : World) : Calls Try.prog 26 #[.agg #[.int .i64 0, .slice none 0 0, .map none, .map none], .int .i64 i] w fun e w' => e = .returned (.bool false) ∧ Below w.heap.size w w' := by
  have hlk := fun w => Maps.look_nil (P := Try.prog) (w := w) true keyed9 Try.underlying31 (zero3 w) (key_str [] (by simp))
  have e0 : str [] = ⟨#[]⟩ := rfl
  rw [e0] at hlk
  simp only [if_true] at hlk
  have HZ := Lib.hid (fun (u : World) (h : ZB w w.heap.size u) => (zcode_any i u).mono fun e u' hh => (show e = .returned (.string ⟨#[]⟩) ∧ ZB w w.heap.size u' from ⟨hh.1, h.kept hh.2⟩))
  have hA := Lib.hid (ZB.new w)
  go_enter Try.func26, Try.ntmps26
  go_wp2
  obtain ⟨l0, l1, l2, l3⟩ := hA.out.1
  generalize w.alloc (.cells #[.int .i64 0, .slice none 0 0, .map none, .map none] 34) = u at *
  obtain ⟨bx, hbx⟩ : ∃ bx, bx = w.heap.size := ⟨_, rfl⟩
  rw [← hbx] at l0 l1 l2 l3 hA HZ
  rw [← hbx]
  clear hbx
  go_region_held3 (fun w' => w'.cell? ⟨bx, 0, none⟩ = some (.int .i64 0) ∧ w'.cell? ⟨bx, 1, none⟩ = some (.slice none 0 0) ∧ w'.cell? ⟨bx, 2, none⟩ = some (.map none) ∧ w'.cell? ⟨bx, 3, none⟩ = some (.map none))
    (first
      | go_keep
      | (with_reducible exact hA.out.1))
    (first
      | (go_at_call 19; (with_reducible refine (HZ.out _ hA.out.drew).mono ?_); rintro e u ⟨rfl, hA'⟩; have hA := Lib.hid hA'; clear hA')
      | (go_at_call 19; (with_reducible refine (HZ.out _ hA.out).mono ?_); rintro e u ⟨rfl, hA'⟩; have hA := Lib.hid hA'; clear hA'))
  all_goals
    have HB := Lib.hid hA.out.2
    clear hA
    go_wp2
    go_ret
    exact ⟨rfl, HB.out⟩
theorem zrank_any (i j : Int) (w : World) : Calls Try.prog 12 #[.agg #[.int .i64 0, .slice none 0 0, .map none, .map none], .int .i64 i, .int .i64 j] w fun e w' => e = .returned (.int .i64 0) ∧ Below w.heap.size w w' := by
  have HL := Lib.hid (fun u => zstands_any i u)
  have H := Lib.hid (bz w)
  go_enter Try.func12, Try.ntmps12
  go_wp2_with fail
  (with_reducible refine (HL.out _).mono ?_)
  rintro e u ⟨rfl, hb⟩
  have HB := Lib.hid (H.out.trans (hb.mono H.out.size))
  clear hb
  go_wp2
  go_ret
  exact ⟨rfl, HB.out⟩
theorem zsel_any (i k : Int) (w : World) : Calls Try.prog 13 #[.agg #[.int .i64 0, .slice none 0 0, .map none, .map none], .int .i64 i, .int .i64 k] w fun e w' => e = .returned (.int .i64 (-1)) ∧ Below w.heap.size w w' := by
  have HL := Lib.hid (fun u => zrank_any i 0 u)
  have H := Lib.hid (bz w)
  by_cases hk : k < 0
  · go_enter Try.func13, Try.ntmps13
    go_wp2
    go_ret
    exact ⟨rfl, H.out⟩
  · have q : (0 : Int) ≤ k := by omega
    go_enter Try.func13, Try.ntmps13
    go_wp2_with fail
    (with_reducible refine (HL.out _).mono ?_)
    rintro e u ⟨rfl, hb⟩
    have HB := Lib.hid (H.out.trans (hb.mono H.out.size))
    clear hb
    go_wp2
    go_ret
    exact ⟨rfl, HB.out⟩

variable {v : World}
theorem z_of {f : Nat} {args : Array Value} {r : Value} (hc : Calls Try.prog f args u fun e u' => e = .returned r ∧ Below u.heap.size u u') (h : ZB w b u) : Calls Try.prog f args u fun e u' => e = .returned r ∧ ZB w b u' := hc.mono fun _ _ hh => ⟨hh.1, h.kept hh.2⟩

set_option maxHeartbeats 8000000 in
theorem zero_walk (i : Int) (w : World) : Calls Try.prog 6 #[.int .i64 i] w fun e w' => e = .returned (.bool true) ∧ Below w.heap.size w w' := by
  have hA := ZB.new w
  have hund : undef = Value.tuple #[] := rfl
  go_enter Try.func6, Try.ntmps6
  go_wp2
  obtain ⟨l0, l1, l2, l3⟩ := hA.1
  generalize w.alloc (.cells #[.int .i64 0, .slice none 0 0, .map none, .map none] 34) = u at *
  generalize hbx : w.heap.size = bx at *
  go_region_held3 (fun w' => w'.cell? ⟨bx, 0, none⟩ = some (.int .i64 0) ∧ w'.cell? ⟨bx, 1, none⟩ = some (.slice none 0 0) ∧ w'.cell? ⟨bx, 2, none⟩ = some (.map none) ∧ w'.cell? ⟨bx, 3, none⟩ = some (.map none))
    (first
      | go_keep
      | (with_reducible exact hA.1))
    (first
      | (go_at_call 8; (with_reducible refine (z_of (awake_any _) hA).mono ?_); rintro e u ⟨rfl, hA⟩)
      | (go_at_call 8; (with_reducible refine (z_of (awake_any _) hA.drew).mono ?_); rintro e u ⟨rfl, hA⟩)
      | (go_at_call 15; (with_reducible refine (z_of (zlen_any _) hA).mono ?_); rintro e u ⟨rfl, hA⟩)
      | (go_at_call 16; (with_reducible refine (z_of (zsize_any _) hA).mono ?_); rintro e u ⟨rfl, hA⟩)
      | (go_at_call 17; (with_reducible refine (z_of (zcost_any _) hA).mono ?_); rintro e u ⟨rfl, hA⟩)
      | (go_at_call 12; (with_reducible refine (z_of (zrank_any _ _ _) hA).mono ?_); rintro e u ⟨rfl, hA⟩)
      | (go_at_call 18; (with_reducible refine (z_of (zlist_any _) hA).mono ?_); rintro e u ⟨rfl, hA⟩)
      | (go_at_call 19; (with_reducible refine (z_of (zcode_any _ _) hA).mono ?_); rintro e u ⟨rfl, hA⟩)
      | (go_at_call 14; (with_reducible refine (z_of (zat_any _ _) hA).mono ?_); rintro e u ⟨rfl, hA⟩)
      | (go_at_call 13; (with_reducible refine (z_of (zsel_any _ _ _) hA).mono ?_); rintro e u ⟨rfl, hA⟩))
  all_goals
    have HB := Lib.hid hA.2
    subst hbx
    clear hA
    go_wp2
    go_ret
    exact ⟨rfl, HB.out⟩

end Go.Proofs.Ytdidoecigkbffaa

/- The chapter's examples hold: the contract of awake. -/
import Derived.Test.YtfhlcclbjagdmaaKI
namespace Go.Proofs.Ytfhlcclbjagdmaa
open Go.RowKit
open M
attribute [local go_sem ↓] Go.wp_at_zero Go.wp_at_succ

variable {w u : World} {b : Nat} {R : RP}

theorem aw_r1 (h : RA w b R L4 u) : Calls Try.prog 16 #[.agg #[.int .i64 (R.n : Int), .slice R.a R.m R.c, .int .i64 (R.cn : Int), .int .i64 (R.cW : Int), .int .i64 (R.cL : Int), .slice R.a2 R.m2 R.c2], .int .i64 3] u fun e u' => e = .returned (.int .i64 2) ∧ RA w b R L4 u' := rank1_ra 3 h
theorem aw_r0 (h : RA w b R L4 u) : Calls Try.prog 17 #[.agg #[.int .i64 (R.n : Int), .slice R.a R.m R.c, .int .i64 (R.cn : Int), .int .i64 (R.cW : Int), .int .i64 (R.cL : Int), .slice R.a2 R.m2 R.c2], .int .i64 3] u fun e u' => e = .returned (.int .i64 1) ∧ RA w b R L4 u' := rank0_ra 3 h
theorem aw_s1 (h : RA w b R L4 u) : Calls Try.prog 22 #[.agg #[.int .i64 (R.n : Int), .slice R.a R.m R.c, .int .i64 (R.cn : Int), .int .i64 (R.cW : Int), .int .i64 (R.cL : Int), .slice R.a2 R.m2 R.c2], .int .i64 2] u fun e u' => e = .returned (.int .i64 3) ∧ RA w b R L4 u' :=
  (sel1_ra 2 h).mono fun _ _ hh => ⟨hh.1.trans (ret_int (by decide)), hh.2⟩
theorem aw_s0 (h : RA w b R L4 u) : Calls Try.prog 23 #[.agg #[.int .i64 (R.n : Int), .slice R.a R.m R.c, .int .i64 (R.cn : Int), .int .i64 (R.cW : Int), .int .i64 (R.cL : Int), .slice R.a2 R.m2 R.c2], .int .i64 0] u fun e u' => e = .returned (.int .i64 1) ∧ RA w b R L4 u' :=
  (sel0_ra 0 h).mono fun _ _ hh => ⟨hh.1.trans (ret_int (by decide)), hh.2⟩
theorem aw_s2 (h : RA w b R L4 u) : Calls Try.prog 23 #[.agg #[.int .i64 (R.n : Int), .slice R.a R.m R.c, .int .i64 (R.cn : Int), .int .i64 (R.cW : Int), .int .i64 (R.cL : Int), .slice R.a2 R.m2 R.c2], .int .i64 1] u fun e u' => e = .returned (.int .i64 (-1)) ∧ RA w b R L4 u' :=
  (sel0_ra 1 h).mono fun _ _ hh => ⟨hh.1.trans (ret_int (by decide)), hh.2⟩
theorem aw_nx (h : RA w b R L4 u) : Calls Try.prog 24 #[.agg #[.int .i64 (R.n : Int), .slice R.a R.m R.c, .int .i64 (R.cn : Int), .int .i64 (R.cW : Int), .int .i64 (R.cL : Int), .slice R.a2 R.m2 R.c2], .int .i64 1] u fun e u' => e = .returned (.int .i64 2) ∧ RA w b R L4 u' :=
  (next_ra 1 h).mono fun _ _ hh => ⟨hh.1.trans (ret_int (by decide)), hh.2⟩
theorem aw_pv (h : RA w b R L4 u) : Calls Try.prog 26 #[.agg #[.int .i64 (R.n : Int), .slice R.a R.m R.c, .int .i64 (R.cn : Int), .int .i64 (R.cW : Int), .int .i64 (R.cL : Int), .slice R.a2 R.m2 R.c2], .int .i64 1] u fun e u' => e = .returned (.int .i64 0) ∧ RA w b R L4 u' :=
  (prev_ra 1 (by decide) h).mono fun _ _ hh => ⟨hh.1.trans (ret_int (by decide)), hh.2⟩

theorem new4 (a : Option Addr) (w : World) (h : RowAt w (.slice a 1 1) L4) : Calls Try.prog 12 #[.agg #[.int .i64 4, .slice a 1 1]] w (NewEnd w a 1 1 L4) := by
  have := rnew_any a 1 1 L4 w h (by decide)
  rw [show ((L4.length : Nat) : Int) = 4 from rfl] at this
  exact this

set_option maxRecDepth 100000 in
set_option maxHeartbeats 400000 in
theorem awake_any (w : World) : Calls Try.prog 9 #[] w fun e w' => e = .returned (.bool true) ∧ Below w.heap.size w w' := by
  have hmk := make4 w.heap.size (w.alloc (.cells #[.bool true, .bool false, .bool true, .bool true] 4)) (by
    intro j hj
    rw [cell_new _ _ _ _ _ rfl]
    match j, hj with
    | 0, _ => rfl
    | 1, _ => rfl
    | 2, _ => rfl
    | 3, _ => rfl) (by simp)
  have HMK := Lib.hid hmk
  clear hmk
  go_enter Try.func9, Try.ntmps9
  go_wp2_with fail
  refine HMK.out.mono ?_
  rintro e w1 ⟨rfl, hrow, hb1⟩
  simp only [World.size_alloc] at hrow
  have hb : Below w.heap.size w w1 := ((Below.refl _ _).alloc (Nat.le_refl _) _).trans (hb1.mono (by simp))
  have HN := Lib.hid (new4 _ w1 hrow)
  have HB := Lib.hid hb
  clear hrow hb hb1 HMK
  go_wp2_with fail
  refine HN.out.mono ?_
  rintro e w2 ⟨R, rfl, hrk, -, hb2⟩
  have hb : Below w.heap.size w w2 := HB.out.trans (hb2.mono HB.out.size)
  have hA0 := RA.new hrk
  have hA : RA w w2.heap.size R L4 (w2.alloc (.cells #[.int .i64 (R.n : Int), .slice R.a R.m R.c, .int .i64 (R.cn : Int), .int .i64 (R.cW : Int), .int .i64 (R.cL : Int), .slice R.a2 R.m2 R.c2] 35)) := ⟨hA0.box, hA0.rk, hb.trans (hA0.bel.mono hb.size)⟩
  clear hA0 hrk hb hb2 HN HB
  have HA := Lib.hid hA
  clear hA
  go_wp2_with fail
  generalize w2.heap.size = bx at *
  refine (aw_r1 HA.out).mono ?_
  rintro e u0 ⟨rfl, hA⟩
  obtain ⟨l0, l1, l2, l3, l4, l5⟩ := hA.box
  have HA0 := Lib.hid hA
  clear hA HA
  go_wp2_with fail
  clear l0 l1 l2 l3 l4 l5
  refine (aw_r0 HA0.out).mono ?_
  rintro e u1 ⟨rfl, hA⟩
  obtain ⟨l0, l1, l2, l3, l4, l5⟩ := hA.box
  have HA1 := Lib.hid hA
  clear hA HA0
  go_wp2_with fail
  clear l0 l1 l2 l3 l4 l5
  refine (aw_s1 HA1.out).mono ?_
  rintro e u2 ⟨rfl, hA⟩
  obtain ⟨l0, l1, l2, l3, l4, l5⟩ := hA.box
  have HA2 := Lib.hid hA
  clear hA HA1
  go_wp2_with fail
  clear l0 l1 l2 l3 l4 l5
  refine (aw_s0 HA2.out).mono ?_
  rintro e u3 ⟨rfl, hA⟩
  obtain ⟨l0, l1, l2, l3, l4, l5⟩ := hA.box
  have HA3 := Lib.hid hA
  clear hA HA2
  go_wp2_with fail
  clear l0 l1 l2 l3 l4 l5
  refine (aw_s2 HA3.out).mono ?_
  rintro e u4 ⟨rfl, hA⟩
  obtain ⟨l0, l1, l2, l3, l4, l5⟩ := hA.box
  have HA4 := Lib.hid hA
  clear hA HA3
  go_wp2_with fail
  clear l0 l1 l2 l3 l4 l5
  refine (aw_nx HA4.out).mono ?_
  rintro e u5 ⟨rfl, hA⟩
  obtain ⟨l0, l1, l2, l3, l4, l5⟩ := hA.box
  have HA5 := Lib.hid hA
  clear hA HA4
  go_wp2_with fail
  clear l0 l1 l2 l3 l4 l5
  refine (aw_pv HA5.out).mono ?_
  rintro e u6 ⟨rfl, hA⟩
  have HB := Lib.hid hA.bel
  clear hA
  go_wp2
  go_ret
  exact ⟨rfl, HB.out⟩

end Go.Proofs.Ytfhlcclbjagdmaa

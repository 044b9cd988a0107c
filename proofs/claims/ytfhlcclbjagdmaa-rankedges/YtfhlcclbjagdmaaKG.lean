/- The contracts of Select1, Select0, Next1, Prev1 of ranks. -/
import Derived.Test.YtfhlcclbjagdmaaKF
namespace Go.Proofs.Ytfhlcclbjagdmaa
open Go.RowKit
open M
attribute [local go_sem ↓] Go.wp_at_zero Go.wp_at_succ

theorem sel1_any (R : RP) (l : List Bool) (k : Int) (w : World) (h : RK w R l) :
    Calls Try.prog 22 #[.agg #[.int .i64 (R.n : Int), .slice R.a R.m R.c, .int .i64 (R.cn : Int), .int .i64 (R.cW : Int), .int .i64 (R.cL : Int), .slice R.a2 R.m2 R.c2], .int .i64 k] w fun e w' => e = .returned (.int .i64 (selN true l k)) ∧ Below w.heap.size w w' := by
  have hf := find_16 R l k _ (h.kept (rbel w R))
  have HF := Lib.hid hf
  clear hf h
  go_enter Try.func22, Try.ntmps22
  go_wp2_with fail
  refine HF.out.mono ?_
  rintro e w' ⟨rfl, hb⟩
  have HB := Lib.hid ((rbel w R).trans (hb.mono (rbel w R).size))
  clear hb HF
  go_wp2
  go_ret
  exact ⟨rfl, HB.out⟩
theorem sel1_ra {w u : World} {b : Nat} {R : RP} {l : List Bool} (k : Int) (h : RA w b R l u) :
    Calls Try.prog 22 #[.agg #[.int .i64 (R.n : Int), .slice R.a R.m R.c, .int .i64 (R.cn : Int), .int .i64 (R.cW : Int), .int .i64 (R.cL : Int), .slice R.a2 R.m2 R.c2], .int .i64 k] u fun e u' => e = .returned (.int .i64 (selN true l k)) ∧ RA w b R l u' :=
  (sel1_any R l k u h.rk).mono fun _ _ hh => ⟨hh.1, h.kept hh.2⟩

theorem sel0_any (R : RP) (l : List Bool) (k : Int) (w : World) (h : RK w R l) :
    Calls Try.prog 23 #[.agg #[.int .i64 (R.n : Int), .slice R.a R.m R.c, .int .i64 (R.cn : Int), .int .i64 (R.cW : Int), .int .i64 (R.cL : Int), .slice R.a2 R.m2 R.c2], .int .i64 k] w fun e w' => e = .returned (.int .i64 (selN false l k)) ∧ Below w.heap.size w w' := by
  have hf := find_17 R l k _ (h.kept (rbel w R))
  have HF := Lib.hid hf
  clear hf h
  go_enter Try.func23, Try.ntmps23
  go_wp2_with fail
  refine HF.out.mono ?_
  rintro e w' ⟨rfl, hb⟩
  have HB := Lib.hid ((rbel w R).trans (hb.mono (rbel w R).size))
  clear hb HF
  go_wp2
  go_ret
  exact ⟨rfl, HB.out⟩
theorem sel0_ra {w u : World} {b : Nat} {R : RP} {l : List Bool} (k : Int) (h : RA w b R l u) :
    Calls Try.prog 23 #[.agg #[.int .i64 (R.n : Int), .slice R.a R.m R.c, .int .i64 (R.cn : Int), .int .i64 (R.cW : Int), .int .i64 (R.cL : Int), .slice R.a2 R.m2 R.c2], .int .i64 k] u fun e u' => e = .returned (.int .i64 (selN false l k)) ∧ RA w b R l u' :=
  (sel0_any R l k u h.rk).mono fun _ _ hh => ⟨hh.1, h.kept hh.2⟩

/-- The first place from i on whose bit is 1; the last one up to i. -/
def nextN (l : List Bool) (i : Int) : Int := selN true l (rk1 l i : Nat)
def prevN (l : List Bool) (i : Int) : Int := selN true l ((rk1 l (min i ((l.length : Int) - 1) + 1) : Int) - 1)

set_option maxHeartbeats 1000000 in
theorem next_any (R : RP) (l : List Bool) (i : Int) (w : World) (h : RK w R l) :
    Calls Try.prog 24 #[.agg #[.int .i64 (R.n : Int), .slice R.a R.m R.c, .int .i64 (R.cn : Int), .int .i64 (R.cW : Int), .int .i64 (R.cL : Int), .slice R.a2 R.m2 R.c2], .int .i64 i] w fun e w' => e = .returned (.int .i64 (nextN l i)) ∧ Below w.heap.size w w' := by
  have hA := RA.new h
  unfold nextN
  clear h
  go_enter Try.func24, Try.ntmps24
  go_wp2
  obtain ⟨l0, l1, l2, l3, l4, l5⟩ := hA.box
  generalize w.alloc (.cells #[.int .i64 (R.n : Int), .slice R.a R.m R.c, .int .i64 (R.cn : Int), .int .i64 (R.cW : Int), .int .i64 (R.cL : Int), .slice R.a2 R.m2 R.c2] 35) = u at *
  generalize hbx : w.heap.size = bx at *
  go_region_held3 (fun w' => w'.cell? ⟨bx, 0, none⟩ = some (.int .i64 (R.n : Int)) ∧ w'.cell? ⟨bx, 1, none⟩ = some (.slice R.a R.m R.c) ∧ w'.cell? ⟨bx, 2, none⟩ = some (.int .i64 (R.cn : Int)) ∧ w'.cell? ⟨bx, 3, none⟩ = some (.int .i64 (R.cW : Int)) ∧ w'.cell? ⟨bx, 4, none⟩ = some (.int .i64 (R.cL : Int)) ∧ w'.cell? ⟨bx, 5, none⟩ = some (.slice R.a2 R.m2 R.c2))
    (first
      | go_keep
      | exact ⟨hA.box.c0, hA.box.c1, hA.box.c2, hA.box.c3, hA.box.c4, hA.box.c5⟩)
    (first
      | (go_at_call 16; (with_reducible refine (rank1_ra _ hA).mono ?_); rintro e u ⟨rfl, hA⟩)
      | (go_at_call 16; (with_reducible refine (rank1_ra _ hA.drew).mono ?_); rintro e u ⟨rfl, hA⟩)
      | (go_at_call 22; (with_reducible refine (sel1_ra _ hA).mono ?_); rintro e u ⟨rfl, hA⟩))
  all_goals
    have HB := Lib.hid hA.bel
    subst hbx
    clear hA
    go_wp2
    go_ret
    exact ⟨rfl, HB.out⟩

set_option maxHeartbeats 1000000 in
theorem prev_any (R : RP) (l : List Bool) (i : Int) (w : World) (h : RK w R l) (hi : -9223372036854775808 ≤ i) :
    Calls Try.prog 26 #[.agg #[.int .i64 (R.n : Int), .slice R.a R.m R.c, .int .i64 (R.cn : Int), .int .i64 (R.cW : Int), .int .i64 (R.cL : Int), .slice R.a2 R.m2 R.c2], .int .i64 i] w fun e w' => e = .returned (.int .i64 (prevN l i)) ∧ Below w.heap.size w w' := by
  have hA := RA.new h
  have hs := h.small
  have hlen := h.len
  unfold prevN
  rw [hlen]
  obtain ⟨y, hy⟩ : ∃ y : Int, y = min i ((R.n : Int) - 1) + 1 := ⟨_, rfl⟩
  rw [← hy]
  have hle := rk1_le l y
  rw [hlen] at hle
  have q1 : IntKind.i64.wrap ((rk1 l y : Nat) - (1 : Int)) = (rk1 l y : Nat) - (1 : Int) := IntWalk.i64_in _ (by omega)
  have HY := Lib.hid hy
  clear h hy hlen
  go_enter Try.func26, Try.ntmps26
  obtain ⟨l0, l1, l2, l3, l4, l5⟩ := hA.box
  go_wp2_with fail
  clear l0 l1 l2 l3 l4 l5
  refine (rlen_ra hA).mono ?_
  clear hA
  rintro e u ⟨rfl, hA⟩
  generalize hbx : w.heap.size = bx at *
  have hc : ∀ z : Int, z = (if i ≤ (R.n : Int) - 1 then i else (R.n : Int) - 1) + 1 → z = y := by
    intro z hz; rw [hz, HY.out]; split <;> omega
  have HC := Lib.hid hc
  clear hc HY
  by_cases hcmp : i ≤ (R.n : Int) - 1
  · have hyv : y = i + 1 := by rw [← HC.out _ rfl, if_pos hcmp]
    subst hyv
    obtain ⟨l0, l1, l2, l3, l4, l5⟩ := hA.box
    go_wp2
    go_region_held3 (fun w' => w'.cell? ⟨bx, 0, none⟩ = some (.int .i64 (R.n : Int)) ∧ w'.cell? ⟨bx, 1, none⟩ = some (.slice R.a R.m R.c) ∧ w'.cell? ⟨bx, 2, none⟩ = some (.int .i64 (R.cn : Int)) ∧ w'.cell? ⟨bx, 3, none⟩ = some (.int .i64 (R.cW : Int)) ∧ w'.cell? ⟨bx, 4, none⟩ = some (.int .i64 (R.cL : Int)) ∧ w'.cell? ⟨bx, 5, none⟩ = some (.slice R.a2 R.m2 R.c2))
      (first
        | go_keep
        | exact ⟨hA.box.c0, hA.box.c1, hA.box.c2, hA.box.c3, hA.box.c4, hA.box.c5⟩)
      (first
        | (go_at_call 16; (with_reducible refine (rank1_ra _ hA).mono ?_); rintro e u ⟨rfl, hA⟩)
        | (go_at_call 16; (with_reducible refine (rank1_ra _ hA.drew).mono ?_); rintro e u ⟨rfl, hA⟩)
        | (go_at_call 22; (with_reducible refine (sel1_ra _ hA).mono ?_); rintro e u ⟨rfl, hA⟩))
    all_goals
      have HB := Lib.hid hA.bel
      subst hbx
      clear hA
      go_wp2
      go_ret
      exact ⟨rfl, HB.out⟩
  · have hyv : y = (R.n : Int) - 1 + 1 := by rw [← HC.out _ rfl, if_neg hcmp]
    rw [show (R.n : Int) - 1 + 1 = (R.n : Int) by omega] at hyv
    subst hyv
    obtain ⟨l0, l1, l2, l3, l4, l5⟩ := hA.box
    go_wp2
    go_region_held3 (fun w' => w'.cell? ⟨bx, 0, none⟩ = some (.int .i64 (R.n : Int)) ∧ w'.cell? ⟨bx, 1, none⟩ = some (.slice R.a R.m R.c) ∧ w'.cell? ⟨bx, 2, none⟩ = some (.int .i64 (R.cn : Int)) ∧ w'.cell? ⟨bx, 3, none⟩ = some (.int .i64 (R.cW : Int)) ∧ w'.cell? ⟨bx, 4, none⟩ = some (.int .i64 (R.cL : Int)) ∧ w'.cell? ⟨bx, 5, none⟩ = some (.slice R.a2 R.m2 R.c2))
      (first
        | go_keep
        | exact ⟨hA.box.c0, hA.box.c1, hA.box.c2, hA.box.c3, hA.box.c4, hA.box.c5⟩)
      (first
        | (go_at_call 16; (with_reducible refine (rank1_ra _ hA).mono ?_); rintro e u ⟨rfl, hA⟩)
        | (go_at_call 16; (with_reducible refine (rank1_ra _ hA.drew).mono ?_); rintro e u ⟨rfl, hA⟩)
        | (go_at_call 22; (with_reducible refine (sel1_ra _ hA).mono ?_); rintro e u ⟨rfl, hA⟩))
    all_goals
      have HB := Lib.hid hA.bel
      subst hbx
      clear hA
      go_wp2
      go_ret
      exact ⟨rfl, HB.out⟩

theorem next_ra {w u : World} {b : Nat} {R : RP} {l : List Bool} (i : Int) (h : RA w b R l u) :
    Calls Try.prog 24 #[.agg #[.int .i64 (R.n : Int), .slice R.a R.m R.c, .int .i64 (R.cn : Int), .int .i64 (R.cW : Int), .int .i64 (R.cL : Int), .slice R.a2 R.m2 R.c2], .int .i64 i] u fun e u' => e = .returned (.int .i64 (nextN l i)) ∧ RA w b R l u' :=
  (next_any R l i u h.rk).mono fun _ _ hh => ⟨hh.1, h.kept hh.2⟩
theorem prev_ra {w u : World} {b : Nat} {R : RP} {l : List Bool} (i : Int) (hi : -9223372036854775808 ≤ i) (h : RA w b R l u) :
    Calls Try.prog 26 #[.agg #[.int .i64 (R.n : Int), .slice R.a R.m R.c, .int .i64 (R.cn : Int), .int .i64 (R.cW : Int), .int .i64 (R.cL : Int), .slice R.a2 R.m2 R.c2], .int .i64 i] u fun e u' => e = .returned (.int .i64 (prevN l i)) ∧ RA w b R l u' :=
  (prev_any R l i u h.rk hi).mono fun _ _ hh => ⟨hh.1, h.kept hh.2⟩

end Go.Proofs.Ytfhlcclbjagdmaa

/- A rank in memory; the contracts of Len, One, Bits, keep. -/
import Derived.Test.YtfhlcclbjagdmaaKA
namespace Go.Proofs.Ytfhlcclbjagdmaa
open Go.RowKit
open M
attribute [local go_sem ↓] Go.wp_at_zero Go.wp_at_succ

/-- What a rank is made of. -/
structure RP where
  n : Nat
  a : Option Addr
  m : Nat
  c : Nat
  cn : Nat
  cW : Nat
  cL : Nat
  a2 : Option Addr
  m2 : Nat
  c2 : Nat

/-- The ones ahead of each border of blocks. -/
def ahd (l : List Bool) : List Int := (List.range (l.length / 256 + 1)).map fun j => (rkN true l (j * 256) : Int)

/-- The rank of the bits l in memory. -/
structure RK (w : World) (R : RP) (l : List Bool) : Prop where
  row : RowAt w (.slice R.a R.m R.c) l
  len : l.length = R.n
  small : R.n ≤ 1000000000
  cnts : (R.cn = 0 ∧ l = []) ∨ IRow w R.cn R.cW R.cL R.a2 R.m2 R.c2 (ahd l)

theorem RK.kept {w w' : World} {R : RP} {l : List Bool} (h : RK w R l) (hb : Below w.heap.size w w') : RK w' R l :=
  { h with row := h.row.kept hb, cnts := h.cnts.imp id fun x => x.kept hb }

/-- The six cells of a boxed rank. -/
structure RBx (w : World) (b : Nat) (R : RP) : Prop where
  c0 : w.cell? ⟨b, 0, none⟩ = some (.int .i64 (R.n : Int))
  c1 : w.cell? ⟨b, 1, none⟩ = some (.slice R.a R.m R.c)
  c2 : w.cell? ⟨b, 2, none⟩ = some (.int .i64 (R.cn : Int))
  c3 : w.cell? ⟨b, 3, none⟩ = some (.int .i64 (R.cW : Int))
  c4 : w.cell? ⟨b, 4, none⟩ = some (.int .i64 (R.cL : Int))
  c5 : w.cell? ⟨b, 5, none⟩ = some (.slice R.a2 R.m2 R.c2)
theorem RBx.lt {w : World} {b : Nat} {R : RP} (h : RBx w b R) : b < w.heap.size := World.block_lt_of_cell? w _ h.c0
theorem RBx.kept {w w' : World} {b : Nat} {R : RP} (h : RBx w b R) (hb : Below w.heap.size w w') : RBx w' b R :=
  ⟨by rw [hb.cell (p := ⟨b, 0, none⟩) h.lt]; exact h.c0, by rw [hb.cell (p := ⟨b, 1, none⟩) h.lt]; exact h.c1, by rw [hb.cell (p := ⟨b, 2, none⟩) h.lt]; exact h.c2,
   by rw [hb.cell (p := ⟨b, 3, none⟩) h.lt]; exact h.c3, by rw [hb.cell (p := ⟨b, 4, none⟩) h.lt]; exact h.c4, by rw [hb.cell (p := ⟨b, 5, none⟩) h.lt]; exact h.c5⟩
theorem RBx.new (w : World) (R : RP) : RBx (w.alloc (.cells #[.int .i64 (R.n : Int), .slice R.a R.m R.c, .int .i64 (R.cn : Int), .int .i64 (R.cW : Int), .int .i64 (R.cL : Int), .slice R.a2 R.m2 R.c2] 35)) w.heap.size R := ⟨by simp, by simp, by simp, by simp, by simp, by simp⟩

theorem rbel (w : World) (R : RP) : Below w.heap.size w (w.alloc (.cells #[.int .i64 (R.n : Int), .slice R.a R.m R.c, .int .i64 (R.cn : Int), .int .i64 (R.cW : Int), .int .i64 (R.cL : Int), .slice R.a2 R.m2 R.c2] 35)) := (Below.refl _ _).alloc (Nat.le_refl _) _

/-- The boxed rank at b, in a call that began at w. -/
structure RA (w : World) (b : Nat) (R : RP) (l : List Bool) (u : World) : Prop where
  box : RBx u b R
  rk : RK u R l
  bel : Below w.heap.size w u

theorem RA.kept {w u u' : World} {b : Nat} {R : RP} {l : List Bool} (h : RA w b R l u) (hb : Below u.heap.size u u') : RA w b R l u' :=
  ⟨h.box.kept hb, h.rk.kept hb, h.bel.trans (hb.mono h.bel.size)⟩
theorem RA.drew {w u : World} {b : Nat} {R : RP} {l : List Bool} (h : RA w b R l u) : RA w b R l u.drew := h.kept ((Below.refl _ _).drew)
theorem RA.new {w : World} {R : RP} {l : List Bool} (h : RK w R l) : RA w w.heap.size R l (w.alloc (.cells #[.int .i64 (R.n : Int), .slice R.a R.m R.c, .int .i64 (R.cn : Int), .int .i64 (R.cW : Int), .int .i64 (R.cL : Int), .slice R.a2 R.m2 R.c2] 35)) :=
  ⟨RBx.new w R, h.kept (rbel w R), rbel w R⟩

theorem below_drewN {B : Nat} {w u : World} (h : Below B w u) (n : Nat) : Below B w (u.drewN n) :=
  ⟨h.os, h.tape, h.output, h.size, h.block⟩

theorem blen_rk {w : World} {R : RP} {l : List Bool} (h : RK w R l) :
    Calls Try.prog 29 #[.agg #[.int .i64 (R.n : Int), .slice R.a R.m R.c]] w fun e w' => e = .returned (.int .i64 (R.n : Int)) ∧ Below w.heap.size w w' := by
  have := len_any _ l w h.row
  rw [h.len] at this
  exact this

theorem rlen_any (R : RP) (l : List Bool) (w : World) (h : RK w R l) :
    Calls Try.prog 13 #[.agg #[.int .i64 (R.n : Int), .slice R.a R.m R.c, .int .i64 (R.cn : Int), .int .i64 (R.cW : Int), .int .i64 (R.cL : Int), .slice R.a2 R.m2 R.c2]] w fun e w' => e = .returned (.int .i64 (R.n : Int)) ∧ Below w.heap.size w w' := by
  have HF := Lib.hid (blen_rk (h.kept (rbel w R)))
  clear h
  go_enter Try.func13, Try.ntmps13
  go_wp2_with fail
  refine HF.out.mono ?_
  rintro e w' ⟨rfl, hb⟩
  have HB := Lib.hid ((rbel w R).trans (hb.mono (rbel w R).size))
  clear hb HF
  go_wp2
  go_ret
  exact ⟨rfl, HB.out⟩
theorem rlen_ra {w u : World} {b : Nat} {R : RP} {l : List Bool} (h : RA w b R l u) :
    Calls Try.prog 13 #[.agg #[.int .i64 (R.n : Int), .slice R.a R.m R.c, .int .i64 (R.cn : Int), .int .i64 (R.cW : Int), .int .i64 (R.cL : Int), .slice R.a2 R.m2 R.c2]] u fun e u' => e = .returned (.int .i64 (R.n : Int)) ∧ RA w b R l u' :=
  (rlen_any R l u h.rk).mono fun _ _ hh => ⟨hh.1, h.kept hh.2⟩

theorem bone_rk {w : World} {R : RP} {l : List Bool} (i : Int) (h : RK w R l) :
    Calls Try.prog 34 #[.agg #[.int .i64 (R.n : Int), .slice R.a R.m R.c], .int .i64 i] w fun e w' => e = .returned (.int .i64 (oneI l i)) ∧ Below w.heap.size w w' := by
  have := one_any _ l i w h.row (by rw [h.len]; exact h.small)
  rw [h.len] at this
  exact this

theorem rone_any (R : RP) (l : List Bool) (i : Int) (w : World) (h : RK w R l) :
    Calls Try.prog 18 #[.agg #[.int .i64 (R.n : Int), .slice R.a R.m R.c, .int .i64 (R.cn : Int), .int .i64 (R.cW : Int), .int .i64 (R.cL : Int), .slice R.a2 R.m2 R.c2], .int .i64 i] w fun e w' => e = .returned (.int .i64 (oneI l i)) ∧ Below w.heap.size w w' := by
  have HF := Lib.hid (bone_rk i (h.kept (rbel w R)))
  clear h
  go_enter Try.func18, Try.ntmps18
  go_wp2_with fail
  refine HF.out.mono ?_
  rintro e w' ⟨rfl, hb⟩
  have HB := Lib.hid ((rbel w R).trans (hb.mono (rbel w R).size))
  clear hb HF
  go_wp2
  go_ret
  exact ⟨rfl, HB.out⟩
theorem rone_ra {w u : World} {b : Nat} {R : RP} {l : List Bool} (i : Int) (h : RA w b R l u) :
    Calls Try.prog 18 #[.agg #[.int .i64 (R.n : Int), .slice R.a R.m R.c, .int .i64 (R.cn : Int), .int .i64 (R.cW : Int), .int .i64 (R.cL : Int), .slice R.a2 R.m2 R.c2], .int .i64 i] u fun e u' => e = .returned (.int .i64 (oneI l i)) ∧ RA w b R l u' :=
  (rone_any R l i u h.rk).mono fun _ _ hh => ⟨hh.1, h.kept hh.2⟩

theorem rbits_any (R : RP) (w : World) :
    Calls Try.prog 19 #[.agg #[.int .i64 (R.n : Int), .slice R.a R.m R.c, .int .i64 (R.cn : Int), .int .i64 (R.cW : Int), .int .i64 (R.cL : Int), .slice R.a2 R.m2 R.c2]] w fun e w' => e = .returned (.agg #[.int .i64 (R.n : Int), .slice R.a R.m R.c]) ∧ Below w.heap.size w w' := by
  go_enter Try.func19, Try.ntmps19
  go_wp2
  refine bodyPost_ret (v := .agg #[.int .i64 (R.n : Int), .slice R.a R.m R.c]) (by simp [results, Try.results19, go_sem]) rfl ?_
  exact ⟨rfl, ((Below.refl _ _).alloc (Nat.le_refl _) _).alloc (by simp) _⟩

set_option maxHeartbeats 1000000 in
theorem keep_any (R : RP) (l : List Bool) (i : Int) (w : World) (h : RK w R l) :
    Calls Try.prog 32 #[.agg #[.int .i64 (R.n : Int), .slice R.a R.m R.c, .int .i64 (R.cn : Int), .int .i64 (R.cW : Int), .int .i64 (R.cL : Int), .slice R.a2 R.m2 R.c2], .int .i64 i] w fun e w' => e = .returned (.int .i64 (lo R.n i : Nat)) ∧ Below w.heap.size w w' := by
  have HF := Lib.hid (rlen_ra (RA.new h))
  clear h
  go_enter Try.func32, Try.ntmps32
  go_wp2_with fail
  all_goals
    refine HF.out.mono ?_
    rintro e w' ⟨rfl, hA⟩
    have HB := Lib.hid hA.bel
    clear hA HF
    go_wp2
    all_goals
      go_ret
      exact ⟨ret_int (by unfold lo; omega), HB.out⟩
theorem keep_ra {w u : World} {b : Nat} {R : RP} {l : List Bool} (i : Int) (h : RA w b R l u) :
    Calls Try.prog 32 #[.agg #[.int .i64 (R.n : Int), .slice R.a R.m R.c, .int .i64 (R.cn : Int), .int .i64 (R.cW : Int), .int .i64 (R.cL : Int), .slice R.a2 R.m2 R.c2], .int .i64 i] u fun e u' => e = .returned (.int .i64 (lo R.n i : Nat)) ∧ RA w b R l u' :=
  (keep_any R l i u h.rk).mono fun _ _ hh => ⟨hh.1, h.kept hh.2⟩

end Go.Proofs.Ytfhlcclbjagdmaa

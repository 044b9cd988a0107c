/- What find holds, and the contract of the closure that it hands on. -/
import Derived.Test.YtfhlcclbjagdmaaKD
namespace Go.Proofs.Ytfhlcclbjagdmaa
open Go.RowKit
open M
attribute [local go_sem ↓] Go.wp_at_zero Go.wp_at_succ

/-- The boxed rank at b, k at kb, the counting function at fb. -/
structure FA (w : World) (b : Nat) (R : RP) (l : List Bool) (kb fb : Nat) (k : Int) (fv : Value) (u : World) : Prop where
  ra : RA w b R l u
  kc : u.cell? ⟨kb, 0, none⟩ = some (.int .i64 k)
  fc : u.cell? ⟨fb, 0, none⟩ = some fv

theorem FA.kept {w u u' : World} {b kb fb : Nat} {R : RP} {l : List Bool} {k : Int} {fv : Value} (h : FA w b R l kb fb k fv u) (hb : Below u.heap.size u u') : FA w b R l kb fb k fv u' :=
  ⟨h.ra.kept hb, by rw [hb.cell (p := ⟨kb, 0, none⟩) (World.block_lt_of_cell? u _ h.kc)]; exact h.kc, by rw [hb.cell (p := ⟨fb, 0, none⟩) (World.block_lt_of_cell? u _ h.fc)]; exact h.fc⟩
theorem FA.drew {w u : World} {b kb fb : Nat} {R : RP} {l : List Bool} {k : Int} {fv : Value} (h : FA w b R l kb fb k fv u) : FA w b R l kb fb k fv u.drew := h.kept ((Below.refl _ _).drew)

theorem rlen_fa {w u : World} {b kb fb : Nat} {R : RP} {l : List Bool} {k : Int} {fv : Value} (h : FA w b R l kb fb k fv u) :
    Calls Try.prog 13 #[.agg #[.int .i64 (R.n : Int), .slice R.a R.m R.c, .int .i64 (R.cn : Int), .int .i64 (R.cW : Int), .int .i64 (R.cL : Int), .slice R.a2 R.m2 R.c2]] u fun e u' => e = .returned (.int .i64 (R.n : Int)) ∧ FA w b R l kb fb k fv u' :=
  (rlen_any R l u h.ra.rk).mono fun _ _ hh => ⟨hh.1, h.kept hh.2⟩
theorem rank1_fa {w u : World} {b kb fb : Nat} {R : RP} {l : List Bool} {k : Int} {fv : Value} (i : Int) (h : FA w b R l kb fb k fv u) :
    Calls Try.prog 16 #[.agg #[.int .i64 (R.n : Int), .slice R.a R.m R.c, .int .i64 (R.cn : Int), .int .i64 (R.cW : Int), .int .i64 (R.cL : Int), .slice R.a2 R.m2 R.c2], .int .i64 i] u fun e u' => e = .returned (.int .i64 (rk1 l i : Nat)) ∧ FA w b R l kb fb k fv u' :=
  (rank1_any R l i u h.ra.rk).mono fun _ _ hh => ⟨hh.1, h.kept hh.2⟩
theorem rank0_fa {w u : World} {b kb fb : Nat} {R : RP} {l : List Bool} {k : Int} {fv : Value} (i : Int) (h : FA w b R l kb fb k fv u) :
    Calls Try.prog 17 #[.agg #[.int .i64 (R.n : Int), .slice R.a R.m R.c, .int .i64 (R.cn : Int), .int .i64 (R.cW : Int), .int .i64 (R.cL : Int), .slice R.a2 R.m2 R.c2], .int .i64 i] u fun e u' => e = .returned (.int .i64 (rk0 l i : Nat)) ∧ FA w b R l kb fb k fv u' :=
  (rank0_any R l i u h.ra.rk).mono fun _ _ hh => ⟨hh.1, h.kept hh.2⟩

set_option maxHeartbeats 1000000 in
theorem find1_16 {w u : World} {b kb fb : Nat} {R : RP} {l : List Bool} {k : Int} (i : Nat) (x : Int) (hA : FA w b R l kb fb k (.func (.func 16) #[.agg #[.int .i64 (R.n : Int), .slice R.a R.m R.c, .int .i64 (R.cn : Int), .int .i64 (R.cW : Int), .int .i64 (R.cL : Int), .slice R.a2 R.m2 R.c2]] #[]) u) (hi : i < R.n) (hx : x = (i : Int)) :
    Calls Try.prog 47 (#[.int .i64 x] ++ #[.pointer (some ⟨fb, 0, none⟩), .pointer (some ⟨kb, 0, none⟩)]) u fun e u' => e = .returned (.bool (decide (k < (rkN true l (i + 1) : Int)))) ∧ FA w b R l kb fb k (.func (.func 16) #[.agg #[.int .i64 (R.n : Int), .slice R.a R.m R.c, .int .i64 (R.cn : Int), .int .i64 (R.cW : Int), .int .i64 (R.cL : Int), .slice R.a2 R.m2 R.c2]] #[]) u' := by
  subst hx
  have hs := hA.ra.rk.small
  have hlen := hA.ra.rk.len
  have hc := fun u (hu : FA w b R l kb fb k (.func (.func 16) #[.agg #[.int .i64 (R.n : Int), .slice R.a R.m R.c, .int .i64 (R.cn : Int), .int .i64 (R.cW : Int), .int .i64 (R.cL : Int), .slice R.a2 R.m2 R.c2]] #[]) u) => rank1_fa ((i : Int) + 1) hu
  rw [show ((i : Int) + 1) = ((i + 1 : Nat) : Int) by omega, rk1_at l (i + 1) (by omega)] at hc
  have HC := Lib.hid hc
  have q1 : IntKind.i64.wrap ((i : Int) + 1) = ((i + 1 : Nat) : Int) := by rw [IntWalk.i64_in _ (by omega)]; omega
  clear hc hlen
  generalize rkN true l (i + 1) = z at *
  generalize i + 1 = i1 at *
  have hk1 := hA.kc
  have hk2 := hA.fc
  go_enter Try.func47, Try.ntmps47
  go_wp2
  go_region_held3 (fun w' => w'.cell? ⟨kb, 0, none⟩ = some (.int .i64 k) ∧ w'.cell? ⟨fb, 0, none⟩ = some (.func (.func 16) #[.agg #[.int .i64 (R.n : Int), .slice R.a R.m R.c, .int .i64 (R.cn : Int), .int .i64 (R.cW : Int), .int .i64 (R.cL : Int), .slice R.a2 R.m2 R.c2]] #[]))
    (first
      | go_keep
      | exact ⟨hA.kc, hA.fc⟩)
    (first
      | (go_at_call 16; (with_reducible refine (HC.out _ hA).mono ?_); rintro e u ⟨rfl, hA⟩)
      | (go_at_call 16; (with_reducible refine (HC.out _ hA.drew).mono ?_); rintro e u ⟨rfl, hA⟩))
  all_goals
    have HB := Lib.hid hA
    clear hA q1 hk1 hk2
    go_wp2
    go_ret
    exact ⟨rfl, HB.out⟩

set_option maxHeartbeats 1000000 in
theorem find1_17 {w u : World} {b kb fb : Nat} {R : RP} {l : List Bool} {k : Int} (i : Nat) (x : Int) (hA : FA w b R l kb fb k (.func (.func 17) #[.agg #[.int .i64 (R.n : Int), .slice R.a R.m R.c, .int .i64 (R.cn : Int), .int .i64 (R.cW : Int), .int .i64 (R.cL : Int), .slice R.a2 R.m2 R.c2]] #[]) u) (hi : i < R.n) (hx : x = (i : Int)) :
    Calls Try.prog 47 (#[.int .i64 x] ++ #[.pointer (some ⟨fb, 0, none⟩), .pointer (some ⟨kb, 0, none⟩)]) u fun e u' => e = .returned (.bool (decide (k < (rkN false l (i + 1) : Int)))) ∧ FA w b R l kb fb k (.func (.func 17) #[.agg #[.int .i64 (R.n : Int), .slice R.a R.m R.c, .int .i64 (R.cn : Int), .int .i64 (R.cW : Int), .int .i64 (R.cL : Int), .slice R.a2 R.m2 R.c2]] #[]) u' := by
  subst hx
  have hs := hA.ra.rk.small
  have hlen := hA.ra.rk.len
  have hc := fun u (hu : FA w b R l kb fb k (.func (.func 17) #[.agg #[.int .i64 (R.n : Int), .slice R.a R.m R.c, .int .i64 (R.cn : Int), .int .i64 (R.cW : Int), .int .i64 (R.cL : Int), .slice R.a2 R.m2 R.c2]] #[]) u) => rank0_fa ((i : Int) + 1) hu
  rw [show ((i : Int) + 1) = ((i + 1 : Nat) : Int) by omega, rk0_at l (i + 1) (by omega)] at hc
  have HC := Lib.hid hc
  have q1 : IntKind.i64.wrap ((i : Int) + 1) = ((i + 1 : Nat) : Int) := by rw [IntWalk.i64_in _ (by omega)]; omega
  clear hc hlen
  generalize rkN false l (i + 1) = z at *
  generalize i + 1 = i1 at *
  have hk1 := hA.kc
  have hk2 := hA.fc
  go_enter Try.func47, Try.ntmps47
  go_wp2
  go_region_held3 (fun w' => w'.cell? ⟨kb, 0, none⟩ = some (.int .i64 k) ∧ w'.cell? ⟨fb, 0, none⟩ = some (.func (.func 17) #[.agg #[.int .i64 (R.n : Int), .slice R.a R.m R.c, .int .i64 (R.cn : Int), .int .i64 (R.cW : Int), .int .i64 (R.cL : Int), .slice R.a2 R.m2 R.c2]] #[]))
    (first
      | go_keep
      | exact ⟨hA.kc, hA.fc⟩)
    (first
      | (go_at_call 17; (with_reducible refine (HC.out _ hA).mono ?_); rintro e u ⟨rfl, hA⟩)
      | (go_at_call 17; (with_reducible refine (HC.out _ hA.drew).mono ?_); rintro e u ⟨rfl, hA⟩))
  all_goals
    have HB := Lib.hid hA
    clear hA q1 hk1 hk2
    go_wp2
    go_ret
    exact ⟨rfl, HB.out⟩


end Go.Proofs.Ytfhlcclbjagdmaa

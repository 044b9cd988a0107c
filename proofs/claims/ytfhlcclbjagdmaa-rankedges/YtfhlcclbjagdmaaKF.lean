/- The contract of find. -/
import Derived.Test.YtfhlcclbjagdmaaKE
namespace Go.Proofs.Ytfhlcclbjagdmaa
open Go.RowKit
open M
attribute [local go_sem ↓] Go.wp_at_zero Go.wp_at_succ

theorem FA.new {w : World} {R : RP} {l : List Bool} (k : Int) (fv : Value) (h : RK w R l) :
    FA w w.heap.size R l (w.heap.size + 1) (w.heap.size + 1 + 1) k fv (((w.alloc (.cells #[.int .i64 (R.n : Int), .slice R.a R.m R.c, .int .i64 (R.cn : Int), .int .i64 (R.cW : Int), .int .i64 (R.cL : Int), .slice R.a2 R.m2 R.c2] 35)).alloc (.cells #[.int .i64 k] 3)).alloc (.cells #[fv] 39)) := by
  have hA := RA.new h
  generalize hw1 : w.alloc (.cells #[.int .i64 (R.n : Int), .slice R.a R.m R.c, .int .i64 (R.cn : Int), .int .i64 (R.cW : Int), .int .i64 (R.cL : Int), .slice R.a2 R.m2 R.c2] 35) = w1 at *
  have hz1 : w1.heap.size = w.heap.size + 1 := by rw [← hw1, World.size_alloc]
  have b1 : Below w1.heap.size w1 (w1.alloc (.cells #[.int .i64 k] 3)) := (Below.refl _ _).alloc (Nat.le_refl _) _
  have c1 : (w1.alloc (.cells #[.int .i64 k] 3)).cell? ⟨w1.heap.size, 0, none⟩ = some (.int .i64 k) := by simp
  generalize hw2 : w1.alloc (.cells #[.int .i64 k] 3) = w2 at *
  have hz2 : w2.heap.size = w1.heap.size + 1 := by rw [← hw2, World.size_alloc]
  have b2 : Below w2.heap.size w2 (w2.alloc (.cells #[fv] 39)) := (Below.refl _ _).alloc (Nat.le_refl _) _
  have c2 : (w2.alloc (.cells #[fv] 39)).cell? ⟨w2.heap.size, 0, none⟩ = some fv := by simp
  rw [← hz1, ← hz2]
  exact ⟨(hA.kept b1).kept b2, by rw [b2.cell (p := ⟨w1.heap.size, 0, none⟩) (by simp only; omega)]; exact c1, c2⟩

theorem sel_mono (b : Bool) (l : List Bool) (k : Int) (n i j : Nat) (hij : i ≤ j) (_hj : j < n) (h : decide (k < (rkN b l (i + 1) : Int)) = true) : decide (k < (rkN b l (j + 1) : Int)) = true := by
  have := rkN_mono b l (i + 1) (j + 1) (by omega)
  simp at h ⊢
  omega

set_option maxHeartbeats 1000000 in
theorem find_16 (R : RP) (l : List Bool) (k : Int) (w : World) (h : RK w R l) :
    Calls Try.prog 36 #[.agg #[.int .i64 (R.n : Int), .slice R.a R.m R.c, .int .i64 (R.cn : Int), .int .i64 (R.cW : Int), .int .i64 (R.cL : Int), .slice R.a2 R.m2 R.c2], .int .i64 k, .func (.func 16) #[.agg #[.int .i64 (R.n : Int), .slice R.a R.m R.c, .int .i64 (R.cn : Int), .int .i64 (R.cW : Int), .int .i64 (R.cL : Int), .slice R.a2 R.m2 R.c2]] #[]] w fun e w' => e = .returned (.int .i64 (selN true l k)) ∧ Below w.heap.size w w' := by
  have hA := FA.new k (.func (.func 16) #[.agg #[.int .i64 (R.n : Int), .slice R.a R.m R.c, .int .i64 (R.cn : Int), .int .i64 (R.cW : Int), .int .i64 (R.cL : Int), .slice R.a2 R.m2 R.c2]] #[]) h
  have hs := h.small
  have hlen := h.len
  clear h
  have hund : undef = Value.tuple #[] := rfl
  by_cases hk : k < 0
  · have hd : decide (k < 0) = true := by simpa using hk
    have HV := Lib.hid (selN_none true l k (.inl hk))
    clear hk
    go_enter Try.func36, Try.ntmps36
    go_wp2
    have hk1 := hA.kc
    generalize ((w.alloc (.cells #[.int .i64 (R.n : Int), .slice R.a R.m R.c, .int .i64 (R.cn : Int), .int .i64 (R.cW : Int), .int .i64 (R.cL : Int), .slice R.a2 R.m2 R.c2] 35)).alloc (.cells #[.int .i64 k] 3)).alloc (.cells #[.func (.func 16) #[.agg #[.int .i64 (R.n : Int), .slice R.a R.m R.c, .int .i64 (R.cn : Int), .int .i64 (R.cW : Int), .int .i64 (R.cL : Int), .slice R.a2 R.m2 R.c2]] #[]] 39) = u at *
    go_quiet (fail)
    all_goals
      have HB := Lib.hid hA.ra.bel
      clear hA
      go_wp2
      go_ret
      exact ⟨ret_int (by rw [HV.out]), below_drewN HB.out _⟩
  · have hd : decide (k < 0) = false := by simpa using hk
    have hcall := fun u (hu : FA w w.heap.size R l (w.heap.size + 1) (w.heap.size + 1 + 1) k (.func (.func 16) #[.agg #[.int .i64 (R.n : Int), .slice R.a R.m R.c, .int .i64 (R.cn : Int), .int .i64 (R.cW : Int), .int .i64 (R.cL : Int), .slice R.a2 R.m2 R.c2]] #[]) u) => rank1_fa (R.n : Int) hu
    rw [rk1_all l R.n hlen] at hcall
    have HC := Lib.hid hcall
    clear hcall
    by_cases hkn : k < (rkN true l R.n : Int)
    · have hv : selN true l k = (firstN R.n fun i => decide (k < (rkN true l (i + 1) : Int)) : Nat) := by
        unfold selN; rw [hlen, if_pos (by omega)]
      have HV := Lib.hid hv
      have HM := Lib.hid (sel_mono true l k R.n)
      have hge : decide ((rkN true l R.n : Int) ≤ k) = false := by simp; omega
      clear hv
      generalize rkN true l R.n = cn at *
      clear hkn
      go_enter Try.func36, Try.ntmps36
      go_wp2
      obtain ⟨l0, l1, l2, l3, l4, l5⟩ := hA.ra.box
      have hk1 := hA.kc
      have hk2 := hA.fc
      generalize ((w.alloc (.cells #[.int .i64 (R.n : Int), .slice R.a R.m R.c, .int .i64 (R.cn : Int), .int .i64 (R.cW : Int), .int .i64 (R.cL : Int), .slice R.a2 R.m2 R.c2] 35)).alloc (.cells #[.int .i64 k] 3)).alloc (.cells #[.func (.func 16) #[.agg #[.int .i64 (R.n : Int), .slice R.a R.m R.c, .int .i64 (R.cn : Int), .int .i64 (R.cW : Int), .int .i64 (R.cL : Int), .slice R.a2 R.m2 R.c2]] #[]] 39) = u at *
      generalize hbx : w.heap.size = bx at *
      go_region_held3 (fun w' => w'.cell? ⟨bx, 0, none⟩ = some (.int .i64 (R.n : Int)) ∧ w'.cell? ⟨bx, 1, none⟩ = some (.slice R.a R.m R.c) ∧ w'.cell? ⟨bx, 2, none⟩ = some (.int .i64 (R.cn : Int)) ∧ w'.cell? ⟨bx, 3, none⟩ = some (.int .i64 (R.cW : Int)) ∧ w'.cell? ⟨bx, 4, none⟩ = some (.int .i64 (R.cL : Int)) ∧ w'.cell? ⟨bx, 5, none⟩ = some (.slice R.a2 R.m2 R.c2) ∧ w'.cell? ⟨bx + 1, 0, none⟩ = some (.int .i64 k) ∧ w'.cell? ⟨bx + 1 + 1, 0, none⟩ = some (.func (.func 16) #[.agg #[.int .i64 (R.n : Int), .slice R.a R.m R.c, .int .i64 (R.cn : Int), .int .i64 (R.cW : Int), .int .i64 (R.cL : Int), .slice R.a2 R.m2 R.c2]] #[]))
        (first
          | go_keep
          | exact ⟨hA.ra.box.c0, hA.ra.box.c1, hA.ra.box.c2, hA.ra.box.c3, hA.ra.box.c4, hA.ra.box.c5, hA.kc, hA.fc⟩)
        (first
          | (go_at_call 13; (with_reducible refine (rlen_fa hA).mono ?_); rintro e u ⟨rfl, hA⟩)
          | (go_at_call 13; (with_reducible refine (rlen_fa hA.drew).mono ?_); rintro e u ⟨rfl, hA⟩)
          | (go_at_call 16; (with_reducible refine (HC.out _ hA).mono ?_); rintro e u ⟨rfl, hA⟩))
      all_goals
        obtain ⟨l0, l1, l2, l3, l4, l5⟩ := hA.ra.box
        have HA := Lib.hid hA
        clear hA
        go_wp2_with fail
        refine (rlen_fa HA.out).mono ?_
        clear l0 l1 l2 l3 l4 l5
        rintro e u2 ⟨rfl, hA⟩
        have HA2 := Lib.hid hA
        clear hA HA
        go_wp2_with fail
        refine (firstPlace_any 47 _ R.n (fun i => decide (k < (rkN true l (i + 1) : Int))) _ _ ent47 hs HM.out HA2.out ?tells).mono ?_
        case tells => exact fun i x u hi hx hu => find1_16 i x hu hi hx
        rintro e u3 ⟨rfl, hA⟩
        have HB := Lib.hid hA.ra.bel
        subst hbx
        clear hA HA2
        go_wp2
        go_ret
        exact ⟨ret_int (by rw [HV.out]), HB.out⟩
    · have HV := Lib.hid (selN_none true l k (.inr (by rw [hlen]; omega)))
      have hge : decide ((rkN true l R.n : Int) ≤ k) = true := by simp; omega
      generalize rkN true l R.n = cn at *
      clear hkn
      go_enter Try.func36, Try.ntmps36
      go_wp2
      obtain ⟨l0, l1, l2, l3, l4, l5⟩ := hA.ra.box
      have hk1 := hA.kc
      have hk2 := hA.fc
      generalize ((w.alloc (.cells #[.int .i64 (R.n : Int), .slice R.a R.m R.c, .int .i64 (R.cn : Int), .int .i64 (R.cW : Int), .int .i64 (R.cL : Int), .slice R.a2 R.m2 R.c2] 35)).alloc (.cells #[.int .i64 k] 3)).alloc (.cells #[.func (.func 16) #[.agg #[.int .i64 (R.n : Int), .slice R.a R.m R.c, .int .i64 (R.cn : Int), .int .i64 (R.cW : Int), .int .i64 (R.cL : Int), .slice R.a2 R.m2 R.c2]] #[]] 39) = u at *
      generalize hbx : w.heap.size = bx at *
      go_region_held3 (fun w' => w'.cell? ⟨bx, 0, none⟩ = some (.int .i64 (R.n : Int)) ∧ w'.cell? ⟨bx, 1, none⟩ = some (.slice R.a R.m R.c) ∧ w'.cell? ⟨bx, 2, none⟩ = some (.int .i64 (R.cn : Int)) ∧ w'.cell? ⟨bx, 3, none⟩ = some (.int .i64 (R.cW : Int)) ∧ w'.cell? ⟨bx, 4, none⟩ = some (.int .i64 (R.cL : Int)) ∧ w'.cell? ⟨bx, 5, none⟩ = some (.slice R.a2 R.m2 R.c2) ∧ w'.cell? ⟨bx + 1, 0, none⟩ = some (.int .i64 k) ∧ w'.cell? ⟨bx + 1 + 1, 0, none⟩ = some (.func (.func 16) #[.agg #[.int .i64 (R.n : Int), .slice R.a R.m R.c, .int .i64 (R.cn : Int), .int .i64 (R.cW : Int), .int .i64 (R.cL : Int), .slice R.a2 R.m2 R.c2]] #[]))
        (first
          | go_keep
          | exact ⟨hA.ra.box.c0, hA.ra.box.c1, hA.ra.box.c2, hA.ra.box.c3, hA.ra.box.c4, hA.ra.box.c5, hA.kc, hA.fc⟩)
        (first
          | (go_at_call 13; (with_reducible refine (rlen_fa hA).mono ?_); rintro e u ⟨rfl, hA⟩)
          | (go_at_call 13; (with_reducible refine (rlen_fa hA.drew).mono ?_); rintro e u ⟨rfl, hA⟩)
          | (go_at_call 16; (with_reducible refine (HC.out _ hA).mono ?_); rintro e u ⟨rfl, hA⟩))
      all_goals
        have HB := Lib.hid hA.ra.bel
        subst hbx
        clear hA
        go_wp2
        go_ret
        exact ⟨ret_int (by rw [HV.out]), HB.out⟩

set_option maxHeartbeats 1000000 in
theorem find_17 (R : RP) (l : List Bool) (k : Int) (w : World) (h : RK w R l) :
    Calls Try.prog 36 #[.agg #[.int .i64 (R.n : Int), .slice R.a R.m R.c, .int .i64 (R.cn : Int), .int .i64 (R.cW : Int), .int .i64 (R.cL : Int), .slice R.a2 R.m2 R.c2], .int .i64 k, .func (.func 17) #[.agg #[.int .i64 (R.n : Int), .slice R.a R.m R.c, .int .i64 (R.cn : Int), .int .i64 (R.cW : Int), .int .i64 (R.cL : Int), .slice R.a2 R.m2 R.c2]] #[]] w fun e w' => e = .returned (.int .i64 (selN false l k)) ∧ Below w.heap.size w w' := by
  have hA := FA.new k (.func (.func 17) #[.agg #[.int .i64 (R.n : Int), .slice R.a R.m R.c, .int .i64 (R.cn : Int), .int .i64 (R.cW : Int), .int .i64 (R.cL : Int), .slice R.a2 R.m2 R.c2]] #[]) h
  have hs := h.small
  have hlen := h.len
  clear h
  have hund : undef = Value.tuple #[] := rfl
  by_cases hk : k < 0
  · have hd : decide (k < 0) = true := by simpa using hk
    have HV := Lib.hid (selN_none false l k (.inl hk))
    clear hk
    go_enter Try.func36, Try.ntmps36
    go_wp2
    have hk1 := hA.kc
    generalize ((w.alloc (.cells #[.int .i64 (R.n : Int), .slice R.a R.m R.c, .int .i64 (R.cn : Int), .int .i64 (R.cW : Int), .int .i64 (R.cL : Int), .slice R.a2 R.m2 R.c2] 35)).alloc (.cells #[.int .i64 k] 3)).alloc (.cells #[.func (.func 17) #[.agg #[.int .i64 (R.n : Int), .slice R.a R.m R.c, .int .i64 (R.cn : Int), .int .i64 (R.cW : Int), .int .i64 (R.cL : Int), .slice R.a2 R.m2 R.c2]] #[]] 39) = u at *
    go_quiet (fail)
    all_goals
      have HB := Lib.hid hA.ra.bel
      clear hA
      go_wp2
      go_ret
      exact ⟨ret_int (by rw [HV.out]), below_drewN HB.out _⟩
  · have hd : decide (k < 0) = false := by simpa using hk
    have hcall := fun u (hu : FA w w.heap.size R l (w.heap.size + 1) (w.heap.size + 1 + 1) k (.func (.func 17) #[.agg #[.int .i64 (R.n : Int), .slice R.a R.m R.c, .int .i64 (R.cn : Int), .int .i64 (R.cW : Int), .int .i64 (R.cL : Int), .slice R.a2 R.m2 R.c2]] #[]) u) => rank0_fa (R.n : Int) hu
    rw [rk0_all l R.n hlen] at hcall
    have HC := Lib.hid hcall
    clear hcall
    by_cases hkn : k < (rkN false l R.n : Int)
    · have hv : selN false l k = (firstN R.n fun i => decide (k < (rkN false l (i + 1) : Int)) : Nat) := by
        unfold selN; rw [hlen, if_pos (by omega)]
      have HV := Lib.hid hv
      have HM := Lib.hid (sel_mono false l k R.n)
      have hge : decide ((rkN false l R.n : Int) ≤ k) = false := by simp; omega
      clear hv
      generalize rkN false l R.n = cn at *
      clear hkn
      go_enter Try.func36, Try.ntmps36
      go_wp2
      obtain ⟨l0, l1, l2, l3, l4, l5⟩ := hA.ra.box
      have hk1 := hA.kc
      have hk2 := hA.fc
      generalize ((w.alloc (.cells #[.int .i64 (R.n : Int), .slice R.a R.m R.c, .int .i64 (R.cn : Int), .int .i64 (R.cW : Int), .int .i64 (R.cL : Int), .slice R.a2 R.m2 R.c2] 35)).alloc (.cells #[.int .i64 k] 3)).alloc (.cells #[.func (.func 17) #[.agg #[.int .i64 (R.n : Int), .slice R.a R.m R.c, .int .i64 (R.cn : Int), .int .i64 (R.cW : Int), .int .i64 (R.cL : Int), .slice R.a2 R.m2 R.c2]] #[]] 39) = u at *
      generalize hbx : w.heap.size = bx at *
      go_region_held3 (fun w' => w'.cell? ⟨bx, 0, none⟩ = some (.int .i64 (R.n : Int)) ∧ w'.cell? ⟨bx, 1, none⟩ = some (.slice R.a R.m R.c) ∧ w'.cell? ⟨bx, 2, none⟩ = some (.int .i64 (R.cn : Int)) ∧ w'.cell? ⟨bx, 3, none⟩ = some (.int .i64 (R.cW : Int)) ∧ w'.cell? ⟨bx, 4, none⟩ = some (.int .i64 (R.cL : Int)) ∧ w'.cell? ⟨bx, 5, none⟩ = some (.slice R.a2 R.m2 R.c2) ∧ w'.cell? ⟨bx + 1, 0, none⟩ = some (.int .i64 k) ∧ w'.cell? ⟨bx + 1 + 1, 0, none⟩ = some (.func (.func 17) #[.agg #[.int .i64 (R.n : Int), .slice R.a R.m R.c, .int .i64 (R.cn : Int), .int .i64 (R.cW : Int), .int .i64 (R.cL : Int), .slice R.a2 R.m2 R.c2]] #[]))
        (first
          | go_keep
          | exact ⟨hA.ra.box.c0, hA.ra.box.c1, hA.ra.box.c2, hA.ra.box.c3, hA.ra.box.c4, hA.ra.box.c5, hA.kc, hA.fc⟩)
        (first
          | (go_at_call 13; (with_reducible refine (rlen_fa hA).mono ?_); rintro e u ⟨rfl, hA⟩)
          | (go_at_call 13; (with_reducible refine (rlen_fa hA.drew).mono ?_); rintro e u ⟨rfl, hA⟩)
          | (go_at_call 17; (with_reducible refine (HC.out _ hA).mono ?_); rintro e u ⟨rfl, hA⟩))
      all_goals
        obtain ⟨l0, l1, l2, l3, l4, l5⟩ := hA.ra.box
        have HA := Lib.hid hA
        clear hA
        go_wp2_with fail
        refine (rlen_fa HA.out).mono ?_
        clear l0 l1 l2 l3 l4 l5
        rintro e u2 ⟨rfl, hA⟩
        have HA2 := Lib.hid hA
        clear hA HA
        go_wp2_with fail
        refine (firstPlace_any 47 _ R.n (fun i => decide (k < (rkN false l (i + 1) : Int))) _ _ ent47 hs HM.out HA2.out ?tells).mono ?_
        case tells => exact fun i x u hi hx hu => find1_17 i x hu hi hx
        rintro e u3 ⟨rfl, hA⟩
        have HB := Lib.hid hA.ra.bel
        subst hbx
        clear hA HA2
        go_wp2
        go_ret
        exact ⟨ret_int (by rw [HV.out]), HB.out⟩
    · have HV := Lib.hid (selN_none false l k (.inr (by rw [hlen]; omega)))
      have hge : decide ((rkN false l R.n : Int) ≤ k) = true := by simp; omega
      generalize rkN false l R.n = cn at *
      clear hkn
      go_enter Try.func36, Try.ntmps36
      go_wp2
      obtain ⟨l0, l1, l2, l3, l4, l5⟩ := hA.ra.box
      have hk1 := hA.kc
      have hk2 := hA.fc
      generalize ((w.alloc (.cells #[.int .i64 (R.n : Int), .slice R.a R.m R.c, .int .i64 (R.cn : Int), .int .i64 (R.cW : Int), .int .i64 (R.cL : Int), .slice R.a2 R.m2 R.c2] 35)).alloc (.cells #[.int .i64 k] 3)).alloc (.cells #[.func (.func 17) #[.agg #[.int .i64 (R.n : Int), .slice R.a R.m R.c, .int .i64 (R.cn : Int), .int .i64 (R.cW : Int), .int .i64 (R.cL : Int), .slice R.a2 R.m2 R.c2]] #[]] 39) = u at *
      generalize hbx : w.heap.size = bx at *
      go_region_held3 (fun w' => w'.cell? ⟨bx, 0, none⟩ = some (.int .i64 (R.n : Int)) ∧ w'.cell? ⟨bx, 1, none⟩ = some (.slice R.a R.m R.c) ∧ w'.cell? ⟨bx, 2, none⟩ = some (.int .i64 (R.cn : Int)) ∧ w'.cell? ⟨bx, 3, none⟩ = some (.int .i64 (R.cW : Int)) ∧ w'.cell? ⟨bx, 4, none⟩ = some (.int .i64 (R.cL : Int)) ∧ w'.cell? ⟨bx, 5, none⟩ = some (.slice R.a2 R.m2 R.c2) ∧ w'.cell? ⟨bx + 1, 0, none⟩ = some (.int .i64 k) ∧ w'.cell? ⟨bx + 1 + 1, 0, none⟩ = some (.func (.func 17) #[.agg #[.int .i64 (R.n : Int), .slice R.a R.m R.c, .int .i64 (R.cn : Int), .int .i64 (R.cW : Int), .int .i64 (R.cL : Int), .slice R.a2 R.m2 R.c2]] #[]))
        (first
          | go_keep
          | exact ⟨hA.ra.box.c0, hA.ra.box.c1, hA.ra.box.c2, hA.ra.box.c3, hA.ra.box.c4, hA.ra.box.c5, hA.kc, hA.fc⟩)
        (first
          | (go_at_call 13; (with_reducible refine (rlen_fa hA).mono ?_); rintro e u ⟨rfl, hA⟩)
          | (go_at_call 13; (with_reducible refine (rlen_fa hA.drew).mono ?_); rintro e u ⟨rfl, hA⟩)
          | (go_at_call 17; (with_reducible refine (HC.out _ hA).mono ?_); rintro e u ⟨rfl, hA⟩))
      all_goals
        have HB := Lib.hid hA.ra.bel
        subst hbx
        clear hA
        go_wp2
        go_ret
        exact ⟨ret_int (by rw [HV.out]), HB.out⟩

end Go.Proofs.Ytfhlcclbjagdmaa
